import PyProof.Rows.All
import Wide.All
import OpenK.AllK
import Wide.FinOn
import Lean
import PyProof.EqAt
import PyProof.EqKinds
import PyProof.TupleCall
import KE.KSortKey
import KE.KLam
import PySem.Challenge.RW_shortrows_k29_whole_no_book_shorter
namespace PySem.W.Fast
noncomputable def tw7352307745003834607:=0
noncomputable def tw4518708681074264451:=0
noncomputable def tw2970756281325020854:=0
noncomputable def tw10297830442951606720:=0
noncomputable def tw11692629988532510733:=0
noncomputable def tw7521692646429376670:=0
noncomputable def tw3048996322407243327:=0
noncomputable def tw3997864876340225343:=0
noncomputable def tw11391150627024830278:=0
noncomputable def tw10145461649933020385:=0
noncomputable def tw9582819973582082481:=0
noncomputable def tw2112322725495991323:=0
noncomputable def tw8343048453214031687:=0
noncomputable def tw9235402752831085862:=0
noncomputable def tw9395279733595570712:=0
noncomputable def tw5994516362402995671:=0
noncomputable def tw13534306322017089783:=0
noncomputable def tw6869062874634578724:=0
noncomputable def tw7467665658913432037:=0
noncomputable def tw10216498328254523224:=0
noncomputable def tw14980910425711283037:=0
noncomputable def tw9141187844392969575:=0
noncomputable def tw11745286719883827121:=0
noncomputable def tw15213084437561957945:=0
noncomputable def tw8758626159190106607:=0
noncomputable def tw6240585822644637252:=0
noncomputable def tw7179529682974509155:=0
noncomputable def tw5771948738671006759:=0
noncomputable def tw4765597567713395254:=0
noncomputable def tw10714216916255617750:=0
noncomputable def tw14771925341663926947:=0
noncomputable def tw11574887297309931445:=0
noncomputable def tw10245979462264100830:=0
noncomputable def tw1467139854508589813:=0
noncomputable def tw17608339850775318110:=0
noncomputable def tw12684987631177512837:=0
noncomputable def tw10764571355744746282:=0
noncomputable def tw9819018750240266739:=0
noncomputable def tw10587503872952400105:=0
noncomputable def tw12300703614421013843:=0
noncomputable def tw1145489280312546515:=0
noncomputable def tw13419506228319152555:=0
noncomputable def tw10447720596812822156:=0
noncomputable def tw14022237235555745565:=0
noncomputable def tw18325750958587280509:=0
noncomputable def tw1096565229260945888:=0
noncomputable def tw2431698465087995605:=0
noncomputable def tw3242408267704733036:=0
noncomputable def tw3834155127460957348:=0
noncomputable def tw12538902017573067731:=0
noncomputable def tw16328963487882715610:=0
noncomputable def tw2912204114789012385:=0
noncomputable def tw5343469089676043696:=0
noncomputable def tw1125543702769128152:=0
noncomputable def tw5554690776825491617:=0
noncomputable def tw1008254182538982110:=0
noncomputable def tw8525979971551615412:=0
noncomputable def tw17141625239757158192:=0
noncomputable def tw18236244232985489407:=0
noncomputable def tw6986858443615235687:=0
noncomputable def tw15681750831763443788:=0
noncomputable def tw772963914709964102:=0
noncomputable def tw39564377053012203:=0
noncomputable def tw9026454234043858304:=0
noncomputable def tw14572601879719329507:=0
noncomputable def tw11341564379511263818:=0
noncomputable def tw5105152316823269521:=0
noncomputable def tw127683224619447787:=0
noncomputable def tw17784284547277390677:=0
noncomputable def tw15194240831062811187:=0
noncomputable def tw3621038393521681671:=0
noncomputable def tw15765971886110328316:=0
noncomputable def tw7787240970071141393:=0
noncomputable def tw5466491008687600712:=0
noncomputable def tw14216015171198734273:=0
noncomputable def tw9919324545852459570:=0
noncomputable def tw12752163326637026890:=0
noncomputable def tw8880666461483486781:=0
noncomputable def tw18027245072315366224:=0
noncomputable def tw12862763528404716144:=0
noncomputable def tw9500032524890165327:=0
noncomputable def tw4318946693672046297:=0
noncomputable def tw7605247419803386260:=0
noncomputable def tw5116570182866502149:=0
noncomputable def tw6447696972635064546:=0
noncomputable def tw13458537031600869724:=0
noncomputable def tw6470457866527901676:=0
noncomputable def tw10619708202848178250:=0
noncomputable def tw10741511841292013710:=0
noncomputable def tw15518342327879292151:=0
noncomputable def tw8691799323344369150:=0
noncomputable def tw11771580917046736563:=0
noncomputable def tw8908420588037107771:=0
noncomputable def tw11971567947930105039:=0
noncomputable def tw9401417012537902148:=0
noncomputable def tw1170465101664996003:=0
noncomputable def tw18069895778994921095:=0
noncomputable def tw493218508299518191:=0
noncomputable def tw13748964734943860478:=0
noncomputable def tw8014694300091023483:=0
noncomputable def tw8168054927523867182:=0
noncomputable def tw12708942016141592000:=0
noncomputable def tw15095806417255401340:=0
noncomputable def tw16413804039497572958:=0
noncomputable def tw11849407358191922942:=0
noncomputable def tw17333006308117413499:=0
noncomputable def tw4845356834881803248:=0
noncomputable def tw3989467794465897593:=0
noncomputable def tw15001583931575922032:=0
noncomputable def tw10469876081054521852:=0
noncomputable def tw12005874804540571860:=0
noncomputable def tw8828186807118071596:=0
noncomputable def tw9233971268395724010:=0
noncomputable def tw5897867419737015367:=0
noncomputable def tw1714608222003748427:=0
noncomputable def tw6519175920242689367:=0
noncomputable def tw1884279199728255935:=0
noncomputable def tw15247518842684951313:=0
noncomputable def tw6752635302505382608:=0
noncomputable def tw3032112102333132486:=0
noncomputable def tw14149088909388406781:=0
noncomputable def tw18435424172959486601:=0
noncomputable def tw18420656184278608245:=0
noncomputable def tw7838737979850443097:=0
noncomputable def tw11622665546139202825:=0
noncomputable def tw1183299183452250285:=0
noncomputable def tw1425802699824110300:=0
noncomputable def tw6384908636926410680:=0
noncomputable def tw236846381592477418:=0
noncomputable def tw13248909238775884817:=0
noncomputable def tw18306143089631777543:=0
noncomputable def tw15209740785595782064:=0
noncomputable def tw10312932916988584744:=0
noncomputable def tw6431833202739091634:=0
noncomputable def tw10656051656134499908:=0
noncomputable def tw3459402142163544294:=0
noncomputable def tw3102779769088896631:=0
noncomputable def tw17397673157144428548:=0
noncomputable def tw8973069354079506498:=0
noncomputable def tw9599110159389366496:=0
noncomputable def tw2193010996043839550:=0
noncomputable def tw11608594288738865267:=0
noncomputable def tw8296271411659678090:=0
noncomputable def tw17839049393706310518:=0
noncomputable def tw1446000032638767299:=0
noncomputable def tw13682401489952770970:=0
noncomputable def tw16103903838348724219:=0
noncomputable def tw14835708591825185992:=0
noncomputable def tw2911217791755555212:=0
noncomputable def tw15164472862042244117:=0
noncomputable def tw11692324240339384007:=0
noncomputable def tw3165321661578374179:=0
noncomputable def tw3247139635437695628:=0
noncomputable def tw5477136341808524064:=0
noncomputable def tw2627387135036426783:=0
noncomputable def tw7776134148760915951:=0
noncomputable def tw8348414516965312074:=0
noncomputable def tw10788168186496035004:=0
noncomputable def tw8611088943481469392:=0
noncomputable def tw3208248185736058942:=0
noncomputable def tw4671720895928137525:=0
noncomputable def tw6719971033679601004:=0
noncomputable def tw1703352354637835657:=0
noncomputable def tw18070248777139706459:=0
noncomputable def tw11511784229155333800:=0
noncomputable def tw11559015217252878927:=0
noncomputable def tw16074018909453879731:=0
noncomputable def tw9507923328550346098:=0
noncomputable def tw14247453443041946972:=0
noncomputable def tw18139160223276843596:=0
noncomputable def tw1525735114779766073:=0
noncomputable def tw12095526016512589318:=0
noncomputable def tw7737770950341354440:=0
noncomputable def tw14026329246800867094:=0
noncomputable def tw10010086666712924868:=0
noncomputable def tw8489342150290662293:=0
noncomputable def tw4377341858402413386:=0
noncomputable def tw2136421770364218657:=0
noncomputable def tw8073106420522531150:=0
noncomputable def tw6621027201102644660:=0
noncomputable def tw11555534876036692639:=0
noncomputable def tw6543436938899599095:=0
noncomputable def tw7200341012697726124:=0
noncomputable def tw14959068496652917130:=0
noncomputable def tw14046587302681591856:=0
noncomputable def tw16113702693450084651:=0
noncomputable def tw14577357516946369982:=0
noncomputable def tw7639798882165726262:=0
noncomputable def tw10734297029836359536:=0
noncomputable def tw14740096257273270876:=0
noncomputable def tw17740629950057654074:=0
noncomputable def tw13391247371511181040:=0
noncomputable def tw17234349605289856218:=0
noncomputable def tw11153912364556169162:=0
noncomputable def tw18170845909031518588:=0
noncomputable def tw3252472122675404236:=0
noncomputable def tw9722888448132051242:=0
noncomputable def tw6177632957012837807:=0
noncomputable def tw6753568283439422964:=0
noncomputable def tw8153334948281349853:=0
noncomputable def tw11290120364252531063:=0
noncomputable def tw8148352475009426385:=0
noncomputable def tw15871676483027950332:=0
noncomputable def tw5712371117659141965:=0
noncomputable def tw14411683530623598278:=0
noncomputable def tw11830144080324768984:=0
end PySem.W.Fast
set_option Elab.async false
set_option linter.all false
set_option maxRecDepth 100000
set_option maxHeartbeats 4000000
noncomputable section
set_option compiler.extract_closed false
theorem ℜz0(_:True:=by rfl):True:=⟨⟩
def ℜ0:Lean.Syntax:=ℜz0._auto_1
theorem ℜz1(_:True:=by decide):True:=⟨⟩
def ℜ1:Lean.Syntax:=ℜz1._auto_1
theorem ℜz2(_:True:=by first|exact .inl rfl|exact .inr rfl|assumption):True:=⟨⟩
def ℜ2:Lean.Syntax:=ℜz2._auto_1
theorem ℜz3(_:True:=by intro _;rfl):True:=⟨⟩
def ℜ3:Lean.Syntax:=ℜz3._auto_1
theorem ℜz4(_:True:=by first|exact Or.inl rfl|exact Or.inr (Or.inl rfl)|exact Or.inr (Or.inr rfl)):True:=⟨⟩
def ℜ4:Lean.Syntax:=ℜz4._auto_1
theorem ℜz6(_:True:=by decide +kernel):True:=⟨⟩
def ℜ6:Lean.Syntax:=ℜz6._auto_1
namespace L2
open PySem PySem.Spec PyProof.Rows
variable{us:List Value}{x:Str}{u:Value}{a b:Addr}{o:Obj}{base h:Heap}{items:Array Value}{P:Program}{w:World}{g':Array GenState}{ch fp:List Addr}{c e tg:Expr}{N:List Str}{i j k:Nat}{M:Model}{E Q:Value->Shared->Prop}{s s':Shared}{pins:List (Addr×Obj)}{f:Value->Value->Sem Value}{es:List Expr}{body:List Stmt}{mA mg:Str->Option Value}{fd:FuncData}{kindOf:Str->Option NameKind}{scope:Scope}
noncomputable def KR:=@PySem.wpAny_bind
noncomputable def KU:=@PySem.Heap.get?_push_of_some
noncomputable def KW:=@List.length_append
noncomputable def KY:=@List.getElem?_eq_getElem
noncomputable def KZ:=@List.length_cons
noncomputable def K_:=@if_neg
noncomputable def Ld:=@List.length_map
noncomputable def Le:=@List.mem_cons_of_mem
noncomputable def Lf:=@Nat.le_refl
noncomputable def Lg:=@if_pos
noncomputable def Lh:=@List.size_toArray
noncomputable def Li:=@List.getElem?_eq_some_iff
noncomputable def Lj:=@List.mem_cons_self
noncomputable def Lk:=@PySem.wpAny_pure
noncomputable def Ll:=@List.mem_cons
noncomputable def Lm:=@Bool.false_ne_true
noncomputable def Ln:=@List.mem_singleton
noncomputable def Lo:=@PySem.Heap.get?_push_size
noncomputable def Lp:=@List.length_replicate
noncomputable def Lq:=@PySem.Heap.lt_size
noncomputable def Lr:=@Nat.le_trans
noncomputable def Ls:=@List.getD_eq_getElem?_getD
noncomputable def Lu:=@Nat.lt_of_le_of_lt
noncomputable def Lv:=@List.map_append
noncomputable def Lw:=@List.getElem?_map
noncomputable def Ly:=@List.append_assoc
noncomputable def Lz:=@List.map_cons
noncomputable def L0:=@decide_eq_false
noncomputable def L1:=@List.mem_append
noncomputable def L3:=@List.append_nil
noncomputable def L4:=@Nat.lt_of_lt_of_le
noncomputable def L5:=@List.mem_append_right
noncomputable def L6:=@Int.toNat_natCast
noncomputable def L7:=@List.length_range
noncomputable def L8:=@Array.getElem?_toList
noncomputable def L9:=@Nat.ne_of_lt
noncomputable def LA:=@Nat.zero_le
noncomputable def LC:=@List.replicate_succ
noncomputable def LD:=@List.mem_map
noncomputable def LF:=@congrArg
noncomputable def LG:=@List.pairwise_cons
noncomputable def LH:=@Array.length_toList
noncomputable def LI:=@List.length_nil
noncomputable def LJ:=@List.drop_eq_getElem_cons
noncomputable def LK:=@List.not_mem_nil
noncomputable def LL:=@List.getElem_mem
noncomputable def LM:=@Nat.lt_of_succ_lt
noncomputable def LN:=@Array.getElem?_eq_some_iff
noncomputable def LO:=@List.length_singleton
noncomputable def LP:=@List.nodup_cons
noncomputable def LQ:=@PySem.PassesOwn.never
noncomputable def LR:=@List.length_take
noncomputable def LS:=@Bool.and_eq_true
noncomputable def LU:=@List.length_range'
noncomputable def LV:=@PySem.wpAny_holding
noncomputable def LW:=@List.perm_middle
noncomputable def LX:=@List.flatten_cons
noncomputable def LY:=@PySem.wpAny_callSpecial?_slot
noncomputable def LZ:=@List.mem_range
noncomputable def L_:=@List.all_cons
noncomputable def Ma:=@Bool.false_eq_true
noncomputable def Mb:=@Nat.pow_le_pow_right
noncomputable def Mc:=@List.getElem?_set_self
noncomputable def Md:=@PySem.wpAny_field
noncomputable def Me:=@List.range'_succ
noncomputable def Mf:=@List.getElem?_eq_none_iff
noncomputable def Mg:=@PySem.wpAny_mono
noncomputable def Mh:=@PySem.wpAny_newObj_type
noncomputable def Mi:=@decide_eq_true
noncomputable def Mj:=@List.getElem?_toArray
noncomputable def Mk:=@List.take_append_drop
noncomputable def Ml:=@List.map_map
noncomputable def Mm:=@List.length_set
noncomputable def Mn:=@PyProof.Rows.callWith_type1
noncomputable def Mo:=@PySem.wpAny_call_entry
noncomputable def Mp:=@List.range_eq_range'
noncomputable def Mq:=@List.getElem?_append_right
noncomputable def Mr:=@PySem.call_meets
noncomputable def Ms:=@List.lookup_cons
noncomputable def Mt:=@PySem.wpAny_pyIter_tuple
noncomputable def Mw:=@List.getElem?_set_ne
noncomputable def Mx:=@List.mem_of_getElem?
noncomputable def My:=@List.pairwise_append
noncomputable def Mz:=@List.getElem?_replicate
noncomputable def M0:=@List.flatMap_cons
noncomputable def M1:=@if_true
noncomputable def M3:=@PySem.Heap.SameBut.update
noncomputable def M4:=@List.map_congr_left
noncomputable def M5:=@Nat.lt_or_ge
noncomputable def M6:=@Nat.pow_succ
noncomputable def M7:=@List.sum_cons
noncomputable def M8:=@if_false
noncomputable def M9:=@or_false
noncomputable def MA:=@List.cons_append
noncomputable def MC:=@List.getElem?_drop
noncomputable def MD:=@List.getElem?_append_left
noncomputable def ME:=@PyProof.Rows.slot_tuple_getitem
noncomputable def MF:=@List.range_succ
noncomputable def MG:=@PySem.wpAny_pyIter_list
noncomputable def MH:=@Nat.lt_irrefl
noncomputable def MI:=@Nat.mul_assoc
noncomputable def MJ:=@PySem.wpAny_typeNameOfWhole_keyiter
noncomputable def MK:=@beq_eq_false_iff_ne
noncomputable def ML:=@List.getElem?_range
noncomputable def MM:=@List.all_eq_true
noncomputable def MO:=@PySem.wpAny_seqItems
noncomputable def MP:=@PySem.sizeLine_eq
noncomputable def MQ:=@List.take_of_length_le
noncomputable def MR:=@Int.le_refl
noncomputable def MS:=@PySem.wpAny_Call_Name_kw
noncomputable def MT:=@Nat.zero_add
noncomputable def MU:=@PySem.wpAny_setField_rec
noncomputable def MV:=@List.mem_replicate
noncomputable def MW:=@PySem.wpAny_passesOwn
noncomputable def MX:=@List.nil_append
noncomputable def MY:=@PySem.F.slot_tuple_iterator_next
noncomputable def MZ:=@PySem.wpAny_binaryOp_repeat_ref
noncomputable def M_:=@Nat.mul_le_mul_right
noncomputable def Na:=@PySem.Heap.size_push
noncomputable def Nb:=@List.drop_zero
noncomputable def Nc:=@Nat.le_of_lt
noncomputable def Nd:=@Nat.ne_of_gt
noncomputable def Nf:=@List.length_drop
noncomputable def Ng:=@List.set_eq_of_length_le
noncomputable def Nh:=@List.filter_cons
noncomputable def Ni:=@PySem.wpAny_typeNameOf_keyiter
noncomputable def Nj:=@List.take_succ_cons
noncomputable def Nk:=@List.length_reverse
noncomputable def Nl:=@List.eraseIdx_eq_take_drop_succ
noncomputable def Nm:=@PySem.wpAny_getItem_str_slice
noncomputable def Nn:=@PySem.typeIs_int
noncomputable def Np:=@PySem.Obj.data_mapFields
noncomputable def Nq:=@List.getElem?_take
noncomputable def Nr:=@Nat.le_succ
noncomputable def Nt:=@List.length_eq_one_iff
noncomputable def Nu:=@List.append_eq_nil_iff
noncomputable def Nv:=@Nat.pow_add
noncomputable def Nx:=@of_decide_eq_true
noncomputable def Ny:=@PySem.Heap.get?_update_self
noncomputable def Nz:=@Nat.succ_mul
noncomputable def N0:=@List.nodup_nil
noncomputable def N1:=@Nat.sub_zero
noncomputable def N3:=@List.mem_iff_getElem?
noncomputable def N4:=@List.perm_append_comm
noncomputable def N5:=@beq_self_eq_true
noncomputable def N6:=@List.drop_length
noncomputable def N7:=@List.getElem?_append
noncomputable def N8:=@Array.toArray_toList
noncomputable def N9:=@List.replicate_succ'
noncomputable def NA:=@List.filterMap_cons
noncomputable def NB:=@Nat.add_sub_cancel'
noncomputable def NC:=@Array.toList_append
noncomputable def ND:=@List.map_eq_nil_iff
noncomputable def NF:=@List.forIn_cons
noncomputable def NG:=@Nat.not_lt_zero
noncomputable def NH:=@PySem.W.KasT.kasWp_bind
noncomputable def NI:=@List.pairwise_iff_getElem
noncomputable def NJ:=@Int.natCast_add
noncomputable def NK:=@List.mem_or_eq_of_mem_set
noncomputable def NL:=@List.mem_filterMap
noncomputable def NM:=@Nat.mul_comm
noncomputable def NN:=@PySem.AutoSeq1.wpAny_loadPart'
noncomputable def NO:=@PySem.wpAny_setField
noncomputable def NP:=@PySem.wpAny_pyIter_enum
noncomputable def NQ:=@List.getElem?_set
noncomputable def NR:=@PySem.wpAny_dictEntries
noncomputable def NS:=@List.pairwise_map
noncomputable def NT:=@PySem.PassesOwn.leaving
noncomputable def NU:=@PySem.Heap.get?_update_other
noncomputable def NV:=@Nat.pow_pos
noncomputable def NW:=@PySem.wpAny_standAt
noncomputable def NX:=@List.map_take
noncomputable def NY:=@Nat.le_add_right
noncomputable def NZ:=@List.mem_reverse
noncomputable def N_:=@List.ext_getElem
noncomputable def Oa:=@PySem.Obj.isFreed_of_fields
noncomputable def Ob:=@List.pairwise_reverse
noncomputable def Oc:=@PySem.wpAny_isOneOf_keyiter
noncomputable def Od:=@List.prefix_of_prefix_length_le
noncomputable def Oe:=@List.mem_filter
noncomputable def Of:=@List.mem_append_left
noncomputable def Og:=@PySem.wpAny_execs_nil
noncomputable def Oh:=@Bool.eq_iff_iff
noncomputable def Oi:=@PySem.wpAny_loadPart'
noncomputable def Oj:=@PySem.wpAny_updateSeq_pair
noncomputable def Ol:=@PySem.codeAny_builtin
noncomputable def Om:=@PyProof.Rows.get?_update_seq
noncomputable def Oo:=@PySem.post_val_or_str
noncomputable def Oq:=@Nat.sub_self
noncomputable def Ot:=@List.reverse_reverse
noncomputable def Ov:=@List.mem_of_mem_take
noncomputable def Ow:=@List.count_cons
noncomputable def Ox:=@List.length_dropLast
noncomputable def Oy:=@Int.mul_le_mul_of_nonneg_left
noncomputable def Oz:=@List.dropWhile_cons
noncomputable def O0:=@List.reverse_append
noncomputable def O1:=@List.toList_toArray
noncomputable def O2:=@PySem.F.args_tuple_iterator_next_1
noncomputable def O3:=@Nat.mul_le_mul
noncomputable def O4:=@PySem.wpAny_fieldsOf
noncomputable def O5:=@Array.append_empty
noncomputable def O6:=@PySem.F.entry_tuple_iterator_next
noncomputable def O7:=@Array.getD_eq_getD_getElem?
noncomputable def O8:=@Nat.eq_zero_or_pos
noncomputable def O9:=@List.prefix_append
noncomputable def OA:=@PySem.Calls.Name_function_global
noncomputable def OB:=@List.any_cons
noncomputable def OC:=@PySem.wpAny_letOwnedTupleGo_enum
noncomputable def OD:=@PySem.wpAny_onRaise
noncomputable def OE:=@PySem.wpAny_attempt
noncomputable def OF:=@PySem.wpAny_newList
noncomputable def OG:=@Array.getElem?_eq_none_iff
noncomputable def OH:=@List.map_drop
noncomputable def OI:=@Nat.le_of_mul_le_mul_right
noncomputable def OJ:=@PySem.slot_list_getitem
noncomputable def OK:=@Nat.lt_succ_of_lt
noncomputable def OL:=@Array.size_append
noncomputable def OM:=@List.take_add_one
noncomputable def OO:=@List.ext_getElem?
noncomputable def OP:=@Nat.sub_le
noncomputable def OQ:=@PySem.wpAny_rule
noncomputable def OR:=@List.exists_mem_of_ne_nil
noncomputable def OS:=@Array.getElem?_eq_getElem
noncomputable def OT:=@PySem.wpAny_eqBool_str
noncomputable def OU:=@PySem.codeAny_mono
noncomputable def OV:=@Option.isSome_iff_exists
noncomputable def OW:=@PySem.wpAny_getItem_list_slice
noncomputable def OX:=@PySem.wpAny_comprehension_free
noncomputable def OY:=@Nat.min_self
noncomputable def OZ:=@decide_eq_decide
noncomputable def O_:=@PyProof.Rows.listItems_at
noncomputable def Pa:=@PySem.Heap.size_update
noncomputable def Pb:=@List.take_length
noncomputable def Pc:=@List.Pairwise.imp_of_mem
noncomputable def Pd:=@List.eq_of_mem_replicate
noncomputable def Pe:=@Int.zero_add
noncomputable def Pf:=@Int.add_zero
noncomputable def Pg:=@PySem.wpAny_pyNext_enum_itemD
noncomputable def Ph:=@List.getElem?_cons_succ
noncomputable def Pj:=@List.length_eq_zero_iff
noncomputable def Pn:=@List.pairwise_singleton
noncomputable def Po:=@Nat.add_sub_cancel_left
noncomputable def Pp:=@List.of_mem_zip
noncomputable def Pq:=@List.foldl_cons
noncomputable def Pr:=@PySem.wpAny_dictEpoch
noncomputable def Pu:=@PySem.wpAny_pyNext_list_item
noncomputable def Px:=@PySem.Calls.callWith_builtin
noncomputable def Py:=@PySem.wpAny_pyNext_enum_endD
noncomputable def Pz:=@Nat.log2_lt
noncomputable def P0:=@List.pairwise_lt_range
noncomputable def P4:=@List.range_succ_eq_map
noncomputable def P5:=@Array.getElem?_eq_none
noncomputable def P6:=@Int.mul_add
noncomputable def P7:=@Nat.add_mul
noncomputable def P8:=@List.dropWhile_sublist
noncomputable def P9:=@List.drop_eq_nil_of_le
noncomputable def PB:=@List.getElem_cons_drop
noncomputable def PD:=@PySem.fitsIndex_both
noncomputable def PF:=@List.dropLast_eq_take
noncomputable def PJ:=@Nat.not_lt
noncomputable def PL:=@PySem.rangeSize_one
noncomputable def PN:=@Nat.add_assoc
noncomputable def PR:=@PySem.seqIndex_neg
noncomputable def PU:=@Nat.add_comm
noncomputable def PV:=@Nat.le_of_eq
noncomputable def PX:=@PySem.wpAny_typeOf
noncomputable def PY:=@Nat.lt_trans
noncomputable def PZ:=@Int.le_trans
noncomputable def P_:=@Nat.mul_succ
abbrev Qa:=PySem.W.Frag
variable{K:Qa}
abbrev Key:=Sum Int Str
noncomputable def CO:Key->Value->Bool
 |.inl k,v=>Value.isInt k v
 |.inr x,v=>Value.isStrOf x v
noncomputable def JS(w:World):Key->Int
 |.inl k=>hashInt k
 |.inr x=>hashStr w x
theorem a_:∀{k:Key} {v:Value},CO k v=true->(∃ i t,k=Sum.inl i/\v=Value.int i t)\/(∃ x t,k=Sum.inr x/\v=Value.str x t)
 |.inl i,v,h=>by
  obtain⟨t,e⟩:=Value.isInt_shape (k:=i) (v:=v) h;exact .inl ⟨i,t,rfl,e⟩
 |.inr x,v,h=>by
  obtain⟨t,e⟩:=Value.isStrOf_shape (x:=x) (v:=v) h;exact .inr ⟨x,t,rfl,e⟩
theorem Ft(a b:Int):decide ((Sum.inl a:Key)=Sum.inl b)=(a == b):=by
 by_cases e:a=b
 ·subst e;simp
 ·have h:¬ (Sum.inl a:Key)=Sum.inl b:=fun q=>e (Sum.inl.inj q);rw[L0 h];exact (MK.mpr e).symm
theorem EJ(a b:Str):decide ((Sum.inr a:Key)=Sum.inr b)=decide (a=b):=by
 by_cases e:a=b
 ·subst e;simp
 ·have h:¬ (Sum.inr a:Key)=Sum.inr b:=fun q=>e (Sum.inr.inj q);rw[L0 h,L0 e]
theorem Du(a:Int)(b:Str):decide ((Sum.inl a:Key)=Sum.inr b)=false:=L0 (fun q=>nomatch q)
theorem E5(a:Str)(b:Int):decide ((Sum.inr a:Key)=Sum.inl b)=false:=L0 (fun q=>nomatch q)
noncomputable def n8(prog:Program)(w:World):PySem.KeyKind prog w Key where
 is:=CO
 hash:=JS w
 inj:=fun v a b ha hb=>by
  rcases a_ ha with ⟨i,t,rfl,rfl⟩|⟨x,t,rfl,rfl⟩
  ·rcases a_ hb with ⟨j,u,rfl,e⟩|⟨y,u,rfl,e⟩
   ·injection e with e1 _;rw[e1]
   ·exact nomatch e
  ·rcases a_ hb with ⟨j,u,rfl,e⟩|⟨y,u,rfl,e⟩
   ·exact nomatch e
   ·injection e with e1 _;rw[e1]
 byValue:=fun k v h=>by
  rcases a_ h with ⟨i,t,rfl,rfl⟩|⟨x,t,rfl,rfl⟩<;>rfl
 pyHash:=fun hv h=>by
  rcases a_ hv with ⟨i,t,rfl,rfl⟩|⟨x,t,rfl,rfl⟩
  ·exact wpAny_pyHash_int h
  ·exact wpAny_pyHash_str h
 eqBool:=fun hu hv h=>by
  rcases a_ hu with ⟨i,t,rfl,rfl⟩|⟨x,t,rfl,rfl⟩
  ·rcases a_ hv with ⟨j,u,rfl,rfl⟩|⟨y,u,rfl,rfl⟩
   ·rw[Ft] at h;exact wpAny_eqBool_int h
   ·rw[Du] at h;exact SeqAt.EqAt.int_str i t y u _ _ _ _ h
  ·rcases a_ hv with ⟨j,u,rfl,rfl⟩|⟨y,u,rfl,rfl⟩
   ·rw[E5] at h;exact SeqAt.EqAt.str_int x t j u _ _ _ _ h
   ·rw[EJ] at h;exact OT h
 «strs»:=fun k x t v h=>by
  rcases a_ h with ⟨i,u,rfl,e⟩|⟨y,u,rfl,e⟩
  ·exact nomatch e
  ·injection e with e1 _
   subst e1
   cases v<;>rfl
inductive V where
 |aw|bl (b:Bool)|int (i:Int)|str (x:Str)|zL (b:Array UInt8)|FH (b:UInt64)|ref (a:Addr)|ty (n:String)
 deriving DecidableEq
variable{vs xs:List V}
noncomputable def RelV:V->Value->Prop
 |.aw,u=>u=Value.none
 |.bl b,u=>u=Value.bool b
 |.int i,u=>∃ t,u=Value.int i t
 |.str x,u=>∃ t,u=Value.str x t
 |.zL b,u=>∃ t,u=Value.bytes b t
 |.FH b,u=>∃ t,u=Value.float b t
 |.ref a,u=>u=Value.ref a
 |.ty n,u=>u=Value.type n
abbrev Vals:List V->List Value->Prop:=Paired RelV
theorem Vals.length(r:Vals xs us):xs.length=us.length:=Paired.length r
theorem Vals.get:∀{xs:List V} {us:List Value} {i:Nat} {x:V},Vals xs us->xs[i]?=some x->∃ u,us[i]?=some u/\RelV x u
 |_,_,_,_,.nil,e=>by simp at e
 |_,_,0,_,.cons r _,e=>by simp at e;subst e;exact⟨_,rfl,r⟩
 |_,_,i+1,x,.cons _ t,e=>by
  obtain⟨u,h1,h2⟩:=Vals.get (i:=i) (x:=x) t (by simpa using e)
  exact⟨u,by simpa using h1,h2⟩
theorem Vals.set{x:V}(r:RelV x u):∀{xs:List V} {us:List Value} (i:Nat),Vals xs us->Vals (xs.set i x) (us.set i u)
 |_,_,_,.nil=>.nil
 |_,_,0,.cons _ t=>.cons r t
 |_,_,i+1,.cons q t=>.cons q (Vals.set r i t)
theorem Vals.append:∀{xs ys:List V} {us ws:List Value},Vals xs us->Vals ys ws->Vals (xs++ys) (us++ws)
 |_,_,_,_,.nil,s=>s
 |_,_,_,_,.cons r t,s=>.cons r (Vals.append t s)
theorem Vals.take:∀{xs:List V} {us:List Value} (n:Nat),Vals xs us->Vals (xs.take n) (us.take n)
 |_,_,0,_=>.nil
 |_,_,_+1,.nil=>.nil
 |_,_,n+1,.cons r t=>.cons r (Vals.take n t)
theorem Vals.drop:∀{xs:List V} {us:List Value} (n:Nat),Vals xs us->Vals (xs.drop n) (us.drop n)
 |_,_,0,r=>r
 |_,_,_+1,.nil=>.nil
 |_,_,n+1,.cons _ t=>Vals.drop n t
noncomputable def Fm:Option V->Option Value->Prop
 |some v,some u=>RelV v u
 |none,none=>True
 |_,_=>False
noncomputable def KV{κ:Type}:List (κ×V)->List (κ×Value)->Prop:=Paired fun (p:κ×V) (q:κ×Value)=>p.1=q.1/\RelV p.2 q.2
noncomputable def kV:Key->V
 |.inl i=>.int i
 |.inr x=>.str x
inductive HO where
 |lst (xs:List V)
 |tup (xs:List V)
 |dK (kvs:List (Key×V))|dT (kvs:List (List Key×V))
 |set (S:Int->Bool) (n:Nat)
 |ins (C dx:Addr) (fs:List (Str×V))
 |own (x:Addr)
 |xd (fs:List (Str×V))
 |met (f x:Addr)
 |dB (lo hi:Int)
 |gK (o:Obj) (u:HO)
 |vJ (ps:Array Value)
 |ext (φ:Heap->Prop)
abbrev Hp:=Addr->Option HO
variable{H:Hp}
noncomputable def upd(H:Hp)(a:Addr)(o:HO):Hp:=fun b=>if b=a then some o else H b
theorem ah{o:HO}:upd H a o a=some o:=by unfold upd;rw[Lg rfl]
theorem af{o:HO}(h:b≠a):upd H a o b=H b:=by unfold upd;rw[K_ h]
theorem t7{o u:HO}:upd (upd H a o) a u=upd H a u:=by
 funext b;unfold upd;split<;>rfl
theorem ao{o:HO}(h:H a=some o)(h':H b=none):a≠b:=by
 intro e;subst e;rw[h] at h';cases h'
noncomputable def Jr:List Value->Str
 |.str q _::_=>q
 |_=>Str.ofString ""
noncomputable def xn(ps:Array Value):Str:=Jr ps.toList
noncomputable def CT(H:Hp)(q:Str)(cv:Value):Prop:=∃(c:Addr) (oc:Obj) (vs:Array Value) (t:Tok),cv=.ref c/\H c=some (.gK oc (.own c))/\oc.data=.fields vs/\vs[1]?=some (.str q t)
noncomputable def cY(h:Heap)(a:Addr)(items:Array Value):Prop:=∃ o:Obj,h.get? a=some o/\o.cls=.type "tuple"/\∃ n,o.data=.seq items n/\o.dict=none
theorem cY.to(x:cY h a items):IsTup h a items:=let ⟨o,e,c,n,d,_⟩:=x;⟨o,e,c,n,d⟩
theorem cY.new(h:Heap)(items:Array Value):cY (h.push {cls:=.type "tuple",data:=.seq items}) h.objs.size items:=⟨_,Lo h rfl,rfl,_,rfl,rfl⟩
theorem cY.lt(x:cY h a items):a<h.objs.size:=x.to.lt
section
variable (P:Program) (w:World)
noncomputable def aU(H:Hp)(h:Heap)(a:Addr):HO->Prop
 |.lst xs=>xs.length<=sizeLine/\∃(its:List Value) (n:Nat),Vals xs its/\h.get? a=some {cls:=.type "list",data:=.seq its.toArray n}
 |.tup xs=>xs.length<=sizeLine/\∃ its:List Value,Vals xs its/\cY h a its.toArray
 |.dK kvs=>kvs.length<=sizeLine/\(a == sysModules)=false/\∃ vs,KV kvs vs/\h.DictOf (n8 P w) a vs
 |.dT kvs=>kvs.length<=sizeLine/\(a == sysModules)=false/\∃ xs:List (List Key×Addr×Value),
   Paired (fun (p:List Key×V) (q:List Key×Addr×Value)=>p.1=q.1/\H q.2.1=some (.tup (p.1.map kV))/\RelV p.2 q.2.2) kvs xs /\
   ∃ o es ep,h.get? a=some o/\o.ExactDict/\o.data=.dict es ep/\es.toList=xs.map (entryOfKey (tupleKind (n8 P w)))/\(xs.map (·.1)).Nodup
 |.set S n=>h.SetOf (intKind P w) a S n
 |.ins C dx fs=>H dx=some (.own a)/\fs.length<=1000/\dx≠a/\h.get? a=some (PySem.W.instObj C dx) /\
   ∃ mA,h.Ns1 dx mA/\(∀ f,Fm (fs.lookup f) (mA f))/\PySem.Within mA (fs.map (·.1))
 |.own _=>∃ o,h.get? a=some o
 |.xd fs=>∃ mA,h.Ns1 a mA/\∀ f,Fm (fs.lookup f) (mA f)
 |.dB lo hi=>∃ t u v,h.get? a=some {cls:=.type "range",data:=.fields #[.int lo t,.int hi u,.int 1 v]}
 |.gK o u=>h.get? a=some o/\aU H h a u
 |.vJ ps=>∃ qs:Array Value,h.get? a=some {cls:=.none,data:=.fields qs}/\TriplesOk qs.toList/\∀ pos cv,codeAmong pos qs.toList=some cv->CT H (xn ps) cv
 |.met f x=>h.get? a=some (PySem.W.methodObj (.ref f) (.ref x))
 |.ext φ=>φ h/\(∃ o,h.get? a=some o)/\∀ h1 h2:Heap,φ h1->(∀ o,h1.get? a=some o->h2.get? a=some o)->φ h2
noncomputable def fB(H:Hp)(h:Heap):Prop:=∀ a o,H a=some o->aU P w H h a o
end
section
variable {P:Program} {w:World} {H H':Hp} {h h':Heap} {a:Addr} {o:HO}
theorem aU.lt(x:aU P w H h a o):a<h.objs.size:=by
 cases o with
 |lst xs=>obtain⟨_,_,_,_,e⟩:=x;exact Lq e
 |tup xs=>obtain⟨_,_,_,p⟩:=x;exact p.lt
 |dK kvs=>obtain⟨_,_,_,_,o,_,_,e,_⟩:=x;exact Lq e
 |dT kvs=>obtain⟨_,_,_,_,o,_,_,e,_⟩:=x;exact Lq e
 |set S n=>obtain⟨o,_,_,_,e,_⟩:=x;exact Lq e
 |ins C dx fs=>obtain⟨_,_,_,e,_⟩:=x;exact Lq e
 |own y=>obtain⟨_,e⟩:=x;exact Lq e
 |xd fs=>obtain⟨_,⟨_,_,_,e,_⟩,_⟩:=x;exact Lq e
 |dB lo hi=>obtain⟨_,_,_,e⟩:=x;exact Lq e
 |gK ob u=>obtain⟨e,_⟩:=x;exact Lq e
 |vJ ps=>obtain⟨_,e,_⟩:=x;exact Lq e
 |met f y=>exact Lq (show h.get? a=some _ from x)
 |ext φ=>obtain⟨_,⟨_,e⟩,_⟩:=x;exact Lq e
theorem Paired.ph{α β:Type}{F G:α->β->Prop}:∀{l₁:List α} {l₂:List β},Paired F l₁ l₂->(∀ a b,F a b->G a b)->Paired G l₁ l₂
 |_,_,.nil,_=>.nil
 |_,_,.cons r t,f=>.cons (f _ _ r) (Paired.ph t f)
theorem aU.jz(x:aU P w H h a o)(k:∀ b u,(b=a\/H b=some (.own a))->h.get? b=some u->h'.get? b=some u)
  (ho:∀ b,H b=some (.own a)->H' b=some (.own a)) (ht:∀ b xs,H b=some (.tup xs)->H' b=some (.tup xs)) (hz:∀ b o u,H b=some (.gK o u)->H' b=some (.gK o u)):aU P w H' h' a o:=by
 induction o with
 |lst xs=>obtain⟨z,its,n,r,e⟩:=x;exact⟨z,its,n,r,k _ _ (.inl rfl) e⟩
 |tup xs=>obtain⟨z,its,r,ob,e,c⟩:=x;exact⟨z,its,r,ob,k _ _ (.inl rfl) e,c⟩
 |dK kvs=>obtain⟨z,y,vs,r,ob,es,ep,e,c⟩:=x;exact⟨z,y,vs,r,ob,es,ep,k _ _ (.inl rfl) e,c⟩
 |dT kvs =>
  obtain⟨z,y,xs,r,ob,es,ep,e,c⟩:=x;exact⟨z,y,xs,Paired.ph r fun p q z=>⟨z.1,ht _ _ z.2.1,z.2.2⟩,ob,es,ep,k _ _ (.inl rfl) e,c⟩
 |set S n=>obtain⟨ob,es,ep,t,e,c⟩:=x;exact⟨ob,es,ep,t,k _ _ (.inl rfl) e,c⟩
 |ins C dx fs =>
  obtain⟨d,z,ne,e,mA,⟨od,es,ep,e2,c⟩,r⟩:=x;exact⟨ho _ d,z,ne,k _ _ (.inl rfl) e,mA,⟨od,es,ep,k _ _ (.inr d) e2,c⟩,r⟩
 |own y=>obtain⟨ob,e⟩:=x;exact⟨ob,k _ _ (.inl rfl) e⟩
 |xd fs=>obtain⟨mA,⟨od,es,ep,e,c⟩,r⟩:=x;exact⟨mA,⟨od,es,ep,k _ _ (.inl rfl) e,c⟩,r⟩
 |dB lo hi=>obtain⟨t,u,v,e⟩:=x;exact⟨t,u,v,k _ _ (.inl rfl) e⟩
 |gK ob u ih=>obtain⟨e,q⟩:=x;exact⟨k _ _ (.inl rfl) e,ih q⟩
 |vJ ps =>
  obtain⟨qs,e,t,f⟩:=x;exact⟨qs,k a _ (.inl rfl) e,t,fun pos cv q=>let ⟨c,oc,vs,t',e1,e2,e3⟩:=f pos cv q;⟨c,oc,vs,t',e1,hz _ _ _ e2,e3⟩⟩
 |met f y =>
  have e:h.get? a=some (PySem.W.methodObj (.ref f) (.ref y)):=x;show h'.get? a=some (PySem.W.methodObj (.ref f) (.ref y));exact k a _ (.inl rfl) e
 |ext φ=>obtain⟨p,⟨o,e⟩,st⟩:=x;exact⟨st _ _ p fun o q=>k _ _ (.inl rfl) q,⟨o,k _ _ (.inl rfl) e⟩,st⟩
theorem fB.lt(x:fB P w H h)(e:H a=some o):a<h.objs.size:=(x a o e).lt
theorem fB.fresh(x:fB P w H h)(e:h.objs.size<=a):H a=none:=by
 cases q:H a with
 |none=>rfl
 |some u=>exact absurd (L4 (x.lt q) e) (MH _)
theorem fB.kept(x:fB P w H h)(k:∀ b u,h.get? b=some u->h'.get? b=some u):fB P w H h':=fun a o e =>
 (x a o e).jz (fun b u _ q=>k b u q) (fun _ q=>q) (fun _ _ q=>q) fun _ _ _ q=>q
theorem fB.laid(x:fB P w H h)(k:∀ b u,h.get? b=some u->h'.get? b=some u)(hp:h.objs.size<=a)(new:aU P w (upd H a o) h' a o):fB P w (upd H a o) h':=fun b u e=>by
 have hn:=x.fresh hp;by_cases hb:b=a
 ·subst hb;rw[ah] at e;cases e;exact new
 ·rw[af hb] at e;exact (x b u e).jz (fun c v _ q=>k c v q) (fun c q=>by rw[af (ao q hn)];exact q) (fun c xs q=>by rw[af (ao q hn)];exact q) fun c _ _ q=>by rw[af (ao q hn)];exact q
end
noncomputable def Rd(H:Hp)(a:Addr)(u:HO):Prop:=H a=some u\/∃ o,H a=some (.gK o u)
theorem Rd.ok{u:HO}(r:Rd H a u)(x:fB P w H h):aU P w H h a u:=by
 rcases r with r|⟨o,r⟩
 ·exact x a u r
 ·obtain⟨_,q⟩:=x a _ r;exact q
noncomputable def IG:Option HO->Prop
 |some (.lst _)=>True
 |some (.dK _)=>True
 |some (.dT _)=>True
 |some (.set _ _)=>True
 |some (.ins _ _ _)=>True
 |some (.ext _)=>True
 |_=>False
section
variable {P:Program} {w:World} {H:Hp} {h h':Heap} {x e:Addr} {o':HO}
theorem fB.write(ok:fB P w H h)(mu:IG (H x))(he:e=x\/H e=some (.own x))(k:∀ b u,b≠e->h.get? b=some u->h'.get? b=some u)(heo:∃ u,h'.get? e=some u)
  (new:aU P w (upd H x o') h' x o'):fB P w (upd H x o') h':=fun b u q=>by
 have nown:∀ c y,H c=some (.own y)->c≠x:=fun c y r z=>by subst z;rw[r] at mu;exact mu
 have ntup:∀ c xs,H c=some (.tup xs)->c≠x:=fun c xs r z=>by subst z;rw[r] at mu;exact mu
 have nfrz:∀ c o1 u1,H c=some (.gK o1 u1)->c≠x:=fun c _ _ r z=>by subst z;rw[r] at mu;exact mu
 by_cases hb:b=x
 ·subst hb;rw[ah] at q;cases q;exact new
 ·rw[af hb] at q;by_cases hbe:b=e
  ·have q':H b=some (.own x):=by
    rcases he with z|z
    ·exact absurd (hbe.trans z) hb
    ·rw[hbe];exact z
   rw[q] at q';cases q';obtain⟨v,hv⟩:=heo;exact⟨v,by rw[hbe];exact hv⟩
  ·refine (ok b u q).jz (fun c v hc r=>k c v ?_ r) (fun c r=>by rw[af (nown c b r)];exact r) (fun c xs r=>by rw[af (ntup c xs r)];exact r) fun c _ _ r=>by rw[af (nfrz c _ _ r)];exact r
   rcases hc with rfl|hc
   ·exact hbe
   ·rintro rfl;rcases he with z|z
    ·exact nown c b hc z
    ·rw[hc] at z;cases z;exact hb rfl
end
structure Un (fs ex:List Addr) (H H':Hp) (h h':Heap):Prop where
 keep:∀ b o,h.get? b=some o->H b=none->b∉fs->b∉ex->h'.get? b=some o
 slot:∀ b o,h.get? b=some o->H b=none->b∈fs->b∉ex->∃ sl,h'.get? b=some {o with slots:=sl}
 free:∀ b o,h.get? b=some o->H b=none->b∉ex->H' b=none
 there:∀ b o,h.get? b=some o->b∉ex->∃ o',h'.get? b=some o'
 kF:∀ b xs,H b=some (.tup xs)->H' b=some (.tup xs)
 jq:∀ b o u,H b=some (.gK o u)->H' b=some (.gK o u)
 i6:∀ b ps,H b=some (.vJ ps)->∃ more,H' b=some (.vJ (ps++more))
section
variable {fs fs' ex ex':List Addr} {H H1 H2:Hp} {h h1 h2 h':Heap} {a x e:Addr} {o:HO}
theorem Un.any(u:Un fs ex H H1 h h1){ob:Obj}(q:h.get? b=some ob)(n:H b=none)(hx:b∉ex):∃ sl,h1.get? b=some {ob with slots:=sl}:=by
 by_cases hb:b∈fs
 ·exact u.slot b ob q n hb hx
 ·exact⟨ob.slots,u.keep b ob q n hb hx⟩
theorem Un.kept(k:∀ b u,h.get? b=some u->h'.get? b=some u):Un fs ex H H h h':=
 ⟨fun b ob q _ _ _=>k b ob q,fun b ob q _ _ _=>⟨ob.slots,k b ob q⟩,fun _ _ _ n _=>n,fun b ob q _=>⟨ob,k b ob q⟩,fun _ _ q=>q,fun _ _ _ q=>q,fun _ ps q=>⟨#[],by rw[q];simp⟩⟩
theorem Un.refl:Un fs ex H H h h:=Un.kept fun _ _ q=>q
theorem Un.laid(k:∀ b u,h.get? b=some u->h'.get? b=some u)(hp:h.objs.size<=a)(hn:H a=none):Un fs ex H (upd H a o) h h' where
 keep:=fun b u q _ _ _=>k b u q
 slot:=fun b u q _ _ _=>⟨u.slots,k b u q⟩
 free:=fun b u q n _=>by rw[af (L9 (L4 (Lq q) hp))];exact n
 there:=fun b u q _=>⟨u,k b u q⟩
 kF:=fun b xs q=>by rw[af (ao q hn)];exact q
 jq:=fun b u xs q=>by rw[af (ao q hn)];exact q
 i6:=fun b ps q=>⟨#[],by rw[af (ao q hn),q];simp⟩
theorem Un.write(mu:IG (H x))(he:e=x\/H e=some (.own x))(k:∀ b u,b≠e->h.get? b=some u->h'.get? b=some u)(heo:∃ u,h'.get? e=some u):Un fs ex H (upd H x o) h h':=by
 have hx:∀ b,H b=none->b≠x:=fun b n z=>by subst z;rw[n] at mu;exact mu
 have hb:∀ b,H b=none->b≠e:=fun b n z=>by
  subst z;rcases he with r|r
  ·exact hx b n r
  ·rw[n] at r;cases r
 have hm:∀ b u,H b=some u->¬ IG (some u)->b≠x:=fun b u q nm z=>by subst z;rw[q] at mu;exact nm mu
 refine⟨fun b u q n _ _=>k b u (hb b n) q,fun b u q n _ _=>⟨u.slots,k b u (hb b n) q⟩,fun b u q n _=>by rw[af (hx b n)];exact n,fun b u q _=>?_,
  fun b xs q=>by rw[af (hm b _ q fun z=>z)];exact q,fun b u xs q=>by rw[af (hm b _ q fun z=>z)];exact q,fun b ps q=>⟨#[],by rw[af (hm b _ q fun z=>z),q];simp⟩⟩
 by_cases hbe:b=e
 ·subst hbe;exact heo
 ·exact⟨u,k b u hbe q⟩
end
noncomputable def fq(h:Heap)(H:Hp):List Addr:=(List.range h.objs.size).filter fun a=>(H a).isSome
noncomputable def kD(h:Heap)(H:Hp):Heap:=PySem.W.hideAll h (fq h H)
theorem vq(h:Heap)(H:Hp):(kD h H).objs.size=h.objs.size:=PySem.W.hideAll_size _ _
theorem gJ(e:h.get? b=some o)(n:H b=none):(kD h H).get? b=some o:=
 PySem.W.hideAll_get _ e fun hm=>by
  have q:(H b).isSome=true:=(Oe.mp hm).2;rw[n] at q;simp at q
theorem Aw(e:(kD h H).get? b=some o):h.get? b=some o/\H b=none:=by
 have e':h.get? b=some o:=PySem.W.of_hideAll (fq h H) e;refine⟨e',?_⟩
 cases q:H b with
 |none=>rfl
 |some x =>
  have hm:b∈fq h H:=Oe.mpr ⟨LZ.mpr (Lq e'),by simp[q]⟩
  have z:(kD h H).get? b=none:=PySem.W.hideAll_none (fq h H) hm;rw[z] at e;cases e
noncomputable def zX(g h:Heap)(L:Addr):List (Addr×Obj):=(List.range h.objs.size).filterMap fun a=>if a=L\/(g.get? a).isSome=true then none else (h.get? a).map fun o=>(a,o)
noncomputable def rest(g h:Heap)(L d:Addr):List (Addr×Obj):=(zX g h L).filter fun p=>decide (p.1≠d)
noncomputable def cQ:List Str:=["by_worth","by_weight","code_of"]
noncomputable def bA(K:Qa):List (Addr×Addr×Str):=cQ.filterMap fun x=>(PySem.W.tabIn K x).map fun p=>(p.1,p.2,(x++".<locals>.")++"<lambda>")
noncomputable def TabsOk(K:Qa)(H:Hp):Prop:=∀ t∈bA K,∃ more,H t.2.1=some (.vJ (#[.str t.2.2 0]++more))
theorem TabsOk.un{fs ex:List Addr}{H1:Hp}{h1:Heap}(x:TabsOk K H)(u:Un fs ex H H1 h h1):TabsOk K H1:=fun t ht=>by
 obtain⟨m,e⟩:=x t ht;obtain⟨m2,e2⟩:=u.i6 _ _ e;exact⟨m++m2,by rw[e2,Array.append_assoc]⟩
noncomputable def Fi(mg:Str->Option Value)(h:Heap):Prop:=∃ bm ob,mg "__builtins__"=some (.ref bm)/\bm≠builtinsNs/\h.get? bm=some ob/\ob.cls=.type "module"/\ob.dict=some builtinsNs/\ob.data=.plain
structure Mod (K:Qa) (mg:Str->Option Value) (base:Heap):Prop where
 BM:K.In base
 glob:base.Ns mainGlobals mg
 blt:∃ mb,base.Ns builtinsNs mb/\∀ x:Str,x≠"__name__"->mb x=bootBuiltins x
 nolimit:base.NoLimit
 codes:∀ t∈bA K,PySem.W.CodeHd base t.1 t.2.1
 bm:Fi mg base
structure Cx where
 prog:Program
 w:World
 K:Qa
 mg:Str->Option Value
 base:Heap
 A:Around
 N:List Str
 s₀:Shared
 H₀:Hp
 env:Env
 outer:List Env
 stack:List Env
 ex:List Addr
 fn:Str->Bool
 calm:Bool
 pn:List (Addr×Obj)
 xe:Value->Shared->Prop
variable{X:Cx}
noncomputable def iD(l:List Env):List Addr:=l.filterMap (·.frame)
abbrev Cx.fs(X:Cx):List Addr:=iD X.outer
noncomputable def EC(sc:Scope)(x:Str):Prop:=sc.names.lookup x=some .local\/sc.names.lookup x=some .cell\/sc.names.lookup x=some .free
noncomputable def Loc(sc:Scope)(x:Str):Prop:=sc.names.lookup x=some .local\/sc.names.lookup x=some .cell
noncomputable def Look(env:Env)(h:Heap)(m:Str->Option Value)(x:Str)(u:Value):Prop:=
 (env.kindOf x=some .local/\m x=some u)\/((env.kindOf x=some .cell\/env.kindOf x=some .free)/\∃ c,env.cells.lookup x=some c/\h.IsCell c (some u))
structure Cx.Ok (X:Cx):Prop where
 mod:Mod X.K X.mg X.base
 kind:X.env.scope.kind=.function
 glob:X.env.globals=mainGlobals
 blt:X.env.builtins=builtinsNs
 above:X.s₀.heap.objs.size<=X.env.locals
 inj:∀ x y c,X.env.cells.lookup x=some c->X.env.cells.lookup y=some c->x=y
 has:∀ x,(X.env.kindOf x=some .cell\/X.env.kindOf x=some .free)->∃ c,X.env.cells.lookup x=some c
 Gz:∀ x c,X.fn x=true->X.env.cells.lookup x=some c->X.s₀.heap.objs.size<=c
 hd:X.calm=true->X.A.handled=none
 frames:X.A.frames=some X.stack
 Ik:X.stack=X.outer\/(X.stack=X.env::X.outer/\X.env.frame=some X.env.locals)
 Ko:∀ b∈X.ex,b≠X.env.locals/\∀ x c,X.env.cells.lookup x=some c->c≠b
 bs:∀ b o,X.base.get? b=some o->X.s₀.heap.get? b=some o/\X.H₀ b=none
 Ae:X.base.objs.size<=X.s₀.heap.objs.size
 v_:∀ b o,X.base.get? b=some o->b∉X.ex
 AF:∀ b∈X.ex,b∉X.fs
 jN:X.s₀.heap.FunFrames X.base X.outer
 Fz:∀ b∈X.fs,X.H₀ b=none
 tabs:TabsOk X.K X.H₀
structure Inv (X:Cx) (pins:List (Addr×Obj)) (σ:List (Option V)) (H:Hp) (s:Shared):Prop where
 ok:X.Ok
 os:s.os=X.s₀.os
 bare:AllBare s.gens
 base:Un X.fs X.ex X.H₀ H X.s₀.heap s.heap
 loc:∃ m,s.heap.Ns X.env.locals m/\∀(i:Nat) (x:Str) (v:V),X.N[i]?=some x->σ[i]?=some (some v)->EC X.env.scope x->∃ u,RelV v u/\Look X.env s.heap m x u
 cell:∀ x c,X.env.cells.lookup x=some c->∃ v,s.heap.IsCell c v
 free:H X.env.locals=none
 dw:∀ x c,X.env.cells.lookup x=some c->H c=none
 pin:∀ p∈X.pn++pins,s.heap.get? p.1=some p.2/\H p.1=none/\p.1≠X.env.locals/\p.1∉X.fs/\∀ v,p.2.data≠.cell v
 aD:fB X.prog X.w H s.heap
 len:σ.length=X.N.length
section
variable {X:Cx} {pins:List (Addr×Obj)} {σ:List (Option V)} {H H':Hp} {s:Shared} {h':Heap}
theorem Cx.Ok.J9(ok:X.Ok)(e:X.base.get? b=some o):b∉X.fs:=fun hb=>by
 have:=(ok.jN.mem hb).1;rw[e] at this;cases this
theorem Inv.bs(I:Inv X pins σ H s):∀ b o,X.base.get? b=some o->s.heap.get? b=some o/\H b=none:=fun b o e =>
 ⟨I.base.keep b o (I.ok.bs b o e).1 (I.ok.bs b o e).2 (I.ok.J9 e) (I.ok.v_ b o e),I.base.free b o (I.ok.bs b o e).1 (I.ok.bs b o e).2 (I.ok.v_ b o e)⟩
theorem Inv.bk(I:Inv X pins σ H s):∀ b o,X.base.get? b=some o->s.heap.get? b=some o:=fun b o e=>(I.bs b o e).1
theorem Inv.mod(I:Inv X pins σ H s):Mod X.K X.mg X.base:=I.ok.mod
theorem Inv.gC(I:Inv X pins σ H s):X.K.In s.heap:=I.ok.mod.BM.keeps I.bk
theorem Inv.nolimit(I:Inv X pins σ H s):s.heap.NoLimit:=I.ok.mod.nolimit.keeps I.bk
theorem Inv.lt(I:Inv X pins σ H s):X.env.locals<s.heap.objs.size:=let ⟨_,hn,_⟩:=I.loc;hn.lt
theorem Inv.sz(I:Inv X pins σ H s):X.s₀.heap.objs.size<=s.heap.objs.size:=Lr I.ok.above (Nc I.lt)
theorem Inv.FR(I:Inv X pins σ H s)(h:s.heap.objs.size<=a):a∉X.fs:=fun hb=>by
 obtain⟨_,o,ho,_⟩:=I.ok.jN.mem hb;exact absurd (L4 (Lq ho) (Lr I.sz h)) (MH _)
theorem Inv.Bd(I:Inv X pins σ H s):∀ x c,X.env.cells.lookup x=some c->c≠X.env.locals:=fun x c e z=>by
 obtain⟨v,o,ho,hd⟩:=I.cell x c e;obtain⟨m,⟨o',es,ep,ho',hd',_⟩,_⟩:=I.loc;rw[z,ho'] at ho;cases ho;rw[hd'] at hd;cases hd
theorem Inv.jN(I:Inv X pins σ H s):s.heap.FunFrames X.base X.outer:=by
 have all:∀(l:List Env),(∀ b∈iD l,b∈X.fs)->X.s₀.heap.FunFrames X.base l->s.heap.FunFrames X.base l:=by
  intro l
  induction l with
  |nil=>intro _ _;trivial
  |cons env r ih =>
   intro hs hl;obtain⟨hk,⟨L,o,hf,hn,ho,hd⟩,hr⟩:=hl;have hL:L∈X.fs:=hs L (by unfold iD;rw[NA,hf];exact Lj)
   obtain⟨sl,e⟩:=I.base.slot L o ho (I.ok.Fz L hL) hL fun z=>I.ok.AF L z hL;exact⟨hk,⟨L,_,hf,hn,e,hd⟩,ih (fun b hb=>hs b (by unfold iD;rw[NA,hf];exact Le _ hb)) hr⟩
 exact all X.outer (fun _ hb=>hb) I.ok.jN
theorem Inv.stack(I:Inv X pins σ H s):s.heap.FunFrames X.base X.stack:=by
 rcases I.ok.Ik with e|⟨e,hf⟩
 ·rw[e];exact I.jN
 ·rw[e];obtain⟨m,hn,_⟩:=I.loc;refine .cons (by rw[I.ok.kind];decide) hf hn ?_ I.jN
  exact Heap.get?_none_of_le (Lr I.ok.Ae I.ok.above)
theorem Inv.jc(I:Inv X pins σ H s):∀ b∈iD X.stack,b∈X.env.locals::X.fs:=fun b hb=>by
 rcases I.ok.Ik with e|⟨e,hf⟩
 ·rw[e] at hb;exact Le _ hb
 ·rw[e] at hb;unfold iD at hb;rw[NA,hf] at hb;exact hb
theorem Inv.iF(I:Inv X pins σ H s):∀ b∈iD X.stack,H b=none:=fun b hb=>by
 rcases Ll.mp (I.jc b hb) with e|hb
 ·rw[e];exact I.free
 ·obtain⟨_,o,ho,_⟩:=I.ok.jN.mem hb;exact I.base.free b o ho (I.ok.Fz b hb) fun z=>I.ok.AF b z hb
theorem Inv.step{t':Nat}{d':Drawn}(I:Inv X pins σ H s)
  (hch:∀ b∈ch,(b∈X.ex\/X.s₀.heap.objs.size<=b)/\b≠X.env.locals/\(∀ x c,X.env.cells.lookup x=some c->c≠b)/\∀ p∈X.pn++pins,p.1≠b)
  (keep:∀ b o,b≠X.env.locals->b∉X.fs->b∉ch->s.heap.get? b=some o->H b=none->h'.get? b=some o)
  (slot:∀ b o,b≠X.env.locals->b∈X.fs->b∉ch->s.heap.get? b=some o->H b=none->∃ sl,h'.get? b=some {o with slots:=sl}) (free:∀ b o,b∉ch->s.heap.get? b=some o->H b=none->H' b=none)
  (there:∀ b o,b∉ch->s.heap.get? b=some o->∃ o',h'.get? b=some o')
  (kF:∀ b xs,H b=some (.tup xs)->H' b=some (.tup xs)) (jq:∀ b o u,H b=some (.gK o u)->H' b=some (.gK o u)) (i6:∀ b ps,H b=some (.vJ ps)->∃ more,H' b=some (.vJ (ps++more)))
  (ns:∀ m,s.heap.Ns X.env.locals m->h'.Ns X.env.locals m) (aD:fB X.prog X.w H' h') (hg:AllBare g') :
  Inv X pins σ H' {s with heap:=h',gens:=g',drawn:=d',toks:=t'}:=by
 have neL:∀ b o,X.s₀.heap.get? b=some o->b≠X.env.locals:=fun b o e=>L9 (L4 (Lq e) I.ok.above);have neC:∀ b o,X.s₀.heap.get? b=some o->b∉X.ex->b∉ch:=fun b o e hx hb=>by
  rcases (hch b hb).1 with z|z
  ·exact hx z
  ·exact absurd (L4 (Lq e) z) (MH _)
 have cellK:∀ x c,X.env.cells.lookup x=some c->∀ v,s.heap.IsCell c v->h'.IsCell c v:=fun x c e v ⟨o,ho,hd⟩=>by
  have nch:c∉ch:=fun z=>(hch c z).2.2.1 x c e rfl;by_cases hc:c∈X.fs
  ·obtain⟨sl,q⟩:=slot c o (I.Bd x c e) hc nch ho (I.dw x c e);exact⟨_,q,hd⟩
  ·exact⟨o,keep c o (I.Bd x c e) hc nch ho (I.dw x c e),hd⟩
 refine⟨I.ok,I.os,hg,⟨fun b o e n hb hx=>?_,fun b o e n hb hx=>?_,fun b o e n hx=>?_,fun b o e hx=>?_,fun b xs e=>kF b xs (I.base.kF b xs e),fun b o xs e=>jq b o xs (I.base.jq b o xs e),fun b ps e=>?_⟩,?_,fun x c e=>?_,?_,fun x c e=>?_,fun p hp=>?_,aD,I.len⟩
 ·exact keep b o (neL b o e) hb (neC b o e hx) (I.base.keep b o e n hb hx) (I.base.free b o e n hx)
 ·obtain⟨sl,e1⟩:=I.base.slot b o e n hb hx;obtain⟨sl',e2⟩:=slot b _ (neL b o e) hb (neC b o e hx) e1 (I.base.free b o e n hx);exact⟨sl',e2⟩
 ·obtain⟨o',e1⟩:=I.base.there b o e hx;exact free b o' (neC b o e hx) e1 (I.base.free b o e n hx)
 ·obtain⟨o',e1⟩:=I.base.there b o e hx;exact there b o' (neC b o e hx) e1
 ·obtain⟨m1,e1⟩:=I.base.i6 b ps e;obtain⟨m2,e2⟩:=i6 b _ e1;exact⟨m1++m2,by rw[e2,Array.append_assoc]⟩
 ·obtain⟨m,hn,hl⟩:=I.loc;refine⟨m,ns m hn,fun i x v e1 e2 e3=>?_⟩;obtain⟨u,r,l⟩:=hl i x v e1 e2 e3;refine⟨u,r,?_⟩;rcases l with l|⟨k,c,e,z⟩
  ·exact .inl l
  ·exact .inr ⟨k,c,e,cellK x c e _ z⟩
 ·obtain⟨v,z⟩:=I.cell x c e;exact⟨v,cellK x c e v z⟩
 ·obtain⟨m,⟨o,_,_,ho,_⟩,_⟩:=I.loc;exact free _ o (fun z=>(hch _ z).2.1 rfl) ho I.free
 ·obtain⟨v,o,ho,hd⟩:=I.cell x c e;exact free c o (fun z=>(hch c z).2.2.1 x c e rfl) ho (I.dw x c e)
 ·obtain⟨e,n,ne,nf,d⟩:=I.pin p hp;have nch:p.1∉ch:=fun z=>(hch p.1 z).2.2.2 p hp rfl;exact⟨keep p.1 p.2 ne nf nch e n,free p.1 p.2 nch e n,ne,nf,d⟩
theorem Inv.un{t':Nat}(I:Inv X pins σ H s)(u:Un X.fs [] H H' s.heap h')(aD:fB X.prog X.w H' h'):Inv X pins σ H' {s with heap:=h',toks:=t'}:=by
 obtain⟨m,⟨o,es,ep,ho,r⟩,_⟩:=id I.loc;obtain⟨sl,hL⟩:=u.any ho I.free (by simp)
 exact I.step (g':=s.gens) (d':=s.drawn) (ch:=[]) (fun _ z=>nomatch z) (fun b o _ hb _ e n=>u.keep b o e n hb (by simp)) (fun b o _ hb _ e n=>u.slot b o e n hb (by simp)) (fun b o _ e n=>u.free b o e n (by simp)) (fun b o _ e=>u.there b o e (by simp)) u.kF u.jq u.i6 (fun m' hm=>by
  obtain⟨o',es',ep',ho',r'⟩:=hm;rw[ho] at ho';cases ho';exact⟨_,es',ep',hL,r'⟩) aD I.bare
theorem Inv.call{t':Nat}{d':Drawn}{ch:List Addr}(I:Inv X pins σ H s)(u:Un (iD X.stack) ch H H' s.heap h')(aD:fB X.prog X.w H' h')(hg:AllBare g')
  (hch:∀ b∈ch,(b∈X.ex\/X.s₀.heap.objs.size<=b)/\b≠X.env.locals/\(∀ x c,X.env.cells.lookup x=some c->c≠b)/\∀ p∈X.pn++pins,p.1≠b) :
  Inv X pins σ H' {s with heap:=h',gens:=g',drawn:=d',toks:=t'}:=by
 obtain⟨m,⟨o,es,ep,ho,r⟩,_⟩:=id I.loc;obtain⟨sl,hL⟩:=u.any ho I.free fun z=>(hch _ z).2.1 rfl;exact I.step (ch:=ch) hch (fun b o hL hb hc e n=>u.keep b o e n (fun z=>(Ll.mp (I.jc b z)).elim hL hb) hc) (fun b o _ _ hc e n=>u.any e n hc) (fun b o hc e n=>u.free b o e n hc) (fun b o hc e=>u.there b o e hc) u.kF u.jq u.i6 (fun m' hm=>by
  obtain⟨o',es',ep',ho',r'⟩:=hm;rw[ho] at ho';cases ho';exact⟨_,es',ep',hL,r'⟩) aD hg
theorem Inv.turned{t':Nat}{it:Addr}(I:Inv X pins σ H s)(k:∀ b o,b≠it->s.heap.get? b=some o->h'.get? b=some o)(hn:H it=none)(hL:it≠X.env.locals)
  (h1:it∈X.ex\/X.s₀.heap.objs.size<=it) (h2:∀ x c,X.env.cells.lookup x=some c->c≠it) (h3:∀ p∈X.pn++pins,p.1≠it):Inv X pins σ H {s with heap:=h',toks:=t'}:=by
 have nit:∀ b u,H b=some u->b≠it:=fun b u e z=>by rw[z,hn] at e;cases e
 refine I.step (g':=s.gens) (d':=s.drawn) (ch:=[it]) (fun b hb=>?_) (fun b o _ _ hc e _=>k b o (fun z=>hc (by simp[z])) e) (fun b o _ _ hc e _=>⟨o.slots,k b o (fun z=>hc (by simp[z])) e⟩) (fun _ _ _ _ n=>n)
  (fun b o hc e=>⟨o,k b o (fun z=>hc (by simp[z])) e⟩) (fun _ _ e=>e) (fun _ _ _ e=>e) (fun b ps e=>⟨#[],by rw[e];simp⟩) (fun m hm=>?_) (fun b u e=>?_) I.bare
 ·have e:b=it:=by simpa using hb
  subst e;exact⟨h1,hL,h2,h3⟩
 ·obtain⟨o,es,ep,ho,r⟩:=hm;exact⟨o,es,ep,k _ o (Ne.symm hL) ho,r⟩
 ·refine (I.aD b u e).jz (fun c v hc q=>k c v ?_ q) (fun _ q=>q) (fun _ _ q=>q) fun _ _ _ q=>q;rcases hc with z|z
  ·rw[z];exact nit b u e
  ·exact nit c _ z
theorem Inv.tok(I:Inv X pins σ H s)(t:Nat):Inv X pins σ H {s with toks:=t}:=I.un (h':=s.heap) (t':=t) Un.refl I.aD
theorem Inv.kept{t':Nat}(I:Inv X pins σ H s)(k:∀ b u,s.heap.get? b=some u->h'.get? b=some u):Inv X pins σ H {s with heap:=h',toks:=t'}:=I.un (Un.kept k) (I.aD.kept k)
theorem Inv.laid{o:HO}{t':Nat}(I:Inv X pins σ H s)(k:∀ b u,s.heap.get? b=some u->h'.get? b=some u)(hp:s.heap.objs.size<=a)(new:aU X.prog X.w (upd H a o) h' a o):
  Inv X pins σ (upd H a o) {s with heap:=h',toks:=t'}:=I.un (Un.laid k hp (I.aD.fresh hp)) (I.aD.laid k hp new)
theorem Inv.write{x e:Addr}{o:HO}{t':Nat}(I:Inv X pins σ H s)(mu:IG (H x))(he:e=x\/H e=some (.own x))(k:∀ b u,b≠e->s.heap.get? b=some u->h'.get? b=some u)(heo:∃ u,h'.get? e=some u)
  (new:aU X.prog X.w (upd H x o) h' x o):Inv X pins σ (upd H x o) {s with heap:=h',toks:=t'}:=I.un (Un.write mu he k heo) (I.aD.write mu he k heo new)
theorem Inv.mQ{pins':List (Addr×Obj)}(I:Inv X pins σ H s)(h:∀ p∈pins',s.heap.get? p.1=some p.2/\H p.1=none/\p.1≠X.env.locals/\p.1∉X.fs/\∀ v,p.2.data≠.cell v):Inv X pins' σ H s:=
 ⟨I.ok,I.os,I.bare,I.base,I.loc,I.cell,I.free,I.dw,fun p hp=>(L1.mp hp).elim (fun z=>I.pin p (Of _ z)) (h p),I.aD,I.len⟩
theorem ot(hN:N.Nodup)(a:N[i]?=some x)(b:N[j]?=some x):i=j:=by
 obtain⟨h1,e1⟩:=Li.mp a;obtain⟨h2,e2⟩:=Li.mp b;exact (List.getElem_inj hN).mp (e1.trans e2.symm)
theorem k_{A:Around}{v:V}{Q:Unit->Shared->Prop}(I:Inv X pins σ H s)(hN:X.N.Nodup)(hi:X.N[i]?=some x)(hx:Loc X.env.scope x)(r:RelV v u)
  (h:∀ s',Inv X pins (σ.set i (some v)) H s'->(∃ a,Heap.SameBut a s.heap s'.heap/\(a=X.env.locals\/X.env.cells.lookup x=some a))->Q () s') (hf:autoParam (X.fn x=true\/X.env.scope.names.lookup x=some .local) ℜ2):wpAny M A (storeName X.env x u) Q E s:=by
 obtain⟨m,hn,hl⟩:=id I.loc;have hcls:(X.env.scope.kind == .class || (X.env.scope.kind == .module && X.env.locals != X.env.globals))=false:=by rw[I.ok.kind];rfl
 have hiσ:i<σ.length:=by rw[I.len];exact (Li.mp hi).1
 have Bd:=I.Bd;have tracked:∀{a:Addr} {h':Heap},(∃ o,s.heap.get? a=some o/\H a=none)->Heap.SameBut a s.heap h'->fB X.prog X.w H h':=fun {a h'} ha hs b ob e=>by
  obtain⟨_,_,hfree⟩:=ha;refine (I.aD b ob e).jz (fun c w' hc q=>(hs.2 c ?_).trans q) (fun _ q=>q) (fun _ _ q=>q) fun _ _ _ q=>q;rintro rfl;rcases hc with rfl|hc
  ·rw[hfree] at e;cases e
  ·rw[hfree] at hc;cases hc
 rcases hx with hk|hk
 ·refine wpAny_storeName_local hk hn (fun h' hn' hs=>?_) hcls;obtain⟨oL,_,_,hoL,_⟩:=id hn;refine h _ ⟨I.ok,I.os,I.bare,⟨fun b o e n hb hx=>?_,fun b o e n hb hx=>?_,I.base.free,fun b o e hx=>?_,I.base.kF,I.base.jq,I.base.i6⟩,⟨_,hn',fun j y v' e1 e2 e3=>?_⟩,fun y c e=>?_,I.free,I.dw,fun p hp=>?_,tracked ⟨oL,hoL,I.free⟩ hs,by simpa using I.len⟩ ⟨_,hs,.inl rfl⟩
  ·exact (hs.2 b (L9 (L4 (Lq e) I.ok.above))).trans (I.base.keep b o e n hb hx)
  ·obtain⟨sl,e1⟩:=I.base.slot b o e n hb hx;exact⟨sl,(hs.2 b (L9 (L4 (Lq e) I.ok.above))).trans e1⟩
  ·obtain⟨o',e1⟩:=I.base.there b o e hx;exact⟨o',(hs.2 b (L9 (L4 (Lq e) I.ok.above))).trans e1⟩
  ·by_cases hj:j=i
   ·subst hj;rw[hi] at e1;cases e1;rw[Mc hiσ] at e2;cases e2;exact⟨u,r,.inl ⟨hk,by simp⟩⟩
   ·rw[Mw (Ne.symm hj)] at e2;obtain⟨u',r',q⟩:=hl j y v' e1 e2 e3;refine⟨u',r',?_⟩;rcases q with ⟨k,e⟩|⟨k,c,e,z⟩
    ·refine .inl ⟨k,?_⟩;have:y≠x:=fun e=>hj (ot hN e1 (e ▸ hi));simp[this,e]
    ·exact .inr ⟨k,c,e,z.sameBut hs (Bd y c e)⟩
  ·obtain⟨w',z⟩:=I.cell y c e;exact⟨w',z.sameBut hs (Bd y c e)⟩
  ·obtain⟨e,n,ne,nf,d⟩:=I.pin p hp;exact⟨(hs.2 p.1 ne).trans e,n,ne,nf,d⟩
 ·have hfn:X.fn x=true:=by
   rcases hf with z|z
   ·exact z
   ·rw[z] at hk;cases hk
  obtain⟨c,hc⟩:=I.ok.has x (.inl hk);obtain⟨w',z⟩:=I.cell x c hc;refine wpAny_storeName_cell I.ok.kind hk hc z (fun h' hc' hs=>?_);obtain⟨oc,hoc,hocd⟩:=id z;refine h {s with heap:=h'} ⟨I.ok,I.os,I.bare,⟨fun b o e n hb hx=>?_,fun b o e n hb hx=>?_,I.base.free,fun b o e hx=>?_,I.base.kF,I.base.jq,I.base.i6⟩,⟨m,hn.sameBut hs (Ne.symm (Bd x c hc)),fun j y v' e1 e2 e3=>?_⟩,fun y c' e=>?_,I.free,I.dw,fun p hp=>?_,tracked ⟨oc,hoc,I.dw x c hc⟩ hs,by simpa using I.len⟩ ⟨c,hs,.inr hc⟩
  ·exact (hs.2 b (L9 (L4 (Lq e) (I.ok.Gz x c hfn hc)))).trans (I.base.keep b o e n hb hx)
  ·obtain⟨sl,e1⟩:=I.base.slot b o e n hb hx;exact⟨sl,(hs.2 b (L9 (L4 (Lq e) (I.ok.Gz x c hfn hc)))).trans e1⟩
  ·obtain⟨o',e1⟩:=I.base.there b o e hx;exact⟨o',(hs.2 b (L9 (L4 (Lq e) (I.ok.Gz x c hfn hc)))).trans e1⟩
  ·by_cases hj:j=i
   ·subst hj;rw[hi] at e1;cases e1;rw[Mc hiσ] at e2;cases e2;exact⟨u,r,.inr ⟨.inl hk,c,hc,hc'⟩⟩
   ·rw[Mw (Ne.symm hj)] at e2;obtain⟨u',r',q⟩:=hl j y v' e1 e2 e3;refine⟨u',r',?_⟩;rcases q with q|⟨k,c',e,z'⟩
    ·exact .inl q
    ·refine .inr ⟨k,c',e,z'.sameBut hs ?_⟩;rintro rfl;exact hj (ot hN e1 (I.ok.inj _ _ _ e hc ▸ hi))
  ·by_cases hcc:c'=c
   ·subst hcc;exact⟨_,hc'⟩
   ·obtain⟨w2,z2⟩:=I.cell y c' e;exact⟨w2,z2.sameBut hs hcc⟩
  ·obtain⟨e,n,ne,nf,d⟩:=I.pin p hp;refine⟨(hs.2 p.1 ?_).trans e,n,ne,nf,d⟩;intro q;rw[q,hoc] at e;have q':oc=p.2:=Option.some.inj e;exact d w' (by rw[<- q'];exact hocd)
theorem pC{A:Around}{v:V}{Q:Unit->Shared->Prop}(I:Inv X pins σ H s)(hN:X.N.Nodup)(hi:X.N[i]?=some x)(hx:Loc X.env.scope x)(r:RelV v u)
  (h:∀ s',Inv X pins (σ.set i (some v)) H s'->Q () s') (hf:autoParam (X.fn x=true\/X.env.scope.names.lookup x=some .local) ℜ2):wpAny M A (storeName X.env x u) Q E s:=
 k_ I hN hi hx r (fun s' I' _=>h s' I') hf
theorem Inv.Cb(I:Inv X pins σ H s)(ho:s'.os=s.os)(u:Un (iD X.stack) ch H H' s.heap s'.heap)(aD:fB X.prog X.w H' s'.heap)(hg:AllBare s'.gens)
  (hch:∀ b∈ch,(b∈X.ex\/X.s₀.heap.objs.size<=b)/\b≠X.env.locals/\(∀ x c,X.env.cells.lookup x=some c->c≠b)/\∀ p∈X.pn++pins,p.1≠b):Inv X pins σ H' s':=by
 obtain⟨h',g',d',t',o'⟩:=s';have e:o'=s.os:=ho;subst e;exact I.call (g':=g') (t':=t') (d':=d') u aD hg hch
end
abbrev XK:=Value->Option Addr->Hp->Prop
abbrev St:=List (Option V)
variable{σ:St}
abbrev VK:=V->Hp->Prop
abbrev TE:=St->Hp->VK->Prop
abbrev TT:=St->Hp->(Bool->Hp->Prop)->Prop
abbrev TA:=St->Hp->(List V->Hp->Prop)->Prop
structure Ends where
 nx:St->Hp->Prop
 rt:VK
 bk:St->Hp->Prop:=fun _ _=>False
 ct:St->Hp->Prop:=fun _ _=>False
abbrev TS:=Ends->St->Hp->Prop
variable{tb:TS}
noncomputable def EP(X:Cx)(pins:List (Addr×Obj))(σ:St)(Q:VK)(u:Value)(s':Shared):Prop:=∃ v H',Inv X pins σ H' s'/\RelV v u/\Q v H'
noncomputable def TP(X:Cx)(pins:List (Addr×Obj))(σ:St)(Q:Bool->Hp->Prop)(b:Bool)(s':Shared):Prop:=∃ H',Inv X pins σ H' s'/\Q b H'
noncomputable def AP(X:Cx)(pins:List (Addr×Obj))(σ:St)(Q:List V->Hp->Prop)(us:List Value)(s':Shared):Prop:=∃ vs H',Inv X pins σ H' s'/\Vals vs us/\Q vs H'
noncomputable def SP(X:Cx)(pins:List (Addr×Obj))(D:Ends)(f:Flow)(s':Shared):Prop:=
 match f with
 |.next=>∃ σ' H',Inv X pins σ' H' s'/\D.nx σ' H'
 |.brk=>∃ σ' H',Inv X pins σ' H' s'/\D.bk σ' H'
 |.cont=>∃ σ' H',Inv X pins σ' H' s'/\D.ct σ' H'
 |.ret u=>∃ v σ' H',Inv X pins σ' H' s'/\RelV v u/\D.rt v H'
noncomputable def PE(X:Cx)(e:Expr)(t:TE):Prop:=
 ∀(pins:List (Addr×Obj)) (s:Shared) (σ:St) (H:Hp) (Q:VK),Inv X pins σ H s->t σ H Q->wpAny (model X.prog X.w) X.A (eval e X.env) (EP X pins σ Q) X.xe s
noncomputable def PT(X:Cx)(e:Expr)(t:TT):Prop:=
 ∀(pins:List (Addr×Obj)) (s:Shared) (σ:St) (H:Hp) (Q:Bool->Hp->Prop),Inv X pins σ H s->t σ H Q->wpAny (model X.prog X.w) X.A (isTrue e X.env (eval e X.env)) (TP X pins σ Q) X.xe s
noncomputable def PW(X:Cx)(e:Expr)(t:TT):Prop:=
 ∀(whole:Sem Value) (pins:List (Addr×Obj)) (s:Shared) (σ:St) (H:Hp) (Q:Bool->Hp->Prop),Inv X pins σ H s->t σ H Q->wpAny (model X.prog X.w) X.A (isTrue e X.env whole) (TP X pins σ Q) X.xe s
theorem PW.pt{t:TT}(h:PW X e t):PT X e t:=h _
noncomputable def PA(X:Cx)(es:List Expr)(t:TA):Prop:=
 ∀(pos:Pos) (pins:List (Addr×Obj)) (s:Shared) (σ:St) (H:Hp) (Q:List V->Hp->Prop),Inv X pins σ H s->t σ H Q->wpAny (model X.prog X.w) X.A (spliced (backTo pos (starEach es X.env))) (AP X pins σ Q) X.xe s
noncomputable def PS(X:Cx)(st:Stmt)(t:TS):Prop:=
 ∀(pins:List (Addr×Obj)) (s:Shared) (σ:St) (H:Hp) (D:Ends),Inv X pins σ H s->t D σ H->wpAny (model X.prog X.w) X.A (exec st X.env) (SP X pins D) X.xe s
noncomputable def qj(X:Cx)(st:List Stmt)(t:TS):Prop:=
 ∀(pins:List (Addr×Obj)) (s:Shared) (σ:St) (H:Hp) (D:Ends),Inv X pins σ H s->t D σ H->wpAny (model X.prog X.w) X.A (execs st X.env) (SP X pins D) X.xe s
theorem bE{α:Type}{t:Sem α}{Q Q':α->Shared->Prop}{A:Around}(h:wpAny M A t Q E s)(hQ:∀ a s,Q a s->Q' a s):wpAny M A t Q' E s:=Mg h hQ fun _ _ x=>x
section
variable {X:Cx}
noncomputable def v5(i:Nat):TE:=fun σ H Q=>∃ v,σ[i]?=some (some v)/\Q v H
noncomputable def tC(v:V):TE:=fun _ H Q=>Q v H
theorem Di{pos:Pos}(hN:X.N[i]?=some x)(hv:EC X.env.scope x)(hd:autoParam ((x ==("__debug__":Str))=false) ℜ1)(hcd:autoParam ((x ==("__classdict__":Str))=false) ℜ1):PE X (.Name x pos) (v5 i):=by
 intro pins s σ H Q I h;obtain⟨v,e,h⟩:=h;obtain⟨m,hn,hl⟩:=I.loc;obtain⟨u,r,l⟩:=hl i x v hN e hv;have fin:EP X pins σ Q u s:=⟨v,H,I,r,h⟩;rcases l with ⟨hk,hm⟩|⟨hk,c,hc,hcell⟩
 ·exact wpAny_Name (wpAny_loadName_local I.ok.kind hk hn hm fin) hd
 ·rcases hk with hk|hk
  ·exact wpAny_Name (wpAny_loadName_cell I.ok.kind hk hc hcell fin) hd
  ·exact wpAny_Name (wpAny_loadName_free I.ok.kind hk hc hcell fin hcd) hd
theorem i_{i j pos}:PE X (.Constant (.int i) j pos) (tC (.int i)):=fun _ _ _ H _ I h=>wpAny_Constant_int ⟨.int i,H,I.tok _,⟨_,rfl⟩,h⟩
theorem Cz{b j pos}:PE X (.Constant (.bool b) j pos) (tC (.bl b)):=fun _ _ _ H _ I h=>Constant_bool ⟨.bl b,H,I,rfl,h⟩
theorem x8{j pos}:PE X (.Constant .none j pos) (tC .aw):=fun _ _ _ H _ I h=>Constant_none ⟨.aw,H,I,rfl,h⟩
theorem yG{x j pos}:PE X (.Constant (.str x) j pos) (tC (.str x)):=fun _ _ _ H _ I h=>Calls.Constant_str ⟨.str x,H,I.tok _,⟨_,rfl⟩,h⟩
noncomputable def Gl(X:Cx)(x:Str):Prop:=X.env.kindOf x=some .globalImplicit
theorem gz{pos:Pos}(I:Inv X pins σ H s)(hg:Gl X x)(hm:X.mg x=some u)(h:Q u s)
  (hd:autoParam ((x ==("__debug__":Str))=false) ℜ1):wpAny (model X.prog X.w) X.A (eval (.Name x pos) X.env) Q E s:=
 OA I.ok.kind hg (Calls.loadGlobal_global (by rw[I.ok.glob];exact I.mod.glob.keeps I.bk) hm h) hd
theorem eE{pos:Pos}(I:Inv X pins σ H s)(hg:Gl X x)(hm:X.mg x=none)(hv:bootBuiltins x=some u)(h:Q u s)
  (hn:autoParam (x≠"__name__") ℜ1) (hd:autoParam ((x ==("__debug__":Str))=false) ℜ1):wpAny (model X.prog X.w) X.A (eval (.Name x pos) X.env) Q E s:=by
 obtain⟨mb,h1,h2⟩:=I.mod.blt;exact OA I.ok.kind hg (Calls.loadGlobal_builtin (by rw[I.ok.glob];exact I.mod.glob.keeps I.bk) hm (by rw[I.ok.blt];exact h1.keeps I.bk) ((h2 x hn).trans hv) h) hd
theorem mi{v:V}{pos:Pos}(hg:Gl X x)(hm:X.mg x=some u)(r:RelV v u)(hd:autoParam ((x ==("__debug__":Str))=false) ℜ1):PE X (.Name x pos) (tC v):=
 fun _ _ _ H _ I h=>gz I hg hm ⟨v,H,I,r,h⟩ hd
theorem Bo{v:V}{pos:Pos}(hg:Gl X x)(hm:X.mg x=none)(hv:bootBuiltins x=some u)(r:RelV v u)(hn:autoParam (x≠"__name__") ℜ1)(hd:autoParam ((x ==("__debug__":Str))=false) ℜ1):PE X (.Name x pos) (tC v):=
 fun _ _ _ H _ I h=>eE I hg hm hv ⟨v,H,I,r,h⟩ hn hd
noncomputable def K4(ta tb:TE)(k:Int->Int->Hp->Prop):St->Hp->Prop:=fun σ H=>ta σ H fun x H1=>tb σ H1 fun y H2=>∃ i j,x=.int i/\y=.int j/\k i j H2
variable {a b:Expr} {ta tb:TE} {pos:Pos}
noncomputable def Jz(p:Int->Int->Bool)(ta tb:TE):TE:=fun σ H Q=>K4 ta tb (fun i j H2=>Q (.bl (p i j)) H2) σ H
abbrev Hm:TE->TE->TE:=Jz fun i j=>decide (i=j)
noncomputable def nS(ta:TE):TE:=fun σ H Q=>ta σ H fun x H1=>Q (.bl (decide (x=.aw))) H1
variable {tA tB':TT} {rest:List Expr}
noncomputable def DH(t u:TT):TT:=fun σ H Q=>t σ H fun c H1=>if c=true then u σ H1 Q else Q false H1
noncomputable def JA(t u:TT):TT:=fun σ H Q=>t σ H fun c H1=>if c=true then Q true H1 else u σ H1 Q
noncomputable def GC(t:TT):TT:=fun σ H Q=>t σ H fun c H1=>Q (!c) H1
theorem BB(ha:PT X a tA):PW X (.BoolOp .And [a] pos) tA:=by
 intro wh pins s σ H Q I h;refine isTrue_and (bE (ha pins s σ H Q I h) fun c s1 e=>?_)
 cases c with
 |true=>exact isTrue_and_nil e
 |false=>exact e
theorem E1(ha:PT X a tA):PW X (.BoolOp .Or [a] pos) tA:=by
 intro wh pins s σ H Q I h;refine isTrue_or (bE (ha pins s σ H Q I h) fun c s1 e=>?_)
 cases c with
 |false=>exact isTrue_or_nil e
 |true=>exact e
theorem ER(ha:PT X a tA)(hb:PW X (.BoolOp .And (b::rest) pos) tB'):PW X (.BoolOp .And (a::b::rest) pos) (DH tA tB'):=by
 intro wh pins s σ H Q I h;refine isTrue_and (bE (ha pins s σ H _ I h) fun c s1 ⟨H1,I1,q1⟩=>?_)
 cases c with
 |true=>exact hb wh pins s1 σ H1 Q I1 q1
 |false=>exact⟨H1,I1,q1⟩
theorem Gh(ha:PT X a tA)(hb:PW X (.BoolOp .Or (b::rest) pos) tB'):PW X (.BoolOp .Or (a::b::rest) pos) (JA tA tB'):=by
 intro wh pins s σ H Q I h;refine isTrue_or (bE (ha pins s σ H _ I h) fun c s1 ⟨H1,I1,q1⟩=>?_)
 cases c with
 |true=>exact⟨H1,I1,q1⟩
 |false=>exact hb wh pins s1 σ H1 Q I1 q1
theorem CZ(ha:PT X a tA):PT X (.UnaryOp .Not a pos) (GC tA):=by
 intro pins s σ H Q I h;exact isTrue_not (ha pins s σ H (fun c H1=>Q (!c) H1) I h)
noncomputable def Kk(t:TT)(ta tb:TE):TE:=fun σ H Q=>t σ H fun c H1=>if c=true then ta σ H1 Q else tb σ H1 Q
theorem wA(hc:PT X c tA)(ha:PE X a ta)(hb:PE X b tb):PE X (.IfExp c a b pos) (Kk tA ta tb):=by
 intro pins s σ H Q I h;refine wpAny_IfExp (bE (hc pins s σ H _ I h) fun d s1 ⟨H1,I1,q1⟩=>?_)
 cases d with
 |true=>exact ha pins s1 σ H1 Q I1 q1
 |false=>exact hb pins s1 σ H1 Q I1 q1
end
noncomputable def bz(K:Qa)(H:Hp)(a:Addr)(xs:List V):Prop:=
 Rd H a (.lst xs) \/
  ∃(o:Obj) (its:Array Value) (n:Nat),K.lookup a=some o/\o.cls=.type "list"/\o.dict=none/\o.data=.seq its n/\its.size<=sizeLine/\Vals xs its.toList
noncomputable def aV(K:Qa)(H:Hp)(a:Addr)(xs:List V):Prop:=
 Rd H a (.tup xs) \/
  ∃(o:Obj) (its:Array Value) (n:Nat),K.lookup a=some o/\o.cls=.type "tuple"/\o.data=.seq its n/\its.size<=sizeLine/\Vals xs its.toList
noncomputable def JV:Value->Option V
 |.none=>some .aw
 |.bool b=>some (.bl b)
 |.int i _=>some (.int i)
 |.str x _=>some (.str x)
 |.bytes b _=>some (.zL b)
 |.float b _=>some (.FH b)
 |.ref a=>some (.ref a)
 |.type n=>some (.ty n)
 |_=>none
theorem RelV.abs{x:V}(r:RelV x u):JV u=some x:=by
 cases x with
 |aw=>cases r;rfl
 |bl _=>cases r;rfl
 |int _=>obtain⟨t,rfl⟩:=r;rfl
 |str _=>obtain⟨t,rfl⟩:=r;rfl
 |zL _=>obtain⟨t,rfl⟩:=r;rfl
 |FH _=>obtain⟨t,rfl⟩:=r;rfl
 |ref _=>cases r;rfl
 |ty _=>cases r;rfl
theorem RelV.inj{x y:V}(r:RelV x u)(q:RelV y u):x=y:=Option.some.inj (r.abs.symm.trans q.abs)
theorem Vals.inj:∀{xs ys:List V} {us:List Value},Vals xs us->Vals ys us->xs=ys
 |_,_,_,.nil,.nil=>rfl
 |_,_,_,.cons r t,.cons r' t'=>by rw[r.inj r',Vals.inj t t']
section
variable {X:Cx} {pins:List (Addr×Obj)} {σ:St} {H:Hp} {s:Shared} {a:Addr} {xs ys:List V}
theorem bz.of(h:H a=some (.lst xs)):bz K H a xs:=.inl (.inl h)
theorem aV.of(h:H a=some (.tup xs)):aV K H a xs:=.inl (.inl h)
theorem Inv.list(I:Inv X pins σ H s)(h:bz X.K H a xs):∃ its:List Value,Vals xs its/\PlainL s.heap a its.toArray/\xs.length<=sizeLine:=by
 rcases h with h|⟨o,its,n,hk,hc,hd,hs,hz,r⟩
 ·obtain⟨z,its,n,r,e⟩:=h.ok I.aD;exact⟨its,r,⟨_,n,e,rfl,rfl,rfl⟩,z⟩
 ·refine⟨its.toList,r,⟨o,n,I.gC a o hk,hc,hd,by simpa using hs⟩,?_⟩
  have e:=r.length;simp only[LH] at e;lia
theorem Inv.tuple(I:Inv X pins σ H s)(h:aV X.K H a xs):∃ its:List Value,Vals xs its/\IsTup s.heap a its.toArray/\xs.length<=sizeLine:=by
 rcases h with h|⟨o,its,n,hk,hc,hs,hz,r⟩
 ·obtain⟨z,its,r,p⟩:=h.ok I.aD;exact⟨its,r,p.to,z⟩
 ·refine⟨its.toList,r,⟨o,I.gC a o hk,hc,n,by simpa using hs⟩,?_⟩
  have e:=r.length;simp only[LH] at e;lia
theorem Inv.jB(I:Inv X pins σ H s)(h:bz X.K H a xs)(h':bz X.K H a ys):xs=ys:=by
 obtain⟨its,r,⟨o,n,e,_,_,d⟩,_⟩:=I.list h;obtain⟨its',r',⟨o',n',e',_,_,d'⟩,_⟩:=I.list h';rw[e] at e';cases e';rw[d] at d'
 injection d' with d1 _
 have:its=its':=by simpa using LF Array.toList d1
 subst this;exact r.inj r'
theorem Inv.h9(I:Inv X pins σ H s)(h:aV X.K H a xs)(h':aV X.K H a ys):xs=ys:=by
 obtain⟨its,r,⟨o,e,_,n,d⟩,_⟩:=I.tuple h;obtain⟨its',r',⟨o',e',_,n',d'⟩,_⟩:=I.tuple h';rw[e] at e';cases e';rw[d] at d'
 injection d' with d1 _
 have:its=its':=by simpa using LF Array.toList d1
 subst this;exact r.inj r'
end
abbrev Cx.kx(X:Cx)(E:Value->Shared->Prop):Cx:={X with xe:=E}
abbrev Cx.z_(X:Cx):Cx:=X.kx fun _ _=>False
theorem Cx.Ok.kx(ok:X.Ok)(E:Value->Shared->Prop):(X.kx E).Ok:=
 ⟨ok.mod,ok.kind,ok.glob,ok.blt,ok.above,ok.inj,ok.has,ok.Gz,ok.hd,ok.frames,ok.Ik,ok.Ko,ok.bs,ok.Ae,ok.v_,ok.AF,ok.jN,ok.Fz,ok.tabs⟩
theorem Cx.Ok.eX(ok:(X.kx E).Ok):X.Ok:=
 ⟨ok.mod,ok.kind,ok.glob,ok.blt,ok.above,ok.inj,ok.has,ok.Gz,ok.hd,ok.frames,ok.Ik,ok.Ko,ok.bs,ok.Ae,ok.v_,ok.AF,ok.jN,ok.Fz,ok.tabs⟩
section
variable {X:Cx} {pins:List (Addr×Obj)} {σ:St} {H:Hp} {s:Shared} {E:Value->Shared->Prop}
theorem Inv.kx(I:Inv X pins σ H s)(E:Value->Shared->Prop):Inv (X.kx E) pins σ H s:=⟨I.ok.kx E,I.os,I.bare,I.base,I.loc,I.cell,I.free,I.dw,I.pin,I.aD,I.len⟩
theorem Inv.eX(I:Inv (X.kx E) pins σ H s):Inv X pins σ H s:=⟨I.ok.eX,I.os,I.bare,I.base,I.loc,I.cell,I.free,I.dw,I.pin,I.aD,I.len⟩
theorem SP.eX{D:Ends}{f:Flow}(h:SP (X.kx E) pins D f s'):SP X pins D f s':=by
 cases f with
 |next=>obtain⟨σ',H',I,q⟩:=h;exact⟨σ',H',I.eX,q⟩
 |brk=>obtain⟨σ',H',I,q⟩:=h;exact⟨σ',H',I.eX,q⟩
 |cont=>obtain⟨σ',H',I,q⟩:=h;exact⟨σ',H',I.eX,q⟩
 |ret u=>obtain⟨v,σ',H',I,r,q⟩:=h;exact⟨v,σ',H',I.eX,r,q⟩
theorem qj.z_{st:List Stmt}{t:TS}(h:qj X.z_ st t):qj X st t:=fun pins s σ H D I hw =>
 Mg (h pins s σ H D (I.kx _) hw) (fun _ _ q=>q.eX) fun _ _ z=>False.elim z
end
section
variable {X:Cx} {st:Stmt} {rest:List Stmt} {t u:TS} {e:Expr} {te:TE} {pos:Pos}
noncomputable def Ct:TS:=fun D σ H=>D.nx σ H
noncomputable def DN(t u:TS):TS:=fun D σ H=>t {D with nx:=u D} σ H
theorem BO:qj X [] Ct:=fun _ _ σ H _ I h=>Og ⟨σ,H,I,h⟩
theorem yg(h1:PS X st t)(h2:qj X rest u):qj X (st::rest) (DN t u):=by
 intro pins s σ H D I h;refine wpAny_execs_cons (bE (h1 pins s σ H {D with nx:=u D} I h) fun f s1 q=>?_)
 cases f with
 |next =>
  obtain⟨σ',H',I',q⟩:=q;exact h2 pins s1 σ' H' D I' q
 |ret v=>exact q
 |brk=>exact q
 |cont=>exact q
theorem AR(h1:PS X st t):qj X [st] t:=by
 intro pins s σ H D I h;refine wpAny_execs_cons (bE (h1 pins s σ H D I h) fun f s1 q=>?_)
 cases f with
 |next=>exact Og q
 |ret v=>exact q
 |brk=>exact q
 |cont=>exact q
theorem Inv.quiet(I:Inv X pins σ H s):interactive X.env=false:=by simp[interactive,I.ok.kind]
noncomputable def Cn(te:TE):TS:=fun D σ H=>te σ H fun _ H1=>D.nx σ H1
theorem AH(he:PE X e te)(hs:autoParam (swapsWith e none pos.line X.env=pure false) ℜ0):PS X (.Expr e pos) (Cn te):=by
 intro pins s σ H D I h;exact wpAny_Expr_any (bE (he pins s σ H _ I h) fun v s1 ⟨x,H1,I1,r1,q1⟩=>⟨σ,H1,I1,q1⟩) I.quiet hs
noncomputable def xS(te:TE):TS:=fun D σ H=>te σ H D.rt
theorem EZ(he:PE X e te):PS X (.Return (some e) pos) (xS te):=by
 intro pins s σ H D I h;exact wpAny_Return_some (bE (he pins s σ H _ I h) fun v s1 ⟨x,H1,I1,r1,q1⟩=>⟨x,σ,H1,I1,r1,q1⟩)
noncomputable def GD(c:TT)(t u:TS):TS:=fun D σ H=>c σ H fun b H1=>if b=true then t D σ H1 else u D σ H1
theorem Gv{a b:List Stmt}{tc:TT}(hc:PT X c tc)(ha:qj X a t)(hb:qj X b u):PS X (.If c a b pos) (GD tc t u):=by
 intro pins s σ H D I h;refine wpAny_If (bE (hc pins s σ H _ I h) fun d s1 ⟨H1,I1,q1⟩=>?_)
 cases d with
 |true=>exact ha pins s1 σ H1 D I1 q1
 |false=>exact hb pins s1 σ H1 D I1 q1
end
abbrev TG:=V->St->Hp->(St->Hp->Prop)->Prop
abbrev rF:=List V->St->Hp->(St->Hp->Prop)->Prop
noncomputable def PG(X:Cx)(target:Expr)(t:TG):Prop:=
 ∀(pins:List (Addr×Obj)) (s:Shared) (σ:St) (H:Hp) (v:V) (u:Value) (Q:St->Hp->Prop),Inv X pins σ H s->RelV v u->t v σ H Q ->
  wpAny (model X.prog X.w) X.A (assign target X.env u) (fun _ s'=>∃ σ' H',Inv X pins σ' H' s'/\Q σ' H') X.xe s
noncomputable def Fw(X:Cx)(ts:List Expr)(t:rF):Prop:=
 ∀(pins:List (Addr×Obj)) (s:Shared) (σ:St) (H:Hp) (vs:List V) (us:List Value) (Q:St->Hp->Prop),Inv X pins σ H s->Vals vs us->t vs σ H Q ->
  wpAny (model X.prog X.w) X.A (assignInOrder ((assignEach ts X.env).map (·.2)) us) (fun _ s'=>∃ σ' H',Inv X pins σ' H' s'/\Q σ' H') X.xe s
abbrev BE:=V->V->V->Hp->(Hp->Prop)->Prop
noncomputable def DJ(X:Cx)(t:BE):Prop:=
 ∀(pins:List (Addr×Obj)) (s:Shared) (σ:St) (H:Hp) (o i v:V) (ov iv u:Value) (Q:Hp->Prop),Inv X pins σ H s->RelV o ov->RelV i iv->RelV v u->t o i v H Q ->
  wpAny (model X.prog X.w) X.A (setItem ov iv u) (fun _ s'=>∃ H',Inv X pins σ H' s'/\Q H') X.xe s
section
variable {X:Cx} {pos:Pos}
noncomputable def bC(i:Nat):TG:=fun v σ H Q=>Q (σ.set i (some v)) H
theorem zW(hN:X.N.Nodup)(hi:X.N[i]?=some x)(hx:Loc X.env.scope x)(hf:autoParam (X.fn x=true\/X.env.scope.names.lookup x=some .local) ℜ2):PG X (.Name x pos) (bC i):=by
 intro pins s σ H v u Q I r h;exact wpAny_assign_Name (pC I hN hi hx r (fun s' I'=>⟨_,H,I',h⟩) hf)
noncomputable def oY:rF:=fun vs σ H Q=>vs=[]/\Q σ H
noncomputable def eR(t:TG)(u:rF):rF:=fun vs σ H Q=>∃ v r,vs=v::r/\t v σ H fun σ' H'=>u r σ' H' Q
theorem BR:Fw X [] oY:=by
 intro pins s σ H vs us Q I r h;obtain⟨e,h⟩:=h;subst e;cases r;exact assignInOrder_nil ⟨σ,H,I,h⟩
theorem xc{t:TG}{u:rF}(h1:PG X e t)(h2:Fw X es u)
  (hs:autoParam ((assignEach (e::es) X.env).map (·.2)=assign e X.env::(assignEach es X.env).map (·.2)) ℜ0):Fw X (e::es) (eR t u):=by
 intro pins s σ H vs us Q I r h;obtain⟨v,vr,e1,h⟩:=h;subst e1
 cases r with
 |cons r rr =>
  rw[hs];refine assignInOrder_cons (bE (h1 pins s σ H _ _ _ I r h) fun _ s1 ⟨σ1,H1,I1,q1⟩=>?_);exact h2 pins s1 σ1 H1 _ _ Q I1 rr q1
noncomputable def oK(K:Qa)(n:Nat)(t:rF):TG:=fun v σ H Q=>∃ a xs,v=.ref a/\aV K H a xs/\xs.length=n/\t xs σ H Q
theorem xN{t:rF}{n:Nat}(hc:X.calm=true)(h:Fw X es t)
  (hn:autoParam ((assignEach es X.env).length=n) ℜ0) (hst:autoParam ((assignEach es X.env).findIdx? (·.1)=none) ℜ0):PG X (.Tuple es k pos) (oK X.K n t):=by
 intro pins s σ H v u Q I r hw;obtain⟨a,xs,e1,hq,hl,hw⟩:=hw;subst e1;cases r;obtain⟨its,rv,ht,hz⟩:=I.tuple hq;refine assign_Tuple_tuple (I.ok.hd hc) ht (by simp[hn,<- hl,rv.length]) hst fun h' hx=>?_
 have I1:Inv X pins σ H {s with heap:=h'}:=I.kept (t':=s.toks) fun b o e=>hx b o (L9 (Lq e)) e
 exact h pins _ σ H xs _ Q I1 (by simpa using rv) hw
noncomputable def zJ(to ti:TE)(t:BE):TG:=fun v σ H Q=>to σ H fun o H1=>ti σ H1 fun i H2=>t o i v H2 fun H3=>Q σ H3
theorem Dj{o i:Expr}{to ti:TE}{t:BE}(ho:PE X o to)(hi:PE X i ti)(hs:DJ X t)
  (ha:autoParam (∀ v,assign (.Subscript o i pos) X.env v=(do
   let ov <- holding [v] (eval o X.env)
   let iv <- holding [v,ov] (eval i X.env)
   standAt pos
   holding [v,ov,iv] (setItem ov iv v)
   release [v,ov,iv] [])) ℜ3):PG X (.Subscript o i pos) (zJ to ti t):=by
 intro pins s σ H v u Q I r h;rw[ha];refine KR (LV (bE (ho pins s σ H _ I h) fun ov s1 ⟨x,H1,I1,r1,q1⟩=>?_));refine KR (LV (bE (hi pins s1 σ H1 _ I1 q1) fun iv s2 ⟨y,H2,I2,r2,q2⟩=>?_));refine KR (NW (KR (LV (bE (hs pins s2 σ H2 x y v ov iv u _ I2 r1 r2 r q2) fun _ s3 ⟨H3,I3,q3⟩=>?_))));exact wpAny_release ⟨σ,H3,I3,q3⟩
noncomputable def j6(te:TE)(g:TG):TS:=fun D σ H=>te σ H fun x H1=>g x σ H1 D.nx
theorem DV{te:TE}{g:TG}(he:PE X e te)(hg:PG X tg g)(hs:autoParam (swapsWithSole [tg] e pos.line X.env=pure false) ℜ0)(hw:autoParam (swappedStores [tg] e X.env=pure none) ℜ0)
  (h1:autoParam ((assignEach [tg] X.env).map (·.2)=[assign tg X.env]) ℜ0):PS X (.Assign [tg] e pos) (j6 te g):=by
 intro pins s σ H D I h;refine wpAny_Assign_stores (bE (he pins s σ H _ I h) fun v s1 ⟨x,H1,I1,r1,q1⟩=>?_) hs hw;rw[h1];exact bE (hg pins s1 σ H1 x v _ I1 r1 q1) fun _ s2 q=>q
theorem EE{te:TE}{pos':Pos}(hN:X.N.Nodup)(hi:X.N[i]?=some x)(hx:Loc X.env.scope x)(he:PE X e te)(hs:autoParam (swapsWith e (some (.Name x pos')) pos.line X.env=pure false) ℜ0)(hf:autoParam (X.fn x=true\/X.env.scope.names.lookup x=some .local) ℜ2):
  PS X (.Assign [.Name x pos'] e pos) (j6 te (bC i)):=by
 intro pins s σ H D I h;refine wpAny_Assign_Name (bE (he pins s σ H _ I h) fun v s1 ⟨y,H1,I1,r1,q1⟩=>?_) hs;exact pC I1 hN hi hx r1 (fun s2 I2=>⟨_,H1,I2,q1⟩) hf
end
section
variable {X:Cx} {pos:Pos}
noncomputable def ya(c:TT)(tb:TS):TS:=fun D σ H=>∃ W:Nat->St->Hp->Prop,(∃ m,W m σ H)/\∀ m σ H,W m σ H ->
 c σ H fun b H1=>if b=true then ∃ N:St->Hp->Prop,(∀ σ' H',N σ' H'->∃ m',m'<m/\W m' σ' H')/\tb {D with nx:=N,ct:=N,bk:=D.nx} σ H1 else D.nx σ H1
theorem yp{tc:TT}(hp:PassesOwn (model X.prog X.w) X.A X.env X.xe)(hc:PT X c tc)(hb:qj X body tb):PS X (.While c body [] pos) (ya tc tb):=by
 intro pins s σ H D I h;obtain⟨W,⟨m0,w0⟩,turn⟩:=h;refine wpAny_While (codeAny_whileLoop (fun n s'=>∃ σ' H',Inv X pins σ' H' s'/\W n σ' H') ?_ m0 ⟨σ,H,I,w0⟩);rintro n s1 ⟨σ1,H1,I1,w1⟩;refine MW hp (bE (hc pins s1 σ1 H1 _ I1 (turn n σ1 H1 w1)) fun b s2 ⟨H2,I2,q2⟩=>?_)
 cases b with
 |true =>
  obtain⟨N,hN,q2⟩:=q2;rw[Lg rfl];refine MW hp (bE (hb pins s2 σ1 H2 _ I2 q2) fun f s3 q3=>?_)
  cases f with
  |next =>
   obtain⟨σ3,H3,I3,n3⟩:=q3;obtain⟨m',hm,w3⟩:=hN σ3 H3 n3;exact⟨m',hm,σ3,H3,I3,w3⟩
  |cont =>
   obtain⟨σ3,H3,I3,n3⟩:=q3;obtain⟨m',hm,w3⟩:=hN σ3 H3 n3;exact⟨m',hm,σ3,H3,I3,w3⟩
  |brk=>exact q3
  |ret v=>exact q3
 |false =>
  rw[K_ Lm];exact Og ⟨σ1,H2,I2,q2⟩
end
structure It where
 go:Nat->Hp->Prop
 Ar:Nat->Hp->V->Hp->Prop
 stop:Nat->Hp->Prop
noncomputable def kn(X:Cx)(pins:List (Addr×Obj))(H:Hp)(b:Addr):Prop:=
 H b=none/\b≠X.env.locals/\b∉X.fs/\(b∈X.ex\/X.s₀.heap.objs.size<=b)/\(∀ x c,X.env.cells.lookup x=some c->c≠b)/\∀ p∈X.pn++pins,p.1≠b
theorem Inv.pF{H':Hp}(I:Inv X pins σ H s)(hb:s.heap.objs.size<=b)(hn:H' b=none):kn X pins H' b:=by
 refine⟨hn,Nd (L4 I.lt hb),I.FR hb,.inr (Lr I.sz hb),fun x c e z=>?_,fun p hp z=>?_⟩
 ·obtain⟨v,q⟩:=I.cell x c e;exact absurd (L4 q.lt (by rw[z];exact hb)) (MH _)
 ·exact absurd (L4 (Lq (I.pin p hp).1) (by rw[z];exact hb)) (MH _)
structure Turn (P:Program) (w:World) (K:Qa) (tg:Expr) (J:It) (fp:List Addr) (it:Addr) (tn:Nat->Heap->Prop):Prop where
 mem:it∈fp
 obj:∀ i h,tn i h->∀ b∈fp,∃ o,h.get? b=some o/\∀ v,o.data≠.cell v
 keep:∀ i h h',tn i h->(∀ b∈fp,∀ o,h.get? b=some o->h'.get? b=some o)->tn i h'
 item:∀(X:Cx),X.prog=P->X.w=w->X.K=K->X.calm=true->∀(i:Nat) (pins:List (Addr×Obj)) (s:Shared) (σ:St) (H:Hp) (E:Value->Shared->Prop),Inv X pins σ H s->(∀ b∈fp,kn X pins H b)->tn i s.heap->J.go i H ->
  wpAny (model P w) X.A (pyNext (.ref it)) (fun r s1=>∃ u,r=some u /\
   wpAny (model P w) X.A (letOwnedTupleGo tg (.ref it) u) (fun _ s2=>∃ x H',Inv X pins σ H' s2/\RelV x u/\J.Ar i H x H'/\tn (i+1) s2.heap/\∀ b∈fp,H' b=none) E s1) E s
 done:∀(X:Cx),X.prog=P->X.w=w->X.K=K->X.calm=true->∀(i:Nat) (pins:List (Addr×Obj)) (s:Shared) (σ:St) (H:Hp) (E:Value->Shared->Prop),Inv X pins σ H s->(∀ b∈fp,kn X pins H b)->tn i s.heap->J.stop i H ->
  wpAny (model P w) X.A (pyNext (.ref it)) (fun r s1=>r=none/\Inv X pins σ H s1) E s
 self:∀(A:Around) (i:Nat) (s:Shared) (Q:Value->Shared->Prop) (E:Value->Shared->Prop),tn i s.heap->Q (.ref it) s->wpAny (model P w) A (pyIter (.ref it)) Q E s
abbrev TI:=St->Hp->(It->Hp->Prop)->Prop
noncomputable def Kv(X:Cx)(pins:List (Addr×Obj))(σ:St)(tg:Expr)(R:It->Hp->Prop)(itv:Value)(s2:Shared):Prop:=
 ∃(it:Addr) (fp:List Addr) (tn:Nat->Heap->Prop) (J:It) (H':Hp),itv=.ref it/\Inv X pins σ H' s2/\Turn X.prog X.w X.K tg J fp it tn/\tn 0 s2.heap/\(∀ b∈fp,kn X pins H' b)/\R J H'
noncomputable def PI(X:Cx)(tg iter:Expr)(wi:TI):Prop:=
 ∀(pins:List (Addr×Obj)) (s:Shared) (σ:St) (H:Hp) (R:It->Hp->Prop),Inv X pins σ H s->wi σ H R ->
  wpAny (model X.prog X.w) X.A (eval iter X.env) (fun v s1=>wpAny (model X.prog X.w) X.A (pyIter v) (Kv X pins σ tg R) X.xe s1) X.xe s
theorem wy{A:Around}{it:Addr}{n:String}{vs:Array Value}{Q:Unit->Shared->Prop}(ho:s.heap.get? it=some o)(hc:o.cls=.type n)(hd:o.data=.fields vs)
    (hn:["enumerate","zip","dict_itemiterator","dict_reverseitemiterator","odict_iterator","itertools.zip_longest","itertools.pairwise"].contains n=false) (hQ:Q () s):wpAny M A (letOwnedTupleGo tg (.ref it) u) Q E s:=by
  unfold letOwnedTupleGo
  cases tg<;>first
    |exact Lk hQ
    | (cases u<;>first
        |exact Lk hQ
        | (refine KR (wpAny_load ho ?_)
           rw[hc,hd];show wpAny M A (if (["enumerate","zip","dict_itemiterator","dict_reverseitemiterator","odict_iterator","itertools.zip_longest","itertools.pairwise"].contains n && vs[0]? == some (rawInt _))=true then _ else _) Q E s
           rw[K_ (by intro h;rw[hn,Bool.false_and] at h;cases h)]
           exact Lk hQ))
noncomputable def rH(K:Qa)(a:Addr):It:=
 ⟨fun i H=>∃ xs x,bz K H a xs/\xs[i]?=some x,fun i H x H'=>H'=H/\∀ xs,bz K H a xs->xs[i]?=some x,fun i H=>∃ xs,bz K H a xs/\xs.length<=i⟩
noncomputable def vL(K:Qa)(a:Addr):It:=
 ⟨fun i H=>∃ xs x,aV K H a xs/\xs[i]?=some x,fun i H x H'=>H'=H/\∀ xs,aV K H a xs->xs[i]?=some x,fun i H=>∃ xs,aV K H a xs/\xs.length<=i⟩
noncomputable def FO(lo:Int)(n:Nat):It:=⟨fun i _=>i<n,fun i H x H'=>H'=H/\x=.int (lo+i),fun i _=>n<=i⟩
theorem kK(a it:Addr):Turn P w K tg (rH K a) [it] it (fun i h=>h.IsListIter it a i) where
 mem:=by simp
 obj:=fun i h st b hb=>by
  have e:b=it:=by simpa using hb
  subst e;obtain⟨o,e,c,d⟩:=st;exact⟨o,e,fun v z=>by rw[d] at z;cases z⟩
 keep:=fun i h h' st k=>st.at fun o e=>k it (by simp) o e
 item:=by
  intro X hP hw hK hc i pins s σ H E I hf st hg;subst hP hw hK;obtain⟨xs,x,hq,hx⟩:=hg;obtain⟨its,rv,p,hz⟩:=I.list hq;obtain⟨u,hu,ru⟩:=rv.get hx;obtain⟨f0,f1,f2,f3,f4,f5⟩:=hf it (by simp)
  refine Pu st p.isList (x:=u) (by simpa using hu) fun h' st' sb=>?_
  have I1:Inv X pins σ H {s with heap:=h'}:=I.turned (t':=s.toks) (fun b o hb e=>(sb.2 b hb).trans e) f0 f1 f3 f4 f5
  obtain⟨o,e,c,d⟩:=id st';exact⟨u,rfl,wy (s:={s with heap:=h'}) e c d (by decide) ⟨x,H,I1,ru,⟨rfl,fun ys hy=>by rw[I.jB hy hq];exact hx⟩,st',fun b hb=>(hf b hb).1⟩⟩
 done:=by
  intro X hP hw hK hc i pins s σ H E I hf st hg;subst hP hw hK;obtain⟨xs,hq,hx⟩:=hg;obtain⟨its,rv,p,hz⟩:=I.list hq;obtain⟨f0,f1,f2,f3,f4,f5⟩:=hf it (by simp)
  have hl:=rv.length;exact wpAny_pyNext_list_end (I.ok.hd hc) st p.isList (by simp;lia) fun h' eb=>⟨rfl,I.turned (t':=s.toks) (fun b o hb e=>eb b o hb e) f0 f1 f3 f4 f5⟩
 self:=fun _ _ _ _ _ st h=>wpAny_pyIter_listiter st h
theorem jP(a it:Addr):Turn P w K tg (vL K a) [it] it (fun i h=>h.IsTupleIter it a i) where
 mem:=by simp
 obj:=fun i h st b hb=>by
  have e:b=it:=by simpa using hb
  subst e;obtain⟨o,e,c,d⟩:=st;exact⟨o,e,fun v z=>by rw[d] at z;cases z⟩
 keep:=fun i h h' st k=>st.at fun o e=>k it (by simp) o e
 item:=by
  intro X hP hw hK hc i pins s σ H E I hf st hg;subst hP hw hK;obtain⟨xs,x,hq,hx⟩:=hg;obtain⟨its,rv,p,hz⟩:=I.tuple hq;obtain⟨u,hu,ru⟩:=rv.get hx;obtain⟨f0,f1,f2,f3,f4,f5⟩:=hf it (by simp)
  refine wpAny_pyNext_tuple_item st (show s.heap.IsTuple a its.toArray from p) (x:=u) (by simpa using hu) fun h' st' sb=>?_
  have I1:Inv X pins σ H {s with heap:=h'}:=I.turned (t':=s.toks) (fun b o hb e=>(sb.2 b hb).trans e) f0 f1 f3 f4 f5
  obtain⟨o,e,c,d⟩:=id st';exact⟨u,rfl,wy (s:={s with heap:=h'}) e c d (by decide) ⟨x,H,I1,ru,⟨rfl,fun ys hy=>by rw[I.h9 hy hq];exact hx⟩,st',fun b hb=>(hf b hb).1⟩⟩
 done:=by
  intro X hP hw hK hc i pins s σ H E I hf st hg;subst hP hw hK;obtain⟨xs,hq,hx⟩:=hg;obtain⟨its,rv,p,hz⟩:=I.tuple hq;obtain⟨f0,f1,f2,f3,f4,f5⟩:=hf it (by simp)
  have hl:=rv.length;exact wpAny_pyNext_tuple_end (I.ok.hd hc) st (show s.heap.IsTuple a its.toArray from p) (by simp;lia) fun h' eb=>⟨rfl,I.turned (t':=s.toks) (fun b o hb e=>eb b o hb e) f0 f1 f3 f4 f5⟩
 self:=fun _ _ _ _ _ st h=>wpAny_pyIter_tupleiter st h
theorem qP{w:World}(it:Addr)(lo:Int)(n:Nat):Turn P w K tg (FO lo n) [it] it (fun i h=>IsRangeIter h it (lo+(i:Nat)*1) ((n:Int)-(i:Nat)) 1) where
 mem:=by simp
 obj:=fun i h st b hb=>by
  have e:b=it:=by simpa using hb
  subst e;exact⟨_,st,fun v z=>by
   have z':Data.fields _=Data.cell v:=z
   cases z'⟩
 keep:=fun i h h' st k=>k it (by simp) _ st
 item:=by
  intro X hP hw hK hc i pins s σ H E I hf st hg;subst hP hw hK;obtain⟨f0,f1,f2,f3,f4,f5⟩:=hf it (by simp)
  have W:=Walks.range (prog:=X.prog) (w:=X.w) (I.ok.hd hc) it lo 1 n;refine W.item i s _ _ hg st fun v h' tk hv st' kk=>?_;obtain⟨t,rfl⟩:=hv;have I1:Inv X pins σ H {s with heap:=h',toks:=tk}:=I.turned (fun b o hb e=>kk b o (by simpa using hb) e) f0 f1 f3 f4 f5
  refine⟨_,rfl,wy (s:={s with heap:=h',toks:=tk}) (n:="range_iterator") st' rfl rfl (by decide) ⟨.int (lo+i),H,I1,⟨t,?_⟩,⟨rfl,rfl⟩,st',fun b hb=>(hf b hb).1⟩⟩
  rw[Int.mul_one]
 done:=by
  intro X hP hw hK hc i pins s σ H E I hf st hg;subst hP hw hK;obtain⟨f0,f1,f2,f3,f4,f5⟩:=hf it (by simp)
  exact wpAny_pyNext_range_end (I.ok.hd hc) st (by have:n<=i:=hg;lia) fun h' eb=>⟨rfl,I.turned (t':=s.toks) (fun b o hb e=>eb b o hb e) f0 f1 f3 f4 f5⟩
 self:=fun _ _ _ _ _ st h=>wpAny_pyIter_rangeiter st h
section
variable {X:Cx} {tg:Expr}
theorem pL{R:It->Hp->Prop}{lo hi:Int}{t u v:Tok}{tk:Nat}(I:Inv X pins σ H s)(h1:-(2^62)<=lo)(h2:lo<2^62)(h3:-(2^62)<=hi)(h4:hi<2^62)
  (q:R (FO lo (hi-lo).toNat) H):wpAny (model X.prog X.w) X.A (pyIter (.ref s.heap.objs.size)) (Kv X pins σ tg R) E {s with heap:=s.heap.push {cls:=.type "range",data:=.fields #[.int lo t,.int hi u,.int 1 v]},toks:=tk}:=by
 refine wpAny_pyIter_range (IsRange.new ..) (small_one h1 h2 h3 h4) ?_;have I1:Inv X pins σ H {s with heap:=s.heap.push {cls:=.type "range",data:=.fields #[.int lo t,.int hi u,.int 1 v]},toks:=tk}:=I.kept fun b o e=>KU _ e
 refine⟨(s.heap.push {cls:=.type "range",data:=.fields #[.int lo t,.int hi u,.int 1 v]}).objs.size,[(s.heap.push {cls:=.type "range",data:=.fields #[.int lo t,.int hi u,.int 1 v]}).objs.size],_,_,H,rfl,
  I1.kept (t':=tk) fun b o e=>KU _ e,qP _ lo (hi-lo).toNat,?_,fun b hb=>?_,q⟩
 ·have e1:lo+((0:Nat):Int)*1=lo:=by simp
  have e2:(((hi-lo).toNat:Nat):Int)-((0:Nat):Int)=Builtin.Range.rangeSize lo hi 1:=by rw[PL];split<;>lia
  show IsRangeIter _ _ (lo+((0:Nat):Int)*1) ((((hi-lo).toNat:Nat):Int)-((0:Nat):Int)) 1;rw[e1,e2];exact Lo _ rfl
 ·have e:b=(s.heap.push {cls:=.type "range",data:=.fields #[.int lo t,.int hi u,.int 1 v]}).objs.size:=by simpa using hb
  subst e;exact I1.pF (Lf _) (I1.aD.fresh (Lf _))
noncomputable def yi(ta:TA):TI:=fun σ H R=>ta σ H fun vs H1=>∃ j:Int,vs=[.int j]/\-(2^62)<=j/\j<2^62/\R (FO 0 j.toNat) H1
noncomputable def x4(ta:TA):TI:=fun σ H R=>ta σ H fun vs H1=>∃ i j:Int,vs=[.int i,.int j]/\(-(2^62)<=i/\i<2^62/\-(2^62)<=j/\j<2^62)/\R (FO i (j-i).toNat) H1
theorem vm{a:Expr}{ta:TA}{p pos:Pos}(hg:Gl X "range")(hm:X.mg "range"=none)(ha:PA X [a] ta)(hs:autoParam (starEach [a] X.env=[(false,eval a X.env)]) ℜ0):PI X tg (.Call (.Name "range" p) [a] [] pos) (yi ta):=by
 intro pins s σ H R I h;refine Call_ (eE I hg hm boot_range (Mn (bE (ha pos pins s σ H _ I h) fun us s1 ⟨vs,H1,I1,r1,q1⟩=>?_) hs rfl));obtain⟨j,e,q1,q2,q⟩:=q1;subst e
 cases r1 with
 |cons r rr =>
  cases rr;obtain⟨t,rfl⟩:=r;exact call_range_1 (pL I1 (by lia) (by lia) q1 q2 (by simpa using q))
theorem uH{a b:Expr}{ta:TA}{p pos:Pos}(hg:Gl X "range")(hm:X.mg "range"=none)(ha:PA X [a,b] ta)(hs:autoParam (starEach [a,b] X.env=[(false,eval a X.env),(false,eval b X.env)]) ℜ0)(hs2:autoParam (starEach [b] X.env=[(false,eval b X.env)]) ℜ0):
  PI X tg (.Call (.Name "range" p) [a,b] [] pos) (x4 ta):=by
 intro pins s σ H R I h;refine Call_ (eE I hg hm boot_range (Mn (bE (ha pos pins s σ H _ I h) fun us s1 ⟨vs,H1,I1,r1,q1⟩=>?_) (by rw[hs,hs2]) (by rw[hs2];rfl)))
 obtain⟨i,j,e,⟨q1,q2,q3,q4⟩,q⟩:=q1;subst e
 cases r1 with
 |cons r rr =>
  cases rr with
  |cons r' rr =>
   cases rr;obtain⟨t,rfl⟩:=r;obtain⟨t',rfl⟩:=r';exact call_range_2 (pL I1 q1 q2 q3 q4 q)
noncomputable def Ei(wi:TI)(g:TG)(tb:TS):TS:=fun D σ H=>wi σ H fun J H1=>∃ W:Nat->Nat->St->Hp->Prop,(∃ m,W 0 m σ H1)/\∀ i m σ H,W i m σ H ->
 (J.stop i H/\D.nx σ H)\/(J.go i H/\∃ N:St->Hp->Prop,(∀ σ' H',N σ' H'->∃ m',m'<m/\W (i+1) m' σ' H')/\∀ x H',J.Ar i H x H'->g x σ H' fun σ2 H2=>tb {D with nx:=N,ct:=N,bk:=D.nx} σ2 H2)
noncomputable def j0(fp:List Addr)(h:Heap):List (Addr×Obj):=fp.filterMap fun b=>(h.get? b).map fun o=>(b,o)
theorem eI(hb:b∈fp)(e:h.get? b=some o):(b,o)∈j0 fp h:=NL.mpr ⟨b,hb,by rw[e];rfl⟩
theorem uG{p:Addr×Obj}(hp:p∈j0 fp h):p.1∈fp/\h.get? p.1=some p.2:=by
 obtain⟨b,hb,e⟩:=NL.mp hp
 cases q:h.get? b with
 |none=>rw[q] at e;cases e
 |some o =>
  rw[q] at e;have e':(b,o)=p:=Option.some.inj e;subst e';exact⟨hb,q⟩
theorem Inv.pinned(I:Inv X pins σ H s)(hf:∀ b∈fp,kn X pins H b)(ho:∀ b∈fp,∃ o,s.heap.get? b=some o/\∀ v,o.data≠.cell v):Inv X (pins++j0 fp s.heap) σ H s:=
 I.mQ fun p hp=>(L1.mp hp).elim (fun z=>I.pin p (L5 _ z)) fun z=>by
  obtain⟨hb,e⟩:=uG z;obtain⟨f0,f1,f2,_⟩:=hf p.1 hb;obtain⟨o,e',d⟩:=ho p.1 hb;rw[e] at e';cases e';exact⟨e,f0,f1,f2,d⟩
theorem Inv.fm{pl:List (Addr×Obj)}(I:Inv X (pins++pl) σ H s):Inv X pins σ H s:=I.mQ fun p hp=>I.pin p (L5 _ (Of _ hp))
theorem EH{iter:Expr}{wi:TI}{g:TG}{pos:Pos}(hp:PassesOwn (model X.prog X.w) X.A X.env X.xe)(hc:X.calm=true)(hi:PI X tg iter wi)(hg:PG X tg g)(hb:qj X body tb)
  (hs:autoParam (∀ x,foldedSetIterable iter X.env x=pure x) ℜ3):PS X (.For tg iter body [] pos) (Ei wi g tb):=by
 intro pins s σ H D I h;refine wpAny_For (bE (hi pins s σ H _ I h) fun v s1 h1=>bE h1 fun itv s2 h2=>?_) hs;obtain⟨it,fp,tn,J,H2,e,I2,T,wL,f2,W,⟨m0,w0⟩,turn⟩:=h2;subst e;have stat:∀{H':Hp},(∀ b∈fp,H' b=none)->∀ b∈fp,kn X pins H' b:=fun hn b hb=>⟨hn b hb,(f2 b hb).2⟩;refine codeAny_forLoop_any (fun n s'=>∃ i σ' H',Inv X pins σ' H' s'/\tn i s'.heap/\(∀ b∈fp,H' b=none)/\W i n σ' H') ?_ m0 ⟨0,σ,H2,I2,wL,fun b hb=>(f2 b hb).1,w0⟩;rintro n s3 ⟨i,σ3,H3,I3,st3,fr3,w3⟩;rcases turn i n σ3 H3 w3 with ⟨stop,qn⟩|⟨go,N,hN,step⟩
 ·refine MW hp (bE (T.done X rfl rfl rfl hc i pins s3 σ3 H3 X.xe I3 (stat fr3) st3 stop) fun r s4 ⟨hr,I4⟩=>?_);subst hr;exact Og ⟨σ3,H3,I4,qn⟩
 ·refine MW hp (bE (T.item X rfl rfl rfl hc i pins s3 σ3 H3 X.xe I3 (stat fr3) st3 go) fun r s4 ⟨u,hr,h4⟩=>?_);subst hr;refine MW hp (bE h4 fun _ s5 ⟨x,H5,I5,r5,y5,st5,fr5⟩=>?_);have I5':=I5.pinned (stat fr5) (T.obj _ _ st5);refine MW hp (bE (hg _ s5 σ3 H5 x u _ I5' r5 (step x H5 y5)) fun _ s6 ⟨σ6,H6,I6,q6⟩=>?_);refine MW hp (bE (hb _ s6 σ6 H6 _ I6 q6) fun f s7 q7=>?_);have again:∀{σ7:St} {H7:Hp},Inv X (pins++j0 fp s5.heap) σ7 H7 s7->N σ7 H7->∃ m,m<n/\∃ i σ' H',Inv X pins σ' H' s7/\tn i s7.heap/\(∀ b∈fp,H' b=none)/\W i m σ' H':=fun {σ7 H7} I7 n7=>by
   obtain⟨m',hm,w7⟩:=hN σ7 H7 n7;refine⟨m',hm,i+1,σ7,H7,I7.fm,T.keep _ _ _ st5 fun b hb o e=>(I7.pin (b,o) (L5 _ (L5 _ (eI hb e)))).1,fun b hb=>?_,w7⟩;obtain⟨o,e,d⟩:=T.obj _ _ st5 b hb;exact (I7.pin (b,o) (L5 _ (L5 _ (eI hb e)))).2.1
  cases f with
  |next=>obtain⟨σ7,H7,I7,n7⟩:=q7;exact again I7 n7
  |cont=>obtain⟨σ7,H7,I7,n7⟩:=q7;exact again I7 n7
  |brk=>obtain⟨σ7,H7,I7,q7⟩:=q7;exact⟨σ7,H7,I7.fm,q7⟩
  |ret v=>obtain⟨x7,σ7,H7,I7,r7,q7⟩:=q7;exact⟨x7,σ7,H7,I7.fm,r7,q7⟩
end
theorem xq{g:TG}{D:Ends}(Pv:Nat->St->Hp->Prop)(h0:Pv 0 σ H)(hl:∀ i σ H,i<=xs.length->Pv i σ H->bz K H a xs)
  (hs:∀ i x σ H,xs[i]?=some x->Pv i σ H->g x σ H fun σ2 H2=>tb {D with nx:=Pv (i+1),ct:=Pv (i+1),bk:=D.nx} σ2 H2) (hd:∀ σ H,Pv xs.length σ H->D.nx σ H) :
  ∃ W:Nat->Nat->St->Hp->Prop,(∃ m,W 0 m σ H)/\∀ i m σ H,W i m σ H ->
   ((rH K a).stop i H/\D.nx σ H)\/((rH K a).go i H/\∃ N:St->Hp->Prop,(∀ σ' H',N σ' H'->∃ m',m'<m/\W (i+1) m' σ' H')/\∀ x H',(rH K a).Ar i H x H'->g x σ H' fun σ2 H2=>tb {D with nx:=N,ct:=N,bk:=D.nx} σ2 H2):=by
 refine⟨fun i m σ H=>m=xs.length-i/\i<=xs.length/\Pv i σ H,⟨xs.length,by simp,LA _,h0⟩,?_⟩
 rintro i m σ H ⟨rfl,hi,p⟩;have q:=hl i σ H hi p;by_cases hlt:i<xs.length
 ·refine .inr ⟨⟨xs,xs[i],q,by simp[hlt]⟩,Pv (i+1),fun σ' H' p'=>⟨xs.length-(i+1),by lia,rfl,hlt,p'⟩,fun x H' y=>?_⟩
  obtain⟨e,y⟩:=y;subst e;exact hs i x σ _ (y xs q) p
 ·have e:i=xs.length:=by lia
  subst e;exact .inl ⟨⟨xs,q,Lf _⟩,hd σ H p⟩
abbrev R2:=V->V->Hp->VK->Prop
variable{r:R2}
noncomputable def d7(X:Cx)(f:Value->Value->Sem Value)(r:R2):Prop:=
 ∀(pins:List (Addr×Obj)) (s:Shared) (σ:St) (H:Hp) (x y:V) (v u:Value) (Q:VK),Inv X pins σ H s->RelV x v->RelV y u->r x y H Q ->
  wpAny (model X.prog X.w) X.A (f v u) (EP X pins σ Q) X.xe s
noncomputable def Iw(X:Cx)(f:Value->Sem Value)(r:V->Hp->VK->Prop):Prop:=
 ∀(pins:List (Addr×Obj)) (s:Shared) (σ:St) (H:Hp) (x:V) (v:Value) (Q:VK),Inv X pins σ H s->RelV x v->r x H Q ->
  wpAny (model X.prog X.w) X.A (f v) (EP X pins σ Q) X.xe s
noncomputable def aF(X:Cx)(f:Value)(r:List V->Hp->VK->Prop):Prop:=
 ∀(pins:List (Addr×Obj)) (s:Shared) (σ:St) (H:Hp) (xs:List V) (us:List Value) (Q:VK),Inv X pins σ H s->Vals xs us->r xs H Q ->
  wpAny (model X.prog X.w) X.A (call f us) (EP X pins σ Q) X.xe s
noncomputable def IQ(X:Cx)(r:V->Hp->(Bool->Hp->Prop)->Prop):Prop:=
 ∀(pins:List (Addr×Obj)) (s:Shared) (σ:St) (H:Hp) (x:V) (v:Value) (Q:Bool->Hp->Prop),Inv X pins σ H s->RelV x v->r x H Q ->
  wpAny (model X.prog X.w) X.A (truthy v) (TP X pins σ Q) X.xe s
noncomputable def vI(r:R2)(ta tb:TE):TE:=fun σ H Q=>ta σ H fun x H1=>tb σ H1 fun y H2=>r x y H2 Q
noncomputable def Kw(r:V->Hp->VK->Prop)(ta:TE):TE:=fun σ H Q=>ta σ H fun x H1=>r x H1 Q
noncomputable def rI(C:Int->Int->Prop)(g:Int->Int->V):R2:=fun x y H Q=>∃ i j,x=.int i/\y=.int j/\C i j/\Q (g i j) H
noncomputable def zR(g:Int->Int->V):R2:=fun x y H Q=>∃ i j,x=.int i/\y=.int j/\Q (g i j) H
noncomputable def rU(g:Int->V):V->Hp->VK->Prop:=fun x H Q=>∃ i,x=.int i/\Q (g i) H
section
variable {X:Cx} {a b c:Expr} {ta tb tc:TE} {pos:Pos}
theorem E4(ha:PE X a ta)(hb:PE X b tb){R:V->V->Hp->Prop}(I:Inv X pins σ H s)
  (h:ta σ H fun x H1=>tb σ H1 fun y H2=>R x y H2)  
  (hf:∀ v u s2 x y H2,Inv X pins σ H2 s2->RelV x v->RelV y u->R x y H2->wpAny (model X.prog X.w) X.A (f v u) Q X.xe s2) :
  wpAny (model X.prog X.w) X.A (eval a X.env) (fun v s₁=>wpAny (model X.prog X.w) X.A (eval b X.env) (fun u s₂=>wpAny (model X.prog X.w) X.A (f v u) Q X.xe s₂) X.xe s₁) X.xe s:=by
 refine bE (ha pins s σ H _ I h) fun v s1 ⟨x,H1,I1,r1,q1⟩=>?_;refine bE (hb pins s1 σ H1 _ I1 q1) fun u s2 ⟨y,H2,I2,r2,q2⟩=>?_;exact hf v u s2 x y H2 I2 r1 r2 q2
theorem Gp{op:Operator}(ho:d7 X (binaryOp op) r)(ha:PE X a ta)(hb:PE X b tb):PE X (.BinOp a op b pos) (vI r ta tb):=by
 intro pins s σ H Q I h;exact wpAny_BinOp (E4 ha hb I h fun v u s2 x y H2 I2 rx ry q=>ho pins s2 σ H2 x y v u Q I2 rx ry q)
theorem HV{op:UnaryOp}{r:V->Hp->VK->Prop}(ho:Iw X (unaryOp op) r)(ha:PE X a ta):PE X (.UnaryOp op a pos) (Kw r ta):=by
 intro pins s σ H Q I h;exact UnaryOp_ (bE (ha pins s σ H _ I h) fun v s1 ⟨x,H1,I1,r1,q1⟩=>ho pins s1 σ H1 x v Q I1 r1 q1)
theorem Ig{C:Int->Int->Prop}{g:Int->Int->Int}
  (rule:∀(i j:Int) (t u:Tok) (s:Shared) (Q:Value->Shared->Prop) (E:Value->Shared->Prop),C i j->Q (.int (g i j) s.toks) {s with toks:=s.toks+1}->wpAny (model X.prog X.w) X.A (f (.int i t) (.int j u)) Q E s) :
  d7 X f (rI C fun i j=>.int (g i j)):=by
 intro pins s σ H x y v u Q I rx ry h;obtain⟨i,j,rfl,rfl,hc,q⟩:=h;obtain⟨t,rfl⟩:=rx;obtain⟨t',rfl⟩:=ry;exact rule i j t t' s _ _ hc ⟨.int (g i j),H,I.tok _,⟨_,rfl⟩,q⟩
theorem G8{g:Int->Int->Int}
  (rule:∀(i j:Int) (t u:Tok) (s:Shared) (Q:Value->Shared->Prop) (E:Value->Shared->Prop),Q (.int (g i j) s.toks) {s with toks:=s.toks+1}->wpAny (model X.prog X.w) X.A (f (.int i t) (.int j u)) Q E s) :
  d7 X f (zR fun i j=>.int (g i j)):=by
 intro pins s σ H x y v u Q I rx ry h;obtain⟨i,j,rfl,rfl,q⟩:=h;obtain⟨t,rfl⟩:=rx;obtain⟨t',rfl⟩:=ry;exact rule i j t t' s _ _ ⟨.int (g i j),H,I.tok _,⟨_,rfl⟩,q⟩
theorem EI{g:Int->Int->Bool}
  (rule:∀(i j:Int) (t u:Tok) (s:Shared) (Q:Value->Shared->Prop) (E:Value->Shared->Prop),Q (.bool (g i j)) s->wpAny (model X.prog X.w) X.A (f (.int i t) (.int j u)) Q E s) :
  d7 X f (zR fun i j=>.bl (g i j)):=by
 intro pins s σ H x y v u Q I rx ry h;obtain⟨i,j,rfl,rfl,q⟩:=h;obtain⟨t,rfl⟩:=rx;obtain⟨t',rfl⟩:=ry;exact rule i j t t' s _ _ ⟨.bl (g i j),H,I,rfl,q⟩
noncomputable def Jh(i j:Int):Prop:=0<=j/\j<=1000000/\i.natAbs<2^64
noncomputable def nL(i j:Int):Prop:=(-(2^64)<i/\i<2^64)\/(-(2^64)<j/\j<2^64)
theorem nL.ok{i j:Int}(h:nL i j):IntMulOk i j:=by
 rcases h with ⟨h1,h2⟩|⟨h1,h2⟩
 ·exact .of_left (intBits_le_64 h1 h2)
 ·exact .of_right (intBits_le_64 h1 h2)
theorem zk:d7 X (binaryOp .Add) (zR fun i j=>.int (i+j)):=G8 fun _ _ _ _ _ _ _ q=>add_int q
theorem d5:d7 X (binaryOp .Sub) (zR fun i j=>.int (i-j)):=G8 fun _ _ _ _ _ _ _ q=>sub_int q
theorem DD:d7 X (binaryOp .Mult) (rI nL fun i j=>.int (i*j)):=Ig fun _ _ _ _ _ _ _ hc q=>mul_int q hc.ok
theorem eG:d7 X (binaryOp .Mod) (rI (fun _ j=>0<j) fun i j=>.int (i % j)):=Ig fun i j _ _ _ _ _ hc q=>by
 have h1:(0:Int)<j:=hc;exact mod_int' (by lia) (by rw[Int.fmod_eq_emod_of_nonneg i (by lia)];exact q)
theorem yz:d7 X (binaryOp .Pow) (rI Jh fun i j=>.int (i^j.toNat)):=Ig fun _ _ _ _ _ _ _ hc q=>pow_int_small hc.1 hc.2.1 hc.2.2 q
theorem K5{f:Value->Sem Value}{g:Int->Int}
  (rule:∀(i:Int) (t:Tok) (s:Shared) (Q:Value->Shared->Prop) (E:Value->Shared->Prop),Q (.int (g i) s.toks) {s with toks:=s.toks+1}->wpAny (model X.prog X.w) X.A (f (.int i t)) Q E s) :
  Iw X f (rU fun i=>.int (g i)):=by
 intro pins s σ H x v Q I rx h;obtain⟨i,rfl,q⟩:=h;obtain⟨t,rfl⟩:=rx;exact rule i t s _ _ ⟨.int (g i),H,I.tok _,⟨_,rfl⟩,q⟩
theorem D5:Iw X (unaryOp .USub) (rU fun i=>.int (-i)):=K5 fun _ _ _ _ _ q=>neg_int q
end
noncomputable def IS:V->V->Bool
 |.aw,.aw=>true|.aw,.int _=>true|.int _,.aw=>true|.aw,.bl _=>true|.bl _,.aw=>true|.aw,.str _=>true|.str _,.aw=>true
 |.int _,.int _=>true|.bl _,.bl _=>true|.str _,.str _=>true|.zL _,.zL _=>true
 |.int _,.str _=>true|.str _,.int _=>true|.bl _,.str _=>true|.str _,.bl _=>true
 |_,_=>false
noncomputable def Kl:R2:=fun x y H Q=>IS x y=true/\Q (.bl (decide (x=y))) H
theorem Bz{i j:Int}:decide (V.int i=V.int j)=(i == j):=by
 rw[Oh];simp
theorem Ek{i j:Bool}:decide (V.bl i=V.bl j)=(i == j):=by
 rw[Oh];simp
theorem Ab{i j:Str}:decide (V.str i=V.str j)=(i == j):=by
 rw[Oh];simp
theorem Ay{i j:Array UInt8}:decide (V.zL i=V.zL j)=(i.toList == j.toList):=by
 rw[Oh];cases i;cases j;simp
section
variable {X:Cx} {a b c:Expr} {ta tb tc:TE} {pos:Pos}
theorem bG{Q:VK}{k k':Bool}(I:Inv X pins σ H s)(q:Q (.bl k) H)(e:k=k'):EP X pins σ Q (.bool k') s:=by
 subst e;exact⟨.bl k,H,I,rfl,q⟩
theorem He:d7 X (compareOp .Eq) Kl:=by
 intro pins s σ H x y v u Q I rx ry h;obtain⟨hs,q⟩:=h
 cases x with
 |aw =>
  cases rx
  cases y with
  |aw=>cases ry;exact PySem.EqNone.eq_none_none (bG I q (by simp))
  |bl j=>cases ry;exact PySem.EqNone.eq_none_bool (bG I q (by simp))
  |int j=>obtain⟨t',rfl⟩:=ry;exact PySem.EqNone.eq_none_int (bG I q (by simp))
  |str j=>obtain⟨t',rfl⟩:=ry;exact PySem.EqNone.eq_none_str (bG I q (by simp))
  |_=>exact absurd (show false=true from hs) Lm
 |bl i =>
  cases rx
  cases y with
  |aw=>cases ry;exact PySem.EqNone.eq_bool_none (bG I q (by simp))
  |bl j=>cases ry;exact eq_bool (bG I q Ek)
  |str j=>obtain⟨t',rfl⟩:=ry;exact PySem.EqMixed.eq_bool_str (bG I q (by simp))
  |_=>exact absurd (show false=true from hs) Lm
 |int i =>
  obtain⟨t,rfl⟩:=rx
  cases y with
  |aw=>cases ry;exact PySem.EqNone.eq_int_none (bG I q (by simp))
  |int j=>obtain⟨t',rfl⟩:=ry;exact eq_int (bG I q Bz)
  |str j=>obtain⟨t',rfl⟩:=ry;exact PySem.EqMixed.eq_int_str (bG I q (by simp))
  |_=>exact absurd (show false=true from hs) Lm
 |str i =>
  obtain⟨t,rfl⟩:=rx
  cases y with
  |aw=>cases ry;exact PySem.EqNone.eq_str_none (bG I q (by simp))
  |bl j=>cases ry;exact PySem.EqMixed.eq_str_bool (bG I q (by simp))
  |int j=>obtain⟨t',rfl⟩:=ry;exact PySem.EqMixed.eq_str_int (bG I q (by simp))
  |str j=>obtain⟨t',rfl⟩:=ry;exact eq_str (bG I q Ab)
  |_=>exact absurd (show false=true from hs) Lm
 |zL i =>
  obtain⟨t,rfl⟩:=rx
  cases y with
  |zL j=>obtain⟨t',rfl⟩:=ry;exact PySem.W.eq_bytes (bG I q Ay)
  |_=>exact absurd (show false=true from hs) Lm
 |_=>cases y<;>exact absurd (show false=true from hs) Lm
theorem kU:d7 X (compareOp .Lt) (zR fun i j=>.bl (decide (i<j))):=EI fun _ _ _ _ _ _ _ q=>lt_int q
theorem rR:d7 X (compareOp .Gt) (zR fun i j=>.bl (decide (j<i))):=EI fun _ _ _ _ _ _ _ q=>gt_int q
theorem CL:d7 X (compareOp .GtE) (zR fun i j=>.bl (decide (j<=i))):=EI fun _ _ _ _ _ _ _ q=>ge_int q
theorem vi:d7 X (compareOp .In) (fun x y H Q=>∃ i j,x=.str i/\y=.str j/\Q (.bl (!(Builtin.Str.occurrences j i 0 j.length 1).isEmpty)) H):=by
 intro pins s σ H x y v u Q I rx ry h;obtain⟨i,j,rfl,rfl,q⟩:=h;obtain⟨t,rfl⟩:=rx;obtain⟨t',rfl⟩:=ry;exact in_str (bG I q rfl)
theorem qZ:d7 X (compareOp .Is) (fun x y H Q=>y=.aw/\Q (.bl (decide (x=.aw))) H):=by
 intro pins s σ H x y v u Q I rx ry h;obtain⟨rfl,q⟩:=h;cases ry;refine is_none_gen (bG I q ?_)
 cases x<;>first
  | (cases rx;rfl)
  | (obtain⟨t,rfl⟩:=rx;rfl)
theorem m6:d7 X (compareOp .IsNot) (fun x y H Q=>y=.aw/\Q (.bl (!decide (x=.aw))) H):=by
 intro pins s σ H x y v u Q I rx ry h;obtain⟨rfl,q⟩:=h;cases ry;refine isnot_none_gen (bG I q ?_)
 cases x<;>first
  | (cases rx;rfl)
  | (obtain⟨t,rfl⟩:=rx;rfl)
theorem d7.or{r':R2}(h:d7 X f r)(h':d7 X f r'):d7 X f (fun x y H Q=>r x y H Q\/r' x y H Q):=by
 intro pins s σ H x y v u Q I rx ry q;rcases q with q|q
 ·exact h pins s σ H x y v u Q I rx ry q
 ·exact h' pins s σ H x y v u Q I rx ry q
theorem Ax{op:CmpOp}(ho:d7 X (compareOp op) r)(ha:PE X a ta)(hb:PE X b tb)(hm:behindInMarks op b=false):PE X (.Compare a [op] [b] pos) (vI r ta tb):=by
 intro pins s σ H Q I h;exact wpAny_Compare1 (E4 ha hb I h fun v u s2 x y H2 I2 rx ry q=>ho pins s2 σ H2 x y v u Q I2 rx ry q) hm
noncomputable def ym(t:TE):TT:=fun σ H Q=>t σ H fun x H'=>∃ k,x=.bl k/\Q k H'
theorem BD{op:CmpOp}(ho:d7 X (compareOp op) r)(ha:PE X a ta)(hb:PE X b tb)(hm:behindInMarks op b=false):PT X (.Compare a [op] [b] pos) (ym (vI r ta tb)):=by
 intro pins s σ H Q I h;refine wpAny_isTrue_Compare1 (bE (ha pins s σ H _ I h) fun v s1 ⟨x,H1,I1,r1,q1⟩=>bE (hb pins s1 σ H1 _ I1 q1) fun u s2 ⟨y,H2,I2,r2,q2⟩=>
  bE (ho pins s2 σ H2 x y v u _ I2 r1 r2 q2) fun c s3 ⟨z,H3,I3,r3,k,e,q3⟩=>?_) hm
 subst e;cases r3;exact wpAny_truthy_bool ⟨H3,I3,q3⟩
noncomputable def wO(K:Qa)(x:V)(H:Hp)(k:Bool):Prop:=
 match x with
 |.aw=>k=false
 |.bl b=>k=b
 |.int i=>k=(i != 0)
 |.str y=>y.length<=sizeLine/\k=((y.length:Int) != 0)
 |.zL y=>y.size<=sizeLine/\k=((y.size:Int) != 0)
 |.ref p=>(∃ xs,bz K H p xs/\k=!xs.isEmpty)\/(∃ xs,aV K H p xs/\k=!xs.isEmpty)\/∃ kvs,H p=some (.dK kvs)/\k=!kvs.isEmpty
 |_=>False
theorem qJ{κ:Type}{kvs:List (κ×V)}{vs:List (κ×Value)}(r:KV kvs vs):(!vs.isEmpty)=!kvs.isEmpty:=by
 cases r<;>rfl
theorem jL{its:List Value}(r:Vals xs its):(!its.toArray.isEmpty)=!xs.isEmpty:=by
 cases r<;>simp
theorem fP:(sizeLine:Nat)<2^63:=by rw[MP];decide
theorem Ex:IQ X (fun x H Q=>∃ k,wO X.K x H k/\Q k H):=by
 intro pins s σ H x v Q I rx h;obtain⟨k,e,q⟩:=h;have hl:=fP;have hs:sizeLine=16777216:=MP
 cases x with
 |aw =>
  cases rx;have e':k=false:=e;subst e';exact truthy_none ⟨H,I,q⟩
 |bl b =>
  cases rx;have e':k=b:=e;subst e';exact wpAny_truthy_bool ⟨H,I,q⟩
 |int i =>
  obtain⟨t,rfl⟩:=rx;have e':k=(i != 0):=e;subst e';exact PySem.P.truthy_int ⟨H,I,q⟩
 |str y =>
  obtain⟨t,rfl⟩:=rx;obtain⟨hy,e'⟩:y.length<=sizeLine/\k=((y.length:Int) != 0):=e;subst e';exact PySem.P.truthy_str (by lia) ⟨H,I.tok _,q⟩
 |zL y =>
  obtain⟨t,rfl⟩:=rx;obtain⟨hy,e'⟩:y.size<=sizeLine/\k=((y.size:Int) != 0):=e;subst e';exact PySem.W.truthy_bytes (by lia) ⟨H,I.tok _,q⟩
 |ref p =>
  cases rx;have e':(∃ xs,bz X.K H p xs/\k=!xs.isEmpty)\/(∃ xs,aV X.K H p xs/\k=!xs.isEmpty)\/∃ kvs,H p=some (.dK kvs)/\k=!kvs.isEmpty:=e;rcases e' with ⟨xs,hx,e'⟩|⟨xs,hx,e'⟩|⟨kvs,hx,e'⟩
  ·subst e';obtain⟨its,r,pl,hz⟩:=I.list hx;have hlen:=r.length;exact wpAny_truthy_list pl.isList (by simp only[Lh];lia) ⟨H,I.tok _,by rw[jL r];exact q⟩
  ·subst e';obtain⟨its,r,pl,hz⟩:=I.tuple hx;have hlen:=r.length;exact truthy_tuple pl (by simp only[Lh];lia) ⟨H,I.tok _,by rw[jL r];exact q⟩
  ·subst e';obtain⟨hz,hS,vs,r,m⟩:kvs.length<=sizeLine/\(p == sysModules)=false/\∃ vs,KV kvs vs/\s.heap.DictOf (n8 X.prog X.w) p vs:=I.aD p _ hx;have hlen:kvs.length=vs.length:=Paired.length r;exact wpAny_truthy_dict hS m (by lia) ⟨H,I.tok _,by rw[qJ r];exact q⟩
 |_=>exact (show False from e).elim
theorem yI(ha:PE X a ta)(he:∀ whole,isTrue a X.env whole=(do let v <- whole;standAt a.pos;holding [v] (truthy v))):
  PT X a (fun σ H Q=>ta σ H fun x H'=>∃ k,wO X.K x H' k/\Q k H'):=by
 intro pins s σ H Q I h;exact isTrue_plain (bE (ha pins s σ H _ I h) fun v s1 ⟨x,H1,I1,r1,q1⟩=>Ex pins s1 σ H1 x v Q I1 r1 q1) (he _)
theorem jj:d7 X (binaryOp .Add) (fun x y H Q=>∃ i j,x=.str i/\y=.str j/\i.length+j.length<=sizeLine/\Q (.str (i++j)) H):=by
 intro pins s σ H x y v u Q I rx ry h;obtain⟨i,j,rfl,rfl,hz,q⟩:=h;obtain⟨t,rfl⟩:=rx;obtain⟨t',rfl⟩:=ry;exact add_str (fun t' tk=>⟨.str (i++j),H,I.tok _,⟨_,rfl⟩,q⟩) hz
theorem vals1{x:V}(r:Vals [x] us):∃ u,us=[u]/\RelV x u:=by
 cases r with
 |cons r1 r2=>cases r2;exact⟨_,rfl,r1⟩
theorem vals2{x y:V}(r:Vals [x,y] us):∃ u w',us=[u,w']/\RelV x u/\RelV y w':=by
 cases r with
 |cons r1 r2 =>
  cases r2 with
  |cons r3 r4=>cases r4;exact⟨_,_,rfl,r1,r3⟩
theorem v9(hc:X.calm=true):aF X (.builtin "max") (fun xs H Q=>∃ i j,xs=[.int i,.int j]/\Q (.int (if j > i then j else i)) H):=by
 intro pins s σ H xs us Q I r h;obtain⟨i,j,rfl,q⟩:=h;obtain⟨u,w',rfl,⟨t,rfl⟩,⟨t',rfl⟩⟩:=vals2 r;refine max_two_ints (I.ok.hd hc) fun h' tk k=>⟨_,H,I.kept k,?_,q⟩;by_cases hj:j > i
 ·rw[Lg hj,Lg hj];exact⟨_,rfl⟩
 ·rw[K_ hj,K_ hj];exact⟨_,rfl⟩
theorem vg(hc:X.calm=true):aF X (.builtin "min") (fun xs H Q=>∃ i j,xs=[.int i,.int j]/\Q (.int (if j<i then j else i)) H):=by
 intro pins s σ H xs us Q I r h;obtain⟨i,j,rfl,q⟩:=h;obtain⟨u,w',rfl,⟨t,rfl⟩,⟨t',rfl⟩⟩:=vals2 r;refine min_two_ints (I.ok.hd hc) fun h' tk k=>⟨_,H,I.kept k,?_,q⟩;by_cases hj:j<i
 ·rw[Lg hj,Lg hj];exact⟨_,rfl⟩
 ·rw[K_ hj,K_ hj];exact⟨_,rfl⟩
theorem kQ:aF X (.type "int") (fun xs H Q=>(∃ i,xs=[.int i]/\Q (.int i) H)\/∃ k,xs=[.bl k]/\Q (.int (if k then 1 else 0)) H):=by
 intro pins s σ H xs us Q I r h;rcases h with ⟨i,rfl,q⟩|⟨k,rfl,q⟩
 ·obtain⟨u,rfl,t,rfl⟩:=vals1 r;exact call_int_int ⟨.int i,H,I,⟨_,rfl⟩,q⟩
 ·obtain⟨u,rfl,r1⟩:=vals1 r;cases r1;exact call_int_bool ⟨.int (if k then 1 else 0),H,I.tok _,⟨_,rfl⟩,q⟩
theorem mT:aF X (.type "str") (fun xs H Q=>∃ i,xs=[.int i]/\i.natAbs.log2<1920/\Q (.str (toString i)) H):=by
 intro pins s σ H xs us Q I r h;obtain⟨i,rfl,hz,q⟩:=h;obtain⟨u,rfl,t,rfl⟩:=vals1 r;exact PySem.P.str_of_int hz ⟨.str _,H,I.tok _,⟨_,rfl⟩,q⟩
end
structure Dr (h:Heap) (x dx C:Addr) (mA:Str->Option Value):Prop where
 obj:h.get? x=some (PySem.W.instObj C dx)
 ns:h.Ns1 dx mA
 ne:dx≠x
theorem tX{dx:Addr}(n:h.Ns1 dx mA):∃ od,h.get? dx=some od/\∀ name,PySem.W.lookIn name od=some (mA name):=by
 obtain⟨o,es,ep,ho,hd,hk,_,hm⟩:=n;refine⟨o,ho,fun name=>?_⟩;have e:=hm name;unfold nsFind findBy at e;rw[<- Array.find?_toList] at e;unfold PySem.W.lookIn;rw[hd];dsimp only;split
 ·rename_i y q;rw[q] at e;exact LF some e
 ·rename_i q;rw[q] at e;have a:es.toList.any (·.refKey)=false:=by
   rw[List.any_eq_false];intro y hy;obtain⟨z,t,hkey⟩:=hk y (Array.mem_toList_iff.mp hy);simp[DictEntry.refKey,hkey]
  have a':¬ es.toList.any (·.refKey)=true:=by rw[a];exact Lm
  rw[K_ a'];exact LF some e
theorem Dr.look{x dx C:Addr}(I:Dr h x dx C mA):∃ od,PySem.W.InstAt h x (PySem.W.instObj C dx) C (some od)/\∀ name,PySem.W.lookIn name od=some (mA name):=
 let ⟨od,ho,hl⟩:=tX I.ns
 ⟨od,⟨I.obj,rfl,rfl,ho⟩,hl⟩
section
variable {P:Program} {w:World} {H H':Hp} {h h':Heap} {a C dx:Addr} {fs fs':List (Str×V)}
theorem AO(aD:fB P w H h)(e:H a=some (.ins C dx fs)):∃ mA,Dr h a dx C mA/\(∀ f,Fm (fs.lookup f) (mA f))/\PySem.Within mA (fs.map (·.1))/\fs.length<=1000/\H dx=some (.own a):=by
 obtain⟨d,z,ne,ob,mA,n,r,q⟩:=(show aU P w H h a (.ins C dx fs) from aD a _ e);exact⟨mA,⟨ob,n,ne⟩,r,q,z,d⟩
end
structure Jb (K:Qa) (C:Addr):Prop where
 pg:PySem.W.plainGet K C Str.empty=true
 hd:PySem.W.hasDictIn K C=true
 po:PySem.W.plainOver K C=true
 sa:PySem.W.findIn K (.ref C) "__setattr__"=some (some (.builtin "object.__setattr__"))
theorem Jb.get{C:Addr}(c:Jb K C)(f:Str):PySem.W.plainGet K C f=true:=c.pg
section
variable {X:Cx} {pins:List (Addr×Obj)} {σ:St} {H:Hp} {s:Shared} {A:Around} {E:Value->Shared->Prop} {Q:Value->Shared->Prop} {c:Value} {b:Bool}
inductive gb (K:Qa) (H:Hp):V->Value->Prop where
 |aw:gb K H .aw (.type "NoneType")
 |bl (x:Bool):gb K H (.bl x) (.type "bool")
 |int (i:Int):gb K H (.int i) (.type "int")
 |str (x:Str):gb K H (.str x) (.type "str")
 |FH (x:UInt64):gb K H (.FH x) (.type "float")
 |lst {a:Addr} {xs:List V} (e:H a=some (.lst xs)):gb K H (.ref a) (.type "list")
 |gK {a:Addr} {o:Obj} {xs:List V} (e:H a=some (.gK o (.lst xs))):gb K H (.ref a) (.type "list")
 |tup {a:Addr} {xs:List V} (e:H a=some (.tup xs)):gb K H (.ref a) (.type "tuple")
 |dK {a:Addr} {kvs:List (Key×V)} (e:H a=some (.dK kvs)):gb K H (.ref a) (.type "dict")
 |dT {a:Addr} {kvs:List (List Key×V)} (e:H a=some (.dT kvs)):gb K H (.ref a) (.type "dict")
 |ins {a C dx:Addr} {fs:List (Str×V)} (e:H a=some (.ins C dx fs)) (cl:Jb K C) (ha:PySem.W.findIn K (.ref C) "__class__"=some (some (.builtin "object.__class__")))
   (hn:PySem.W.specialIn K (.builtin "object.__class__") "__get__"=some (some (.builtin "getset_descriptor.__get__"))) (htk:PySem.W.takesIn K (.builtin "object.__class__")=some true)
   (hm:PySem.W.mroIn K C (.type "object")=some true):gb K H (.ref a) (.ref C)
theorem kO{x:V}{t:Value}(I:Inv X pins σ H s)(rx:RelV x u)(ty:gb X.K H x t)(e:PySem.W.kitOne X.K t c=some b)(h:∀ tk,Q (.bool b) {s with toks:=tk}):
  wpAny (model X.prog X.w) A (call (.builtin "isinstance") [u,c]) Q E s:=by
 cases ty with
 |aw=>cases (show u=Value.none from rx);exact PySem.W.kia_one PySem.W.kitx_none I.gC True.intro e (fun z=>nomatch z) h
 |bl y=>cases (show u=Value.bool y from rx);exact PySem.W.kia_one PySem.W.kitx_bool I.gC True.intro e (fun z=>nomatch z) h
 |int i=>obtain⟨t,q⟩:=(show ∃ t,u=Value.int i t from rx);cases q;exact PySem.W.kia_one PySem.W.kitx_int I.gC True.intro e (fun z=>nomatch z) h
 |str y=>obtain⟨t,q⟩:=(show ∃ t,u=Value.str y t from rx);cases q;exact PySem.W.kia_one PySem.W.kitx_str I.gC True.intro e (fun z=>nomatch z) h
 |FH y=>obtain⟨t,q⟩:=(show ∃ t,u=Value.float y t from rx);cases q;exact PySem.W.kia_one PySem.W.kitx_float I.gC True.intro e (fun z=>nomatch z) h
 |@lst a xs ea =>
  cases (show u=Value.ref a from rx)
  obtain⟨_,_,n,_,h1⟩:=(show aU X.prog X.w H s.heap a (.lst xs) from I.aD a _ ea);exact PySem.W.kia_one PySem.W.kitx_list I.gC ⟨_,h1,rfl⟩ e (fun z=>nomatch z) h
 |@gK a ob xs ea =>
  cases (show u=Value.ref a from rx)
  obtain⟨_,_,_,n,_,h1⟩:=(show aU X.prog X.w H s.heap a (.gK ob (.lst xs)) from I.aD a _ ea);exact PySem.W.kia_one PySem.W.kitx_list I.gC ⟨_,h1,rfl⟩ e (fun z=>nomatch z) h
 |@tup a xs ea =>
  cases (show u=Value.ref a from rx)
  obtain⟨_,_,_,p⟩:=(show aU X.prog X.w H s.heap a (.tup xs) from I.aD a _ ea);obtain⟨o,h1,h2,_⟩:=p;exact PySem.W.kia_one PySem.W.kitx_tuple I.gC ⟨o,h1,h2⟩ e (fun z=>nomatch z) h
 |@dK a kvs ea =>
  cases (show u=Value.ref a from rx)
  obtain⟨_,_,vs,_,p⟩:=(show aU X.prog X.w H s.heap a (.dK kvs) from I.aD a _ ea);obtain⟨o,es,ep,h1,h2,_⟩:=p;exact PySem.W.kia_one PySem.W.kitx_dict I.gC ⟨o,h1,h2.1⟩ e (fun z=>nomatch z) h
 |@dT a kvs ea =>
  cases (show u=Value.ref a from rx)
  obtain⟨_,_,xs,_,o,es,ep,h1,h2,_⟩:=(show aU X.prog X.w H s.heap a (.dT kvs) from I.aD a _ ea);exact PySem.W.kia_one PySem.W.kitx_dict I.gC ⟨o,h1,h2.1⟩ e (fun z=>nomatch z) h
 |@ins a C dx fs ea cl ha hn htk hm =>
  cases (show u=Value.ref a from rx)
  obtain⟨mA,O,_⟩:=AO I.aD ea;obtain⟨od,J,_⟩:=O.look;exact PySem.W.kia_one (PySem.W.kitx_own (cl.get _) cl.hd ha hn htk hm) I.gC J e (fun z=>nomatch z) h
end
structure aQ (k:Nat) (A:Around):Prop where
 hd:A.handled=none
 dp:A.depth+3*k+5<recursionLimit
 un:A.units+16*k+200<cLine
 gd:A.guards=some []
theorem aQ.mono{A:Around}(r:aQ k A)(h:j<=k):aQ j A:=⟨r.hd,by have:=r.dp;lia,by have:=r.un;lia,r.gd⟩
theorem aQ.deeper{A:Around}(r:aQ (k+1) A)(env:Env):aQ k (A.deeper env):=
 ⟨r.hd,by have:=r.dp;show A.depth+1+3*k+5<_;lia,by have:=r.un;show A.units+3+16*k+200<_;lia,r.gd⟩
theorem aQ.in1{A:Around}(r:aQ (k+1) A):aQ k A.in1:=
 ⟨r.hd,by have:=r.dp;show A.depth+3*k+5<_;lia,by have:=r.un;show A.units+1+16*k+200<_;lia,r.gd⟩
theorem aQ.depth{A:Around}(r:aQ k A):A.depth<recursionLimit:=by have:=r.dp;lia
theorem aQ.units{A:Around}(r:aQ k A):A.units+64<cLine:=by have:=r.un;lia
theorem aQ.EY{A:Around}(r:aQ k A):A.units<cLine:=by have:=r.un;lia
noncomputable def ju:TA:=fun _ H Q=>Q [] H
noncomputable def gf(ta:TE)(tr:TA):TA:=fun σ H Q=>ta σ H fun x H1=>tr σ H1 fun xs H2=>Q (x::xs) H2
section
variable {X:Cx} {e:Expr} {es:List Expr} {te:TE} {t:TA} {pos:Pos}
theorem xr:PA X [] ju:=fun _ _ _ _ H Q I h=>Calls.spliced_nil ⟨[],H,I,.nil,h⟩
theorem sJ(ha:PE X e te)(hr:PA X es t)(hs:autoParam (starEach (e::es) X.env=(false,eval e X.env)::starEach es X.env) ℜ0):PA X (e::es) (gf te t):=by
 intro pos pins s σ H Q I h;rw[hs];show wpAny _ _ (spliced ((false,eval e X.env)::backTo pos (starEach es X.env))) _ _ s;refine Calls.spliced_cons (bE (ha pins s σ H _ I h) fun u s1 ⟨x,H1,I1,r1,q1⟩=>?_);exact bE (hr pos pins s1 σ H1 _ I1 q1) fun us s2 ⟨xs,H2,I2,r2,q2⟩=>⟨x::xs,H2,I2,.cons r1 r2,q2⟩
noncomputable def G0(t:TA):TE:=fun σ H Q=>t σ H fun xs H1=>xs.length<=sizeLine/\∀ p,H1 p=none->Q (.ref p) (upd H1 p (.tup xs))
noncomputable def xK(t:TA):TE:=fun σ H Q=>t σ H fun xs H1=>xs.length<=sizeLine/\∀ p,H1 p=none->Q (.ref p) (upd H1 p (.lst xs))
theorem Ee{x1}(h:PA X es t):PE X (.Tuple es x1 pos) (G0 t):=by
 intro pins s σ H Q I hq;refine wpAny_Tuple_spliced (bE (h pos pins s σ H _ I hq) fun us s1 ⟨xs,H1,I1,r,z,q⟩=>⟨by rw[<- r.length];exact z,?_⟩)
 have hf:H1 s1.heap.objs.size=none:=I1.aD.fresh (Lf _);refine⟨.ref s1.heap.objs.size,upd H1 s1.heap.objs.size (.tup xs),I1.laid (t':=s1.toks) (fun b u e=>KU _ e) (Lf _) ?_,rfl,q _ hf⟩;exact⟨z,us,r,⟨_,Lo _ rfl,rfl,_,rfl,rfl⟩⟩
theorem Em(h:PA X es t):PE X (.List es pos) (xK t):=by
 intro pins s σ H Q I hq;refine wpAny_List_spliced (bE (h pos pins s σ H _ I hq) fun us s1 ⟨xs,H1,I1,r,z,q⟩=>⟨by rw[<- r.length];exact z,?_⟩)
 have hf:H1 s1.heap.objs.size=none:=I1.aD.fresh (Lf _);refine⟨.ref s1.heap.objs.size,upd H1 s1.heap.objs.size (.lst xs),I1.laid (t':=s1.toks) (fun b u e=>KU _ e) (Lf _) ?_,rfl,q _ hf⟩;exact⟨z,us,0,r,Lo _ rfl⟩
end
abbrev Sp:=List V->Hp->VK->XK->Prop
variable{sp:Sp}
abbrev kX:=List Env->Hp->Shared->XK->Value->Shared->Prop
variable{CX:kX}
structure AA (P:Program) (w:World) (K:Qa) (mg:Str->Option Value) (base:Heap) (A:Around) (outer:List Env) (s:Shared) (H:Hp):Prop where
 frames:A.frames=some outer
 mod:Mod K mg base
 bs:∀ b o,base.get? b=some o->s.heap.get? b=some o/\H b=none
 Ae:base.objs.size<=s.heap.objs.size
 jN:s.heap.FunFrames base outer
 Fz:∀ b∈iD outer,H b=none
 aD:fB P w H s.heap
 bare:AllBare s.gens
 tabs:TabsOk K H
noncomputable def CE(outer:List Env)(P:Program)(w:World)(H:Hp)(s:Shared)(Q:VK)(u:Value)(s':Shared):Prop:=
 ∃ v H',s'.os=s.os/\AllBare s'.gens/\Un (iD outer) [] H H' s.heap s'.heap/\fB P w H' s'.heap/\RelV v u/\Q v H'
noncomputable def CR(CX:kX)(outer:List Env)(P:Program)(w:World)(H:Hp)(s:Shared)(Q:VK)(E:XK)(r:Result)(s':Shared):Prop:=
 match r with
 |.ok (.ret u)=>CE outer P w H s Q u s'
 |.ok _=>False
 |.error e=>CX outer H s E e s'
structure dC (P:Program) (w:World) (K:Qa) (mg:Str->Option Value) (base:Heap) (CX:kX) (k:Nat) (f:Addr) (fd:FuncData) (ps:List Str) (sp:Sp):Prop where
 len:∀ vs H Q E,sp vs H Q E->vs.length=ps.length
 run:∀(A:Around) (outer:List Env) (s:Shared) (H:Hp) (args:Args) (us:List Value) (vs:List V) (Q:VK) (E:XK),aQ k A->AA P w K mg base A outer s H->BindsTo s fd args (ps.zip us)->Vals vs us->sp vs H Q E ->
  codeAny (model P w) A (.call (.ref f) args) (CR CX outer P w H s Q E) s
theorem dC.mono{f:Addr}{ps:List Str}(F:dC P w K mg base CX j f fd ps sp)(h:j<=k):
  dC P w K mg base CX k f fd ps sp:=⟨F.len,fun A outer s H args us vs Q E hr=>F.run A outer s H args us vs Q E (hr.mono h)⟩
theorem dC.imp{f:Addr}{ps:List Str}{sp':Sp}(F:dC P w K mg base CX k f fd ps sp)
  (h:∀ vs H Q E,sp' vs H Q E->sp vs H Q E):dC P w K mg base CX k f fd ps sp':=
 ⟨fun vs H Q E q=>F.len vs H Q E (h _ _ _ _ q),fun A outer s H args us vs Q E hr he hb hv hs=>F.run A outer s H args us vs Q E hr he hb hv (h _ _ _ _ hs)⟩
section
variable {X:Cx} {pins:List (Addr×Obj)} {σ:St} {H:Hp} {s s':Shared}
theorem Inv.Hy(I:Inv X pins σ H s):AA X.prog X.w X.K X.mg X.base X.A X.stack s H:=
 ⟨I.ok.frames,I.ok.mod,I.bs,Lr I.ok.Ae I.sz,I.stack,I.iF,I.aD,I.bare,I.ok.tabs.un I.base⟩
theorem Inv.after{Q:VK}(I:Inv X pins σ H s)(h:CE X.stack X.prog X.w H s Q u s'):EP X pins σ Q u s':=by
 obtain⟨v,H',os,bare,un,aD,r,q⟩:=h;obtain⟨hh,g,d,t,os'⟩:=s';obtain rfl:os'=s.os:=os;exact⟨v,H',I.call (h':=hh) (g':=g) (d':=d) (t':=t) (ch:=[]) un aD bare (fun b z=>absurd z (by simp)),r,q⟩
end
noncomputable def fI(sp:Sp)(dvs:List V)(E:XK)(t:TA):TE:=fun σ H Q=>t σ H fun vs H1=>sp (vs++dvs) H1 Q E
noncomputable def Binds(K:Qa)(fd:FuncData)(ps:List Str)(ds:List Value):Prop:=
 ∀(s:Shared) (us:List Value),K.In s.heap->(us++ds).length=ps.length->BindsTo s fd ⟨us,[]⟩ (ps.zip (us++ds))
theorem Binds.all{ps:List Str}(h:∀ us:List Value,us.length=ps.length->bindArgs fd ⟨us,[]⟩=pure (ps.zip us)):Binds K fd ps []:=fun s us _ hl=>by
 rw[L3] at hl ⊢;exact .of_eq (h us hl)
noncomputable def Passes(CX:kX)(X:Cx)(E:XK):Prop:=∀(pins:List (Addr×Obj)) (σ:St) (H:Hp) (s:Shared) (e:Value) (s':Shared),Inv X pins σ H s->CX X.stack H s E e s'->X.xe e s'
section
variable {X:Cx} {CX:kX} {k:Nat} {f C:Addr} {fd:FuncData} {ps:List Str} {sp:Sp} {dvs:List V} {ds:List Value} {E:XK} {x m:Str} {p pos apos:Pos} {e o:Expr} {es:List Expr} {ta:TE} {t:TA}
theorem yC{Q:VK}(F:dC X.prog X.w X.K X.mg X.base CX k f fd ps sp)(hr:aQ k X.A)(hb:Binds X.K fd ps ds)(hd:Vals dvs ds)(hx:Passes CX X E)
  (I:Inv X pins σ H s) (r:Vals vs us) (h:sp (vs++dvs) H Q E):wpAny (model X.prog X.w) X.A (call (.ref f) us) (EP X pins σ Q) X.xe s:=by
 have r2:Vals (vs++dvs) (us++ds):=r.append hd;have hl:(us++ds).length=ps.length:=by rw[<- r2.length];exact F.len _ _ _ _ h
 refine wpAny_call (OU (F.run X.A X.stack s H ⟨us,[]⟩ (us++ds) (vs++dvs) Q E hr I.Hy (hb s us I.gC hl) r2 h) fun r s' hq=>?_)
 cases r with
 |error e=>exact hx pins σ H s e s' I hq
 |ok fl =>
  cases fl with
  |ret u=>exact I.after hq
  |next=>exact False.elim hq
  |brk=>exact False.elim hq
  |cont=>exact False.elim hq
theorem Bb(F:dC X.prog X.w X.K X.mg X.base CX k f fd ps sp)(hr:aQ k X.A)(hg:Gl X x)(hm:X.mg x=some (.ref f))(hk:PySem.W.keepIn X.K (.ref f)=true)(hb:Binds X.K fd ps ds)(hd:Vals dvs ds)(hx:Passes CX X E)
  (ha:PA X (e::es) t) (hdb:autoParam ((x ==("__debug__":Str))=false) ℜ1) (he:autoParam (starEach (e::es) X.env=(false,eval e X.env)::starEach es X.env) ℜ0) (hpl:autoParam ((backTo pos (starEach es X.env)).any (·.1)=false) ℜ0) :
  PE X (.Call (.Name x p) (e::es) [] pos) (fI sp dvs E t):=by
 intro pins s σ H Q I h;refine MS (gz I hg hm ?_ hdb);refine PySem.W.callWith_K (h₀:=X.base) I.ok.mod.BM hk (bE (ha pos pins s σ H _ I h) fun us s1 ⟨vs,H1,I1,r,q⟩=>⟨I1.gC,?_⟩) he hpl;exact yC F hr hb hd hx I1 r q
theorem xG(F:dC X.prog X.w X.K X.mg X.base CX k f fd ps sp)(hr:aQ k X.A)(hg:Gl X x)(hm:X.mg x=some (.ref f))(hk:PySem.W.keepIn X.K (.ref f)=true)(hb:Binds X.K fd ps ds)(hd:Vals dvs ds)(hx:Passes CX X E)
  (hdb:autoParam ((x ==("__debug__":Str))=false) ℜ1):PE X (.Call (.Name x p) [] [] pos) (fI sp dvs E ju):=by
 intro pins s σ H Q I h;refine MS (gz I hg hm ?_ hdb);exact PySem.W.callWith_K0 I.gC hk (yC (us:=[]) F hr hb hd hx I .nil h)
end
noncomputable def PK(X:Cx)(kws:List Keyword)(t:TA):Prop:=
 ∀(pos:Pos) (pins:List (Addr×Obj)) (s:Shared) (σ:St) (H:Hp) (Q:List V->Hp->Prop),Inv X pins σ H s->t σ H Q->wpAny (model X.prog X.w) X.A (evalAll ((backToKw pos (keywordEach kws X.env)).map (·.2))) (AP X pins σ Q) X.xe s
section
variable {X:Cx} {CX:kX} {k:Nat} {f C:Addr} {fd:FuncData} {ps ks:List Str} {sp:Sp} {E:XK} {x m:Str} {p pos apos kpos:Pos} {e o:Expr} {es:List Expr} {kws:List Keyword} {te ta:TE} {t tk:TA} {nm:Option Str}
theorem DM:PK X [] ju:=fun _ _ _ _ H Q I h=>wpAny_evalAll_nil ⟨[],H,I,.nil,h⟩
theorem B5(ha:PE X e te)(hr:PK X kws t):PK X (⟨nm,e,kpos⟩::kws) (gf te t):=by
 intro pos pins s σ H Q I h;show wpAny _ _ (evalAll ((do let v <- eval e X.env;standAt pos;pure v)::(backToKw pos (keywordEach kws X.env)).map (·.2))) _ _ s
 refine wpAny_evalAll_cons (KR (bE (ha pins s σ H _ I h) fun u s1 ⟨x,H1,I1,r1,q1⟩=>KR (NW (Lk ?_))));exact bE (hr pos pins s1 σ H1 _ I1 q1) fun us s2 ⟨xs,H2,I2,r2,q2⟩=>⟨x::xs,H2,I2,.cons r1 r2,q2⟩
variable {g:List Value->List Value->List Value} {gV:List V->List V->List V}
end
structure aj (N P:List Str) (sc:Scope):Prop where
 kind:sc.kind=.function
 co:sc.isCoroutine=false
 gen:sc.isGenerator=false
 nd:N.Nodup
 pre:N.take P.length=P
 par:∀ x∈P,sc.names.lookup x=some .local\/sc.names.lookup x=some .cell
 Fe:∀ y∈sc.names,y.2≠.free
theorem lD:∀{binds:List (Str×Value)} {m:Str->Option Value},(∀ v,(x,v)∉binds)->bindL kindOf binds m x=m x
 |[],_,_=>rfl
 | (n,v)::r,m,h=>by
  unfold bindL;rw[lD fun w hw=>h w (Le _ hw)];split
  ·have:x≠n:=by rintro rfl;exact h v Lj
   simp[this]
  ·rfl
theorem lJ:∀{binds:List (Str×Value)} {m:Str->Option Value},(∀ v,(x,v)∉binds)->bindC kindOf binds m x=m x
 |[],_,_=>rfl
 | (n,v)::r,m,h=>by
  unfold bindC;rw[lJ fun w hw=>h w (Le _ hw)];split
  ·rfl
  ·have:x≠n:=by rintro rfl;exact h v Lj
   simp[this]
theorem kW{v:Value}:∀{P:List Str} {vs:List Value} {i:Nat} {m:Str->Option Value},P.Nodup->P[i]?=some x->vs[i]?=some v->kindOf x=some .local ->
  bindL kindOf (P.zip vs) m x=some v
 |[],_,_,_,_,h,_,_=>by simp at h
 |_::_,[],_,_,_,_,h,_=>by simp at h
 |p::P,w::vs,0,m,nd,h1,h2,hk=>by
  simp at h1 h2;subst h1;subst h2;show bindL kindOf ((p,w)::P.zip vs) m p=_;unfold bindL;rw[lD fun v hv=>(LP.mp nd).1 (Pp hv).1,Lg hk];simp
 |p::P,w::vs,i+1,m,nd,h1,h2,hk=>by
  show bindL kindOf ((p,w)::P.zip vs) m x=_;unfold bindL;exact kW (i:=i) (LP.mp nd).2 (by simpa using h1) (by simpa using h2) hk
theorem kJ{v:Value}:∀{P:List Str} {vs:List Value} {i:Nat} {m:Str->Option Value},P.Nodup->P[i]?=some x->vs[i]?=some v->kindOf x≠some .local ->
  bindC kindOf (P.zip vs) m x=some v
 |[],_,_,_,_,h,_,_=>by simp at h
 |_::_,[],_,_,_,_,h,_=>by simp at h
 |p::P,w::vs,0,m,nd,h1,h2,hk=>by
  simp at h1 h2;subst h1;subst h2;show bindC kindOf ((p,w)::P.zip vs) m p=_;unfold bindC;rw[lJ fun v hv=>(LP.mp nd).1 (Pp hv).1,K_ hk];simp
 |p::P,w::vs,i+1,m,nd,h1,h2,hk=>by
  show bindC kindOf ((p,w)::P.zip vs) m x=_;unfold bindC;exact kJ (i:=i) (LP.mp nd).2 (by simpa using h1) (by simpa using h2) hk
noncomputable def start(N:List Str)(vs:List V):St:=vs.map some++List.replicate (N.length-vs.length) none
noncomputable def gy(CX:kX)(P:Program)(w:World)(K:Qa)(mg:Str->Option Value)(base:Heap)(N:List Str)(qual:Str)(scope:Scope)(f:Addr)(cd:Value)(A:Around)(outer:List Env)(s:Shared)(H:Hp)(E:XK):Cx where
 prog:=P
 w:=w
 K:=K
 mg:=mg
 base:=base
 A:=A.deeper (envOfC qual scope s.heap.objs.size f cd)
 N:=N
 s₀:=s
 H₀:=H
 env:=envOfC qual scope s.heap.objs.size f cd
 outer:=outer
 stack:=envOfC qual scope s.heap.objs.size f cd::outer
 ex:=[]
 calm:=true
 fn:=fun _=>true
 pn:=[]
 xe:=fun e s'=>wpAny (model P w) (A.deeper (envOfC qual scope s.heap.objs.size f cd)) (leaving (envOfC qual scope s.heap.objs.size f cd) e) (fun _ s''=>CX outer H s E e s'') (fun e' s''=>CX outer H s E e' s'') s'
theorem p9{sc:Scope}{n:Nat}(h:sc.names.lookup x=some .cell):∃ c,(cellsFrom n sc.names []).lookup x=some c:=by
 have q:=PySem.W.cellsFrom_some sc.names n [] (.inl h);exact OV.mp q
theorem vt{ps:List Str}{qual:Str}{f:Addr}{cd:Value}{A:Around}{outer:List Env}{s1:Shared}{E:XK}
  (S:aj N ps scope) (hd:A.handled=none) (e0:AA P w K mg base A outer s H) (hl:vs.length=ps.length) (r:Vals vs us)
  (x:InCallC s s.heap.objs.size (bindL (envOfC qual scope s.heap.objs.size f cd).kindOf (ps.zip us) fun _=>none) (cellsFrom (s.heap.objs.size+1) scope.names []) (bindC (envOfC qual scope s.heap.objs.size f cd).kindOf (ps.zip us) fun _=>none) s1) :
  Inv (gy CX P w K mg base N qual scope f cd A outer s H E) [] (start N vs) H s1:=by
 have hpl:ps.length<=N.length:=by have:=LF List.length S.pre;rw[LR] at this;lia
 obtain⟨h1,tk,rfl,hk⟩:=x.done;have noA:∀ b:Addr,b∉(gy CX P w K mg base N qual scope f cd A outer s H E).ex:=fun b z=>absurd (show b∈([]:List Addr) from z) (by simp)
 refine⟨⟨e0.mod,S.kind,rfl,rfl,Lf _,fun y z c h1 h2=>?_,fun y hy=>?_,fun y c _ h=>?_,fun _=>hd,Around.frames_deeper e0.frames,.inr ⟨rfl,rfl⟩,fun b z=>absurd z (noA b),e0.bs,e0.Ae,fun b _ _=>noA b,fun b z=>absurd z (noA b),e0.jN,e0.Fz,e0.tabs⟩,
  rfl,e0.bare,Un.kept hk,⟨_,x.toInCall.ns,fun i y v h1 h2 h3=>?_⟩,fun y c h=>⟨_,x.cell y c h⟩,e0.aD.fresh (Lf _),fun y c h=>?_,fun p hp=>absurd (show p∈([]:List (Addr×Obj)) from hp) (by simp),e0.aD.kept hk,?_⟩
 ·exact name_of_addr x.apart (PySem.mem_of_lookup h1) (PySem.mem_of_lookup h2)
 ·have hy:scope.names.lookup y=some .cell\/scope.names.lookup y=some .free:=hy;rcases hy with hy|hy
  ·exact p9 hy
  ·exact absurd rfl (S.Fe _ (PySem.mem_of_lookup hy))
 ·exact Nc (x.above y c (PySem.mem_of_lookup h))
 ·have hi:i<vs.length:=by
   unfold start at h2;by_cases hi:i<vs.length
   ·exact hi
   ·rw[Mq (by simpa using hi)] at h2
    rw[Mz] at h2
    split at h2<;>cases h2
  have ha:vs[i]?=some v:=by
   unfold start at h2;rw[MD (by simpa using hi),Lw] at h2
   cases e:vs[i]? with
   |none=>rw[e] at h2;cases h2
   |some a=>rw[e] at h2;cases h2;rfl
  obtain⟨u,hu,rv⟩:=r.get ha;have hp:ps[i]?=some y:=by
   rw[<- S.pre,List.getElem?_take_of_lt (by lia)];exact h1
  have ndP:ps.Nodup:=by rw[<- S.pre];exact S.nd.sublist (List.take_sublist _ _)
  refine⟨u,rv,?_⟩;rcases S.par y (Mx hp) with k|k
  ·exact .inl ⟨k,kW ndP hp hu k⟩
  ·obtain⟨c,e⟩:=p9 (n:=s.heap.objs.size+1) k;refine .inr ⟨.inl k,c,e,?_⟩;have q:=x.cell y c e;rw[kJ ndP hp hu (by show scope.names.lookup y≠_;rw[k];decide)] at q
   exact q
 ·exact e0.aD.fresh (Nc (x.above y c (PySem.mem_of_lookup h)))
 ·unfold start;show _=N.length;rw[KW,Ld,Lp];lia
theorem BZ{f:Addr}{name qual:Str}{params:Arguments}{dV kV doc pm cdv ct oc:Value}{an od:Option Addr}
  {osl:Array (Option Value)} {ps:List Str}  (lk:K.lookup f=some ⟨oc,od,.func (PySem.W.fnOf name qual params body scope dV kV doc pm an cdv ct),osl⟩) (hcd:PySem.W.codeIn K cdv qual=true) (S:aj N ps scope)
  (len:∀ vs H Q E,sp vs H Q E->vs.length=ps.length)
  (hbody:∀(A:Around) (outer:List Env) (s:Shared) (H:Hp) (vs:List V) (Q:VK) (E:XK),aQ k (A.deeper (envOfC qual scope s.heap.objs.size f cdv))->sp vs H Q E ->
   ∃ t,qj (gy CX P w K mg base N qual scope f cdv A outer s H E) body t/\t {nx:=fun _ H'=>Q .aw H',rt:=Q} (start N vs) H) :
  dC P w K mg base CX (k+1) f (PySem.W.fnOf name qual params body scope dV kV doc pm an cdv ct) ps sp:=by
 refine⟨len,fun A outer s H args us vs Q E hr e0 hb r hsp=>?_⟩;have hl:=len _ _ _ _ hsp;have KX:K.In s.heap:=e0.mod.BM.keeps fun b o e=>(e0.bs b o e).1;have lim:s.heap.NoLimit:=e0.mod.nolimit.keeps fun b o e=>(e0.bs b o e).1;have hkind:∀ y∈ps.zip us,scope.names.lookup y.1=some .local\/(scope.names.lookup y.1=some .cell/\((cellsFrom (s.heap.objs.size+1) scope.names []).lookup y.1).isSome=true):=fun⟨n,v⟩ hy=>by
  rcases S.par n (Pp hy).1 with q|q
  ·exact .inl q
  ·exact .inr ⟨q,PySem.W.cellsFrom_some _ _ _ (.inl q)⟩
 refine codeAny_call_function hr.depth (KX _ _ lk) rfl S.co S.gen rfl (PySem.W.codeRec_of KX hcd) (hb _ _ _ _ ?_);refine wpAny_newFunctionEnv_cells S.kind hkind fun env he s1 x=>?_;subst he;refine⟨lim.keeps x.toInCall.keep,codeAny_func ?_⟩;obtain⟨t,ht,hq⟩:=hbody A outer s H vs Q E (hr.deeper _) hsp;have I:Inv (gy CX P w K mg base N qual scope f cdv A outer s H E) [] (start N vs) H s1:=vt S hr.hd e0 hl r x;refine Mg (ht [] s1 (start N vs) H _ I hq) (fun fl s' hs=>?_) fun e s' hs=>hs;have fin:∀{σ':St} {H':Hp} {v:V} {u:Value},Inv (gy CX P w K mg base N qual scope f cdv A outer s H E) [] σ' H' s'->RelV v u->Q v H'->CE outer P w H s Q u s':=
  fun {σ' H' v u} J rv q=>⟨v,H',J.os,J.bare,J.base,J.aD,rv,q⟩
 cases fl with
 |ret u =>
  obtain⟨v,σ',H',J,rv,q⟩:=hs;exact fin J rv q
 |next =>
  obtain⟨σ',H',J,q⟩:=hs;exact fin (v:=V.aw) (u:=Value.none) J rfl q
 |brk =>
  obtain⟨_,_,_,q⟩:=hs;exact False.elim q
 |cont =>
  obtain⟨_,_,_,q⟩:=hs;exact False.elim q
section
variable {X:Cx} {x:Str} {p pos:Pos} {e:Expr} {es:List Expr} {t:TA} {id T:String} {r:List V->Hp->VK->Prop}
noncomputable def vO(r:List V->Hp->VK->Prop)(t:TA):TE:=fun σ H Q=>t σ H fun vs H1=>r vs H1 Q
theorem yS(hc:aF X (.builtin id) r)(hg:Gl X x)(hm:X.mg x=none)(hv:bootBuiltins x=some (.builtin id))(ha:PA X (e::es) t)(hn:autoParam (x≠"__name__") ℜ1)(hdb:autoParam ((x ==("__debug__":Str))=false) ℜ1)
  (he:autoParam (starEach (e::es) X.env=(false,eval e X.env)::starEach es X.env) ℜ0) (hpl:autoParam ((backTo pos (starEach es X.env)).any (·.1)=false) ℜ0):PE X (.Call (.Name x p) (e::es) [] pos) (vO r t):=by
 intro pins s σ H Q I h;refine MS (eE I hg hm hv ?_ hn hdb);exact PyProof.Rows.callWith_builtin1 (bE (ha pos pins s σ H _ I h) fun us s1 ⟨vs,H1,I1,r1,q1⟩=>hc pins s1 σ H1 vs us Q I1 r1 q1) he hpl
theorem uN(hc:aF X (.type T) r)(hg:Gl X x)(hm:X.mg x=none)(hv:bootBuiltins x=some (.type T))(ha:PA X (e::es) t)(hn:autoParam (x≠"__name__") ℜ1)(hdb:autoParam ((x ==("__debug__":Str))=false) ℜ1)
  (he:autoParam (starEach (e::es) X.env=(false,eval e X.env)::starEach es X.env) ℜ0) (hpl:autoParam ((backTo pos (starEach es X.env)).any (·.1)=false) ℜ0):PE X (.Call (.Name x p) (e::es) [] pos) (vO r t):=by
 intro pins s σ H Q I h;refine MS (eE I hg hm hv ?_ hn hdb);exact Mn (bE (ha pos pins s σ H _ I h) fun us s1 ⟨vs,H1,I1,r1,q1⟩=>hc pins s1 σ H1 vs us Q I1 r1 q1) he hpl
end
end L2
namespace HT
open PySem PyProof.Rows
section
variable {prog:Program} {w:World} {A:Around} {E:Value->Shared->Prop} {s:Shared}
theorem AS{t b:Addr}{vs ws:List Value}{Q:Value->Shared->Prop}(ht:IsTup s.heap t vs.toArray)(hb:IsTup s.heap b ws.toArray)(hv:vs≠[])
  (h1:ws=[]->Q (.ref t) s) (h2:ws≠[]->Q (.ref s.heap.objs.size) {s with heap:=s.heap.push {cls:=.type "tuple",data:=.seq (vs++ws).toArray}})
  (hsz:vs.length+ws.length<=sizeLine):wpAny (model prog w) A (binaryOp .Add (.ref t) (.ref b)) Q E s:=by
 obtain⟨⟨cls,dd,data,sl⟩,ho,hc,n,hd⟩:=id ht;obtain⟨⟨cls2,dd2,data2,sl2⟩,ho2,hc2,n2,hd2⟩:=id hb;simp only at hc hd hc2 hd2;subst hc hd hc2 hd2;have e:vs.toArray++ws.toArray=(vs++ws).toArray:=by simp
 by_cases hw:ws=[]
 ·exact concat_meets ⟨_,ho,rfl⟩ ⟨_,ho2,rfl⟩ noFill_tuple_add seq_tuple_add PySem.F.slot_tuple_add PySem.F.entry_tuple_add (PySem.F.args_tuple_add_2 _ _)
   (tuple_addW1 t b vs.toArray ws.toArray n n2 dd dd2 sl sl2 (by simpa using hv) (by simp[hw])) ⟨ho,ho2,h1 hw⟩
 ·refine concat_meets ⟨_,ho,rfl⟩ ⟨_,ho2,rfl⟩ noFill_tuple_add seq_tuple_add PySem.F.slot_tuple_add PySem.F.entry_tuple_add (PySem.F.args_tuple_add_2 _ _)
   (tuple_addW2 t b vs.toArray ws.toArray n n2 dd dd2 sl sl2 (by simpa using hv) (by simpa using hw) (by rw[List.size_toArray,List.size_toArray];exact hsz)) ⟨ho,ho2,?_⟩
  rw[e];exact h2 hw
noncomputable def bg(n d:Nat):Option Int->Nat
 |none=>d
 |some v=>if v<0 then (v+(n:Int)).toNat else min v.toNat n
theorem fb(n d:Nat):bg n d none=d:=rfl
theorem ni(n d k:Nat):bg n d (some (k:Int))=min k n:=by
 show (if (k:Int)<0 then ((k:Int)+(n:Int)).toNat else min (k:Int).toNat n)=min k n
 rw[if_neg (by lia),Int.toNat_natCast]
theorem r8(n d:Nat)(hd:d<=n)(o:Option Int):bg n d o<=n:=by
 cases o with
 |none=>exact hd
 |some v =>
  show (if v<0 then (v+(n:Int)).toNat else min v.toNat n)<=n
  by_cases hv:v<0
  ·rw[if_pos hv];lia
  ·rw[if_neg hv];exact Nat.min_le_right _ _
theorem sA(v:Int)(n d:Nat):(if v<0 then max (v+(n:Int)) 0 else min v (n:Int))=((bg n d (some v):Nat):Int):=by
 show (if v<0 then max (v+(n:Int)) 0 else min v (n:Int))=(((if v<0 then (v+(n:Int)).toNat else min v.toNat n):Nat):Int)
 by_cases hv:v<0
 ·simp only[if_pos hv];lia
 ·simp only[if_neg hv];lia
theorem qQ(lo hi:Option Int)(n:Nat):Builtin.Slice.sliceAdjust lo hi 1 (n:Int)=(((bg n 0 lo:Nat):Int),((bg n n hi:Nat):Int)):=by
 have h1:¬ ((1:Int)<0):=by lia
 unfold Builtin.Slice.sliceAdjust;simp only[h1,if_false];refine Prod.ext ?_ ?_
 ·cases lo with
  |none=>rfl
  |some v=>exact sA v n 0
 ·cases hi with
  |none=>rfl
  |some v=>exact sA v n n
theorem pX(i j:Nat):Builtin.Slice.slicePlaces (i:Int) (j:Int) 1=j-i:=by
 unfold Builtin.Slice.slicePlaces;have h1:(1:Int) > 0:=by lia
 simp only[h1,if_true,Int.ediv_one]
 split<;>lia
theorem jM{v:Value}{o:Option Int}{Q:Option Int->Shared->Prop}(p:IsPart v o)(h:Q o s):wpAny (model prog w) A (Builtin.Slice.slicePartIndex v) Q E s:=by
 cases p with
 |none=>exact slicePart_none h
 |int i t=>exact slicePart_int h
theorem e8{sl:Addr}{vl vu:Value}{lo hi:Option Int}{n:Nat}{Q:Int×Int×Nat->Shared->Prop}(hs:s.heap.IsSliceOf sl vl vu .none)(pl:IsPart vl lo)(pu:IsPart vu hi)
  (h:Q (((bg n 0 lo:Nat):Int),1,bg n n hi-bg n 0 lo) s):wpAny (model prog w) A (Builtin.Slice.sliceApplied (.ref sl) (pure (n:Int))) Q E s:=by
 obtain⟨os,hos,hcs,hds⟩:=id hs;unfold Builtin.Slice.sliceApplied Builtin.Slice.sliceFields;refine wpAny_bind (wpAny_bind (wpAny_field hos hds (x:=vl) rfl (wpAny_bind (wpAny_field hos hds (x:=vu) rfl (wpAny_bind (wpAny_field hos hds (x:=.none) rfl (wpAny_pure ?_)))))));refine wpAny_bind (slicePart_none ?_);show wpAny _ _ (if ((1:Int) == 0)=true then _ else _) _ _ s
 rw[if_neg (by decide)]
 refine wpAny_bind (jM pl (wpAny_bind (jM pu (wpAny_bind (wpAny_pure ?_)))));show wpAny _ _ (match Builtin.Slice.sliceAdjust lo hi 1 (n:Int) with | (lo,hi)=>pure (lo,(1:Int),Builtin.Slice.slicePlaces lo hi 1)) _ _ s
 rw[qQ lo hi n];show wpAny _ _ (pure (((bg n 0 lo:Nat):Int),(1:Int),Builtin.Slice.slicePlaces ((bg n 0 lo:Nat):Int) ((bg n n hi:Nat):Int) 1)) _ _ s;rw[pX];exact wpAny_pure h
theorem xy(xs:Array Value)(i k:Nat):((List.range k).filterMap fun (m:Nat)=>xs[((i:Int)+(m:Int)*1).toNat]?).toArray=((xs.toList.drop i).take k).toArray:=by
 have e:(fun (m:Nat)=>xs[((i:Int)+(m:Int)*1).toNat]?)=fun m=>xs[i+m]?:=by
  funext m
  have:((i:Int)+(m:Int)*1).toNat=i+m:=by lia
  rw[this]
 rw[e];have:=pick_run xs i k;rw[List.filterMap_map] at this;have e2:((fun x=>xs[x]?) ∘ fun x=>i+x)=fun m=>xs[i+m]?:=rfl;rw[e2] at this;rw[this]
theorem gm{t sl:Addr}{items:Array Value}{vl vu:Value}{lo hi:Option Int}{Q:Value->Shared->Prop}(ht:IsTup s.heap t items)(hs:s.heap.IsSliceOf sl vl vu .none)(pl:IsPart vl lo)(pu:IsPart vu hi)
  (hw:¬ (bg items.size 0 lo=0/\bg items.size items.size hi=items.size))
  (h:Q (.ref s.heap.objs.size) {s with heap:=s.heap.push {cls:=.type "tuple",data:=.seq ((items.toList.drop (bg items.size 0 lo)).take (bg items.size items.size hi-bg items.size 0 lo)).toArray}})
  (hsz:items.size<=sizeLine):wpAny (model prog w) A (getItem (.ref t) (.ref sl)) Q E s:=by
 have htake:sizeOk (.seq ((items.toList.drop (bg items.size 0 lo)).take (bg items.size items.size hi-bg items.size 0 lo)).toArray):=by
  show ((items.toList.drop (bg items.size 0 lo)).take (bg items.size items.size hi-bg items.size 0 lo)).toArray.size<=sizeLine;rw[List.size_toArray,List.length_take,List.length_drop,Array.length_toList];exact Nat.le_trans (Nat.min_le_right _ _) (Nat.le_trans (Nat.sub_le _ _) hsz)
 have hj:bg items.size items.size hi<=items.size:=r8 _ _ (Nat.le_refl _) hi;obtain⟨os,hos,hcs,hds⟩:=id hs;have hTs:s.TypeIs (.ref sl) "slice":=⟨os,hos,hcs⟩;unfold getItem
 try with_reducible refine wpAny_holding ?_
 first|refine wpAny_bind (wpAny_pure ?_)|skip
 refine wpAny_bind (wpAny_sequenceKey ht.typeIs (by decide) ?_)
 refine wpAny_bind (wpAny_callSpecial?_slot (name:=Str.ofString "__getitem__") ht.typeIs PyProof.Rows.slot_tuple_getitem
  (wpAny_call_entry PyProof.Rows.slot_tuple_getitem ht.typeIs entry_tuple_getitem ?_ (args_tuple_getitem _ _)))
 show wpAny _ _ (Builtin.Tuple.tupleItemsOf (.ref t) >>= _) _ _ s;refine wpAny_bind (tupleItemsOf_ ht ?_);refine wpAny_bind (wpAny_typeOf hTs ?_);rw[if_pos (by decide)]
 refine wpAny_bind (e8 hs pl pu ?_);have hno:¬ ((((bg items.size 0 lo:Nat):Int) == 0 && (1:Int) == 1 && (bg items.size items.size hi-bg items.size 0 lo) == items.size)=true):=by
  intro q;rw[Bool.and_eq_true,Bool.and_eq_true] at q;have q1:((bg items.size 0 lo:Nat):Int)=0:=eq_of_beq q.1.1;have q2:bg items.size items.size hi-bg items.size 0 lo=items.size:=eq_of_beq q.2;exact hw ⟨by lia,by lia⟩
 show wpAny _ _ (if (((bg items.size 0 lo:Nat):Int) == 0 && (1:Int) == 1 && (bg items.size items.size hi-bg items.size 0 lo) == items.size)=true then _ else _) _ _ s
 rw[if_neg hno,xy]
 first
  |exact wpAny_bind (m:=Builtin.Tuple.tupleExact _) (wpAny_newObj_type (wpAny_pure ⟨_,rfl,wpAny_pure h⟩) htake)
  |exact wpAny_bind (m:=Builtin.Tuple.tupleExact _) (wpAny_newObj_type (wpAny_bind (wpAny_pure (wpAny_pure ⟨_,rfl,wpAny_pure h⟩))) htake)
  |exact wpAny_bind (wpAny_bind (m:=Builtin.Tuple.tupleExact _) (wpAny_newObj_type (wpAny_pure (wpAny_pure ⟨_,rfl,wpAny_pure h⟩)) htake))
  |exact wpAny_bind (wpAny_bind (m:=Builtin.Tuple.tupleExact _) (wpAny_newObj_type (wpAny_pure ⟨_,rfl,wpAny_pure h⟩) htake))
end
end HT
namespace L2
open PySem PySem.Spec PyProof.Rows
variable{r:V->Option Int->Option Int->Hp->VK->Prop}{xs:List V}{its its' us:List Value}{α:Type}{n:Nat}{pins:List (Addr×Obj)}{σ:St}{H:Hp}{s:Shared}{x:V}
abbrev TO:=St->Hp->(Option Int->Hp->Prop)->Prop
noncomputable def PO(X:Cx)(e:Option Expr)(t:TO):Prop:=
 ∀(pins:List (Addr×Obj)) (s:Shared) (σ:St) (H:Hp) (Q:Option Int->Hp->Prop),Inv X pins σ H s->t σ H Q ->
  wpAny (model X.prog X.w) X.A (evalPart e X.env) (fun u s'=>∃ o H',Inv X pins σ H' s'/\IsPart u o/\Q o H') X.xe s
noncomputable def rW:TO:=fun _ H Q=>Q none H
noncomputable def CV(t:TE):TO:=fun σ H Q=>t σ H fun x H1=>∃ i,x=.int i/\Q (some i) H1
theorem intsAre_of{ns:List Int}:∀{us:List Value},Vals (ns.map V.int) us->IntsAre us ns:=by
 induction ns with
 |nil=>intro us r;rw[List.map_nil] at r;cases r;exact .nil
 |cons n ns ih =>
  intro us r;rw[Lz] at r
  cases r with
  |cons r1 r2 =>
   obtain⟨t,e⟩:=r1;subst e;exact .cons n t (ih r2)
section
variable {X:Cx} {e:Expr} {te:TE} {lo hi:Option Expr} {tl th:TO} {pos p2:Pos}
theorem si:PO X none rW:=by
 intro pins s σ H Q I h;rw[evalPart_none];exact Lk ⟨none,H,I,.none,h⟩
theorem mJ(h:PE X e te):PO X (some e) (CV te):=by
 intro pins s σ H Q I hw;rw[evalPart_some];refine bE (h pins s σ H _ I hw) fun u s1 ⟨x,H1,I1,r1,q1⟩=>?_;obtain⟨i,rfl,q⟩:=q1;obtain⟨t,rfl⟩:=r1;exact⟨some i,H1,I1,.int i t,q⟩
noncomputable def vM(X:Cx)(r:V->Option Int->Option Int->Hp->VK->Prop):Prop:=
 ∀(pins:List (Addr×Obj)) (s:Shared) (σ:St) (H:Hp) (x:V) (v vl vu:Value) (lo hi:Option Int) (sl:Addr) (Q:VK),Inv X pins σ H s->RelV x v->s.heap.IsSliceOf sl vl vu .none->IsPart vl lo->IsPart vu hi->r x lo hi H Q ->
  ∃ T id,typeLookup (.type T) "__getitem__"=pure (some (.builtin id))/\s.TypeIs v T/\wpAny (model X.prog X.w) X.A (getItem v (.ref sl)) (EP X pins σ Q) X.xe s
theorem vM.or{r':V->Option Int->Option Int->Hp->VK->Prop}(h:vM X r)(h':vM X r'):vM X (fun x lo hi H Q=>r x lo hi H Q\/r' x lo hi H Q):=by
 intro pins s σ H x v vl vu lo hi sl Q I rx hs pl pu q;rcases q with q|q
 ·exact h pins s σ H x v vl vu lo hi sl Q I rx hs pl pu q
 ·exact h' pins s σ H x v vl vu lo hi sl Q I rx hs pl pu q
noncomputable def Kx(r:V->Option Int->Option Int->Hp->VK->Prop)(te:TE)(tl th:TO):TE:=fun σ H Q=>te σ H fun x H1=>tl σ H1 fun l H2=>th σ H2 fun u H3=>r x l u H3 Q
theorem vR(hr:vM X r)(he:PE X e te)(hl:PO X lo tl)(hu:PO X hi th):PE X (.Subscript e (.Slice lo hi none p2) pos) (Kx r te tl th):=by
 intro pins s σ H Q I h;refine Subscript_ (bE (he pins s σ H _ I h) fun v s1 ⟨x,H1,I1,r1,q1⟩=>?_);refine wpAny_Slice (bE (hl pins s1 σ H1 _ I1 q1) fun vl s2 ⟨l,H2,I2,pl,q2⟩=>bE (hu pins s2 σ H2 _ I2 q2) fun vu s3 ⟨u,H3,I3,pu,q3⟩=>?_);rw[evalPart_none];refine Lk ?_;have I4:Inv X pins σ H3 {s3 with heap:=s3.heap.push {cls:=.type "slice",data:=.fields #[vl,vu,.none]}}:=I3.kept (t':=s3.toks) fun b ob q=>KU _ q
 obtain⟨T,id,hT,ht,hg⟩:=hr pins {s3 with heap:=s3.heap.push {cls:=.type "slice",data:=.fields #[vl,vu,.none]}} σ H3 x v vl vu l u s3.heap.objs.size Q I4 r1 (Heap.IsSliceOf.new ..) pl pu q3
 show wpAny (model X.prog X.w) X.A (subscriptTail e (.Slice lo hi none p2) v (.ref s3.heap.objs.size)) (EP X pins σ Q) X.xe {s3 with heap:=s3.heap.push {cls:=.type "slice",data:=.fields #[vl,vu,.none]}}
 exact tail_any (ops:=[.ref s3.heap.objs.size,v]) ht hT hg (by with_unfolding_all rfl)
noncomputable def n4(xs:List V)(lo hi:Option Int):List V:=(xs.drop (HT.bg xs.length 0 lo)).take (HT.bg xs.length xs.length hi-HT.bg xs.length 0 lo)
theorem ic(xs:List V)(lo hi:Option Int):(n4 xs lo hi).length<=xs.length:=by
 unfold n4;rw[LR,Nf];exact Lr (Nat.min_le_right _ _) (OP _ _)
noncomputable def Be(K:Qa):V->Option Int->Option Int->Hp->VK->Prop:=fun x lo hi H Q=>∃ a xs,x=.ref a/\aV K H a xs /\
 ¬ (HT.bg xs.length 0 lo=0/\HT.bg xs.length xs.length hi=xs.length)/\∀ p,H p=none->Q (.ref p) (upd H p (.tup (n4 xs lo hi)))
theorem Dw:vM X (Be X.K):=by
 intro pins s σ H x v vl vu lo hi sl Q I rx hs pl pu h;obtain⟨a,xs,rfl,hx,hw,q⟩:=h;cases rx;obtain⟨its,r,ht,hz⟩:=I.tuple hx;have hlen:its.toArray.size=xs.length:=by rw[Lh];exact r.length.symm
 refine⟨"tuple",_,ME.lookup,ht.typeIs,?_⟩;refine HT.gm ht hs pl pu (by rw[hlen];exact hw) ?_ (by rw[hlen];exact hz)
 rw[hlen];refine⟨.ref s.heap.objs.size,_,I.laid (t':=s.toks) (o:=.tup (n4 xs lo hi)) (fun b ob q=>KU _ q) (Lf _) ?_,rfl,q _ (I.aD.fresh (Lf _))⟩;exact⟨Lr (ic xs lo hi) hz,_,(r.drop (HT.bg xs.length 0 lo)).take (HT.bg xs.length xs.length hi-HT.bg xs.length 0 lo),cY.new _ _⟩
noncomputable def Gm(K:Qa):R2:=fun x y H Q=>∃ a b xs ys,x=.ref a/\y=.ref b/\aV K H a xs/\aV K H b ys/\xs≠[]/\xs.length+ys.length<=sizeLine /\
 (ys=[]->Q (.ref a) H)/\(ys≠[]->∀ p,H p=none->Q (.ref p) (upd H p (.tup (xs++ys))))
theorem Vals.lR(r:Vals xs us):us=[] ↔ xs=[]:=by
 cases r with
 |nil=>simp
 |cons _ _=>simp
theorem sk:d7 X (binaryOp .Add) (Gm X.K):=by
 intro pins s σ H x y v u Q I rx ry h;obtain⟨a,b,xs,ys,rfl,rfl,ha,hb,hx,hz,q1,q2⟩:=h;cases rx;cases ry;obtain⟨its,r1,p1,_⟩:=I.tuple ha;obtain⟨its2,r2,p2,_⟩:=I.tuple hb;refine HT.AS p1 p2 (fun z=>hx (r1.lR.mp z)) (fun z=>⟨.ref a,H,I,rfl,q1 (r2.lR.mp z)⟩) (fun z=>?_) (by rw[<- r1.length,<- r2.length];exact hz)
 refine⟨.ref s.heap.objs.size,_,I.laid (t':=s.toks) (o:=.tup (xs++ys)) (fun b ob q=>KU _ q) (Lf _) ?_,rfl,q2 (fun w=>z (r2.lR.mpr w)) _ (I.aD.fresh (Lf _))⟩;exact⟨by rw[KW];exact hz,_,r1.append r2,cY.new _ _⟩
end
noncomputable def ji(n:Nat)(i:Int):Option Nat:=if 0<=i then (if i<n then some i.toNat else none) else if -(n:Int)<=i then some (i+n).toNat else none
noncomputable def b9(xs:List α)(i:Int):Option α:=(ji xs.length i).bind fun j=>xs[j]?
theorem su{i:Int}{j:Nat}(h:ji n i=some j):seqIndex? i n=some j/\j<n/\-(n:Int)<=i/\i<n:=by
 unfold ji at h;by_cases h0:0<=i
 ·rw[Lg h0] at h;by_cases h1:i<n
  ·rw[Lg h1] at h;have e:i.toNat=j:=Option.some.inj h;exact⟨by rw[seqIndex_of h0 h1,e],by lia,by lia,h1⟩
  ·rw[K_ h1] at h;cases h
 ·rw[K_ h0] at h;by_cases h1:-(n:Int)<=i
  ·rw[Lg h1] at h;have e:(i+n).toNat=j:=Option.some.inj h;exact⟨by rw[PR (by lia) h1,e],by lia,h1,by lia⟩
  ·rw[K_ h1] at h;cases h
theorem mf{xs:List α}{i:Int}{v:α}(h:b9 xs i=some v):∃ j,seqIndex? i xs.length=some j/\xs[j]?=some v/\j<xs.length/\-(xs.length:Int)<=i/\i<xs.length:=by
 unfold b9 at h
 cases e:ji xs.length i with
 |none=>rw[e] at h;cases h
 |some j =>
  rw[e] at h;obtain⟨h1,h2,h3,h4⟩:=su e;exact⟨j,h1,h,h2,h3,h4⟩
theorem b6{xs:List α}{j:Nat}{v:α}(h:xs[j]?=some v):b9 xs (j:Int)=some v:=by
 have hj:j<xs.length:=(Li.mp h).1;have e:ji xs.length (j:Int)=some j:=by
  unfold ji;rw[Lg (by lia),Lg (by lia)];simp
 unfold b9;rw[e];exact h
theorem y_(xs:List α)(v:α):b9 (xs++[v]) (-1)=some v:=by
 have hl:(xs++[v]).length=xs.length+1:=by simp
 have e:ji (xs++[v]).length (-1)=some xs.length:=by
  unfold ji;rw[hl,K_ (by decide),Lg (by lia)]
  congr 1;lia
 unfold b9;rw[e];show (xs++[v])[xs.length]?=some v;simp
noncomputable def t5(b:Expr):Prop:=∀ o i,subscripted b false o i=operate [o,i] (getItem o i)
noncomputable def rD(X:Cx)(r:R2):Prop:=
 ∀(value slice:Expr) (pins:List (Addr×Obj)) (s:Shared) (σ:St) (H:Hp) (x y:V) (v u:Value) (Q:VK),Inv X pins σ H s->RelV x v->RelV y u->r x y H Q ->
  subscripted slice false v u=operate [v,u] (getItem v u)->wpAny (model X.prog X.w) X.A (subscriptTail value slice v u) (EP X pins σ Q) X.xe s
noncomputable def uS(X:Cx)(id:String)(r:V->List V->Hp->VK->Prop):Prop:=
 ∀(pins:List (Addr×Obj)) (s:Shared) (σ:St) (H:Hp) (x:V) (xs:List V) (v:Value) (us:List Value) (Q:VK),Inv X pins σ H s->RelV x v->Vals xs us->r x xs H Q ->
  wpAny (model X.prog X.w) X.A (call (.builtin id) (v::us)) (EP X pins σ Q) X.xe s
section
variable {X:Cx} {a b:Expr} {ta tb:TE} {pos:Pos}
theorem rD.or{r r':R2}(h:rD X r)(h':rD X r'):rD X (fun x y H Q=>r x y H Q\/r' x y H Q):=by
 intro value slice pins s σ H x y v u Q I rx ry q hs;rcases q with q|q
 ·exact h value slice pins s σ H x y v u Q I rx ry q hs
 ·exact h' value slice pins s σ H x y v u Q I rx ry q hs
theorem xV{r:R2}(hr:rD X r)(ha:PE X a ta)(hb:PE X b tb)(hs:t5 b):PE X (.Subscript a b pos) (vI r ta tb):=by
 intro pins s σ H Q I h;exact Subscript_ (E4 ha hb I h fun v u s2 x y H2 I2 rx ry q=>hr a b pins s2 σ H2 x y v u Q I2 rx ry q (hs _ _))
noncomputable def Hl(K:Qa):R2:=fun x y H Q=>∃ p xs i v,x=.ref p/\y=.int i/\bz K H p xs/\b9 xs i=some v/\Q v H
noncomputable def Gd(K:Qa):R2:=fun x y H Q=>∃ p xs i v,x=.ref p/\y=.int i/\aV K H p xs/\b9 xs i=some v/\Q v H
noncomputable def Hi:R2:=fun x y H Q=>∃ z i c,x=.str z/\y=.int i/\z.length<=sizeLine/\b9 z.cps.toList i=some c/\Q (.str ⟨#[c]⟩) H
theorem Av:rD X (Hl X.K):=by
 intro value slice pins s σ H x y v u Q I rx ry h hs;obtain⟨p,xs,i,z,rfl,rfl,hq,he,q⟩:=h;cases rx;obtain⟨t,rfl⟩:=ry;obtain⟨its,r,pl,hz⟩:=I.list hq;obtain⟨j,h1,h2,h3,h4,h5⟩:=mf he;obtain⟨w,ew,rw'⟩:=r.get h2;have hl:=r.length;have hn:=fP;have fin:EP X pins σ Q w s:=⟨z,H,I,rw',q⟩;by_cases h0:0<=i
 ·have hj:i.toNat=j:=by
   rw[seqIndex_of h0 h5] at h1;exact Option.some.inj h1
  exact item_listR pl.isList h0 (by lia) (by rw[hj];simpa using ew) fin hs
 ·have hj:(i+(its.toArray.size:Int)).toNat=j:=by
   rw[PR (by lia) h4] at h1
   rw[Lh,<- hl];exact Option.some.inj h1
  exact subscriptTail_builtinR (x:=w) pl.isList.typeIs OJ.lookup
   (wpAny_getItem_list_neg (Q:=fun r s'=>r=w/\EP X pins σ Q r s') pl.isList (by lia) (by rw[Lh]<;>lia) (by lia) (by rw[hj];simpa using ew) ⟨rfl,fin⟩) hs
theorem qK:rD X (Gd X.K):=by
 intro value slice pins s σ H x y v u Q I rx ry h hs;obtain⟨p,xs,i,z,rfl,rfl,hq,he,q⟩:=h;cases rx;obtain⟨t,rfl⟩:=ry;obtain⟨its,r,pl,hz⟩:=I.tuple hq;obtain⟨j,h1,h2,h3,h4,h5⟩:=mf he;obtain⟨w,ew,rw'⟩:=r.get h2;have hl:=r.length;have hn:=fP;have fin:EP X pins σ Q w s:=⟨z,H,I,rw',q⟩;exact subscriptTail_builtinR (x:=w) pl.typeIs slot_tuple_getitem.lookup
  (getItem_tuple (j:=j) (Q:=fun r s'=>r=w/\EP X pins σ Q r s') pl (by lia) (by lia) (by rw[Lh,<- hl];exact h1) (by simpa using ew) ⟨rfl,fin⟩) hs
theorem Fg:rD X Hi:=by
 intro value slice pins s σ H x y v u Q I rx ry h hs;obtain⟨z,i,c,rfl,rfl,hz,he,q⟩:=h;obtain⟨t,rfl⟩:=rx;obtain⟨t',rfl⟩:=ry;obtain⟨j,h1,h2,h3,h4,h5⟩:=mf he;have hl:z.cps.toList.length=z.length:=by simp[Str.length]
 rw[hl] at h1 h4 h5;have hn:=fP;exact tail_any (typeIs_str s z t) slot_str_getitem.lookup (getItem_str (c:=c) (by
  have e1:decide (i < -(2^63:Int))=false:=L0 (by lia)
  have e2:decide (i >= 2^63)=false:=L0 (by lia)
  rw[e1,e2,Bool.or_false]) (by rw[h1];simpa using h2) ⟨.str ⟨#[c]⟩,H,I.tok _,⟨_,rfl⟩,q⟩) hs
noncomputable def H_(K:Qa):R2:=fun x y H Q=>Hl K x y H Q\/Gd K x y H Q\/Hi x y H Q
theorem xu:rD X (H_ X.K):=Av.or (qK.or Fg)
theorem qU(its:List Value)(n j:Nat)(u:Value):Obj.mapSeq (·.setIfInBounds j u) {cls:=.type "list",data:=.seq its.toArray n}={cls:=.type "list",data:=.seq (its.set j u).toArray n}:=by
 simp[Obj.mapSeq]
theorem Inv.lst{p:Addr}(I:Inv X pins σ H s)(h:H p=some (.lst xs)):
  ∃(its:List Value) (n:Nat),Vals xs its/\s.heap.get? p=some {cls:=.type "list",data:=.seq its.toArray n}/\xs.length<=sizeLine:=by
 obtain⟨z,its,n,r,e⟩:=I.aD p _ h;exact⟨its,n,r,e,z⟩
theorem Inv.Ej{p:Addr}{ys:List V}{n':Nat}{f:Obj->Obj}(I:Inv X pins σ H s)(h:H p=some (.lst xs))
  (ho:s.heap.get? p=some {cls:=.type "list",data:=.seq its.toArray n}) (hf:f {cls:=.type "list",data:=.seq its.toArray n}={cls:=.type "list",data:=.seq its'.toArray n'}) (r:Vals ys its') (hz:ys.length<=sizeLine) (t:Nat) :
  Inv X pins σ (upd H p (.lst ys)) {s with heap:=s.heap.update p f,toks:=t}:=by
 have e:(s.heap.update p f).get? p=some {cls:=.type "list",data:=.seq its'.toArray n'}:=by
  rw[Ny f ho (by rw[hf]<;>rfl),hf]
 refine I.write (x:=p) (e:=p) (by rw[h];trivial) (.inl rfl) (fun b u hb q=>(NU _ _ (Ne.symm hb)).trans q) ⟨_,e⟩ ?_
 exact⟨hz,its',n',r,e⟩
noncomputable def GJ:V->V->V->Hp->(Hp->Prop)->Prop:=fun o i v H Q=>∃ p xs k j,o=.ref p/\i=.int k/\H p=some (.lst xs)/\ji xs.length k=some j/\Q (upd H p (.lst (xs.set j v)))
theorem set_list:DJ X GJ:=by
 intro pins s σ H o i v ov iv u Q I ro ri rv h;obtain⟨p,xs,k,j,rfl,rfl,hp,hj,q⟩:=h;cases ro;obtain⟨t,rfl⟩:=ri;obtain⟨its,n,r,ho,hz⟩:=I.lst hp;obtain⟨h1,h2,h3,h4⟩:=su hj;have hl:=r.length;have hn:=fP;have I':Inv X pins σ (upd H p (.lst (xs.set j v))) {s with heap:=s.heap.update p (Obj.mapSeq (·.setIfInBounds j u))}:=
  I.Ej hp ho (qU its n j u) (r.set rv j) (by rw[Mm];exact hz) s.toks
 by_cases h0:0<=k
 ·have hk:k.toNat=j:=by
   rw[seqIndex_of h0 h4] at h1;exact Option.some.inj h1
  exact PySem.W.ki_setAt ho h0 (by lia) (by rw[Lh,<- hl];exact h4) (by rw[hk];exact⟨_,I',q⟩)
 ·have hk:(k+(its.toArray.size:Int)).toNat=j:=by
   rw[PR (by lia) h3] at h1
   rw[Lh,<- hl];exact Option.some.inj h1
  exact PySem.W.ki_setBack ho (by lia) (by rw[Lh,<- hl];exact h3) (by lia) (by rw[hk];exact⟨_,I',q⟩)
theorem lY(lo hi:Option Int)(n:Nat):(sliceBounds lo hi none n).1=((HT.bg n 0 lo:Nat):Int)/\(sliceBounds lo hi none n).2.1=((HT.bg n n hi:Nat):Int)/\(sliceBounds lo hi none n).2.2=1:=by
 refine⟨?_,?_,rfl⟩
 ·cases lo with
  |none=>simp[sliceBounds,HT.bg]
  |some i =>
   simp only[sliceBounds,HT.bg,Option.getD_none,show (1:Int) > 0 by decide,M1]
   by_cases h:i<0
   ·simp only[h,M1]<;>lia
   ·simp only[h,M8]<;>lia
 ·cases hi with
  |none=>simp[sliceBounds,HT.bg]
  |some i =>
   simp only[sliceBounds,HT.bg,Option.getD_none,show (1:Int) > 0 by decide,M1]
   by_cases h:i<0
   ·simp only[h,M1]<;>lia
   ·simp only[h,M8]<;>lia
theorem km(its:List Value)(lo hi:Option Int):slicePick its.toArray lo hi none=((its.drop (HT.bg its.length 0 lo)).take (HT.bg its.length its.length hi-HT.bg its.length 0 lo)).toArray:=by
 obtain⟨h1,h2,h3⟩:=lY lo hi its.toArray.size;unfold slicePick;rw[h1,h2,h3];simp only[sliceRange_one,pick_run,Lh]<;>rfl
noncomputable def G6(K:Qa):V->Option Int->Option Int->Hp->VK->Prop:=fun x lo hi H Q=>∃ a xs,x=.ref a/\bz K H a xs/\∀ p,H p=none->Q (.ref p) (upd H p (.lst (n4 xs lo hi)))
theorem zV:vM X (G6 X.K):=by
 intro pins s σ H x v vl vu lo hi sl Q I rx hs pl pu h;obtain⟨a,xs,rfl,hx,q⟩:=h;cases rx;obtain⟨its,r,ht,hz⟩:=I.list hx;have hlen:=r.length;refine⟨"list",_,OJ.lookup,ht.isList.typeIs,?_⟩;refine OW ht.isList hs pl pu .none (by simp) ?_ (by rw[Lh]<;>lia)
 rw[km,<- hlen];refine⟨.ref s.heap.objs.size,_,I.laid (t':=s.toks) (o:=.lst (n4 xs lo hi)) (fun b ob q=>KU _ q) (Lf _) ?_,rfl,q _ (I.aD.fresh (Lf _))⟩;exact⟨Lr (ic xs lo hi) hz,_,0,(r.drop (HT.bg xs.length 0 lo)).take (HT.bg xs.length xs.length hi-HT.bg xs.length 0 lo),Lo _ rfl⟩
noncomputable def d8:V->Bool
 |.aw=>true
 |.bl _=>true
 |.int _=>true
 |.str _=>true
 |_=>false
noncomputable def vH:V->V->Bool
 |.aw,.aw=>true
 |.bl a,.bl b=>a == b
 |.bl a,.int b=>(if a then 1 else 0) == b
 |.int a,.bl b=>a ==(if b then 1 else 0)
 |.int a,.int b=>a == b
 |.str a,.str b=>a == b
 |_,_=>false
theorem xT{A:Around}{y:V}{u v:Value}(ry:RelV y u)(rx:RelV x v)(fy:d8 y=true)(fx:d8 x=true):SeqAt.EqAt A s u v (vH y x):=by
 cases y with
 |aw =>
  cases ry
  cases x with
  |aw=>cases rx;exact SeqAt.EqAt.same _
  |bl b=>cases rx;exact SeqAt.EqAt.none_bool b
  |int b=>obtain⟨t,rfl⟩:=rx;exact SeqAt.EqAt.none_int b t
  |str b=>obtain⟨t,rfl⟩:=rx;exact SeqAt.EqAt.none_str b t
  |_=>exact absurd (show false=true from fx) Lm
 |bl a =>
  cases ry
  cases x with
  |aw=>cases rx;exact SeqAt.EqAt.bool_none a
  |bl b=>cases rx;exact SeqAt.EqAt.bool_bool a b
  |int b=>obtain⟨t,rfl⟩:=rx;exact SeqAt.EqAt.bool_int a b t
  |str b=>obtain⟨t,rfl⟩:=rx;exact SeqAt.EqAt.bool_str a b t
  |_=>exact absurd (show false=true from fx) Lm
 |int a =>
  obtain⟨t',rfl⟩:=ry
  cases x with
  |aw=>cases rx;exact SeqAt.EqAt.int_none a t'
  |bl b=>cases rx;exact SeqAt.EqAt.int_bool a t' b
  |int b=>obtain⟨t,rfl⟩:=rx;exact SeqAt.EqAt.int_int a t' b t
  |str b=>obtain⟨t,rfl⟩:=rx;exact SeqAt.EqAt.int_str a t' b t
  |_=>exact absurd (show false=true from fx) Lm
 |str a =>
  obtain⟨t',rfl⟩:=ry
  cases x with
  |aw=>cases rx;exact SeqAt.EqAt.str_none a t'
  |bl b=>cases rx;exact SeqAt.EqAt.str_bool a t' b
  |int b=>obtain⟨t,rfl⟩:=rx;exact SeqAt.EqAt.str_int a t' b t
  |str b=>obtain⟨t,rfl⟩:=rx;exact SeqAt.EqAt.str_str a t' b t
  |_=>exact absurd (show false=true from fx) Lm
 |_=>exact absurd (show false=true from fy) Lm
noncomputable def AL(x:V)(u:Value):Bool:=match u with
 |.none=>vH .aw x
 |.bool b=>vH (.bl b) x
 |.int i _=>vH (.int i) x
 |.str z _=>vH (.str z) x
 |_=>false
theorem wJ{y:V}{u:Value}(r:RelV y u)(f:d8 y=true):AL x u=vH y x:=by
 cases y with
 |aw=>cases r;rfl
 |bl b=>cases r;rfl
 |int i=>obtain⟨t,rfl⟩:=r;rfl
 |str z=>obtain⟨t,rfl⟩:=r;rfl
 |_=>exact absurd (show false=true from f) Lm
theorem m_:∀{xs:List V} {us:List Value},Vals xs us->xs.all d8=true->us.any (AL x)=xs.any fun y=>vH y x
 |_,_,.nil,_=>rfl
 |y::xs,u::us,.cons r t,f=>by
  rw[L_,LS] at f;rw[OB,OB,wJ r f.1,m_ t f.2]
theorem jX{A:Around}{v:Value}(rx:RelV x v)(fx:d8 x=true):∀{xs:List V} {us:List Value},Vals xs us->xs.all d8=true->∀ u∈us,SeqAt.EqAt A s u v (AL x u)
 |_,_,.nil,_=>fun u hu=>by cases hu
 |y::xs,u::us,.cons r t,f=>fun u' hu=>by
  rw[L_,LS] at f;rcases Ll.mp hu with rfl|hu
  ·rw[wJ r f.1];exact xT r rx f.1 fx
  ·exact jX rx fx t f.2 u' hu
noncomputable def Iz(x:V)(xs:List V):Bool:=xs.any fun y=>vH y x
noncomputable def Ky(K:Qa)(neg:Bool):R2:=fun x y H Q=>∃ p xs,y=.ref p/\(bz K H p xs\/aV K H p xs)/\d8 x=true/\xs.all d8=true/\Q (.bl (if neg then !Iz x xs else Iz x xs)) H
theorem vf:d7 X (compareOp .In) (Ky X.K false):=by
 intro pins s σ H x y v u Q I rx ry h;obtain⟨p,xs,rfl,hq,fx,fs,q⟩:=h;cases ry;rcases hq with hq|hq
 ·obtain⟨its,r,pl,hz⟩:=I.list hq;refine SeqAt.in_listAt (AL x) pl.isList (fun w hw=>jX rx fx r fs w (by simpa using hw)) ⟨.bl _,H,I,rfl,?_⟩
  rw[show its.toArray.any (AL x)=its.any (AL x) by simp,m_ r fs]
  exact q
 ·obtain⟨its,r,pl,hz⟩:=I.tuple hq;refine SeqAt.in_tupleAt (AL x) pl (fun w hw=>jX rx fx r fs w (by simpa using hw)) ⟨.bl _,H,I,rfl,?_⟩
  rw[show its.toArray.any (AL x)=its.any (AL x) by simp,m_ r fs]
  exact q
theorem nh:aF X (.builtin "len") (fun xs H Q=>∃ p ys,xs=[.ref p]/\(bz X.K H p ys\/aV X.K H p ys)/\Q (.int ys.length) H):=by
 intro pins s σ H xs us Q I r h;obtain⟨p,ys,rfl,hq,q⟩:=h;obtain⟨u,rfl,rx⟩:=vals1 r;cases rx;have hn:=fP;rcases hq with hq|hq
 ·obtain⟨its,r',pl,hz⟩:=I.list hq;have hlen:=r'.length;exact Calls.call_len_list pl.isList (by simp only[Lh]<;>lia) ⟨.int ys.length,H,I.tok _,⟨s.toks+1,by rw[Lh,hlen]⟩,q⟩
 ·obtain⟨its,r',pl,hz⟩:=I.tuple hq;have hlen:=r'.length;exact len_tuple pl (by simp only[Lh]<;>lia) ⟨.int ys.length,H,I.tok _,⟨s.toks+1,by rw[Lh,hlen]⟩,q⟩
theorem n6:aF X (.builtin "len") (fun xs H Q=>∃ z,xs=[.str z]/\z.length<=sizeLine/\Q (.int z.length) H):=by
 intro pins s σ H xs us Q I r h;obtain⟨z,rfl,hz,q⟩:=h;obtain⟨u,rfl,t,rfl⟩:=vals1 r;have hn:=fP;exact len_str (by lia) ⟨.int z.length,H,I.tok _,⟨_,rfl⟩,q⟩
theorem aF.or{f:Value}{r r':List V->Hp->VK->Prop}(h:aF X f r)(h':aF X f r'):aF X f (fun xs H Q=>r xs H Q\/r' xs H Q):=by
 intro pins s σ H xs us Q I rs q;rcases q with q|q
 ·exact h pins s σ H xs us Q I rs q
 ·exact h' pins s σ H xs us Q I rs q
theorem mx:aF X (.type "list") (fun xs H Q=>∃ p ys,xs=[.ref p]/\(bz X.K H p ys\/aV X.K H p ys)/\∀ l,H l=none->Q (.ref l) (upd H l (.lst ys))):=by
 intro pins s σ H xs us Q I r h;obtain⟨p,ys,rfl,hq,q⟩:=h;obtain⟨u,rfl,rx⟩:=vals1 r;cases rx;have fin:∀(its:List Value),Vals ys its->ys.length<=sizeLine->∀(h':Heap) (c':Nat),(∀ b o',s.heap.get? b=some o'->h'.get? b=some o') ->
   h'.get? s.heap.objs.size=some {cls:=.type "list",dict:=none,data:=.seq its.toArray c',slots:=#[]}->EP X pins σ Q (.ref s.heap.objs.size) {s with heap:=h'}:=fun its r' hz h' c' kp e =>
  ⟨.ref s.heap.objs.size,_,I.laid (t':=s.toks) kp (Lf _) (show aU X.prog X.w _ h' _ (.lst ys) from⟨hz,its,c',r',e⟩),rfl,q _ (I.aD.fresh (Lf _))⟩
 rcases hq with hq|hq
 ·obtain⟨its,r',pl,hz⟩:=I.list hq;have hlen:=r'.length;obtain⟨o,ho,hc,n,hd⟩:=pl.isList;exact call_list_seq p (.inl rfl) ho hc hd (fun h' c' kp e=>fin its r' hz h' c' kp e) (by simp only[Lh]<;>lia)
 ·obtain⟨its,r',pl,hz⟩:=I.tuple hq;have hlen:=r'.length;obtain⟨o,ho,hc,n,hd⟩:=pl;exact call_list_seq p (.inr rfl) ho hc hd (fun h' c' kp e=>fin its r' hz h' c' kp e) (by simp only[Lh]<;>lia)
theorem cK:aF X (.type "tuple") (fun xs H Q=>∃ p ys,xs=[.ref p]/\((bz X.K H p ys/\∀ l,H l=none->Q (.ref l) (upd H l (.tup ys)))\/(aV X.K H p ys/\Q (.ref p) H))):=by
 intro pins s σ H xs us Q I r h;obtain⟨p,ys,rfl,h⟩:=h;obtain⟨u,rfl,rx⟩:=vals1 r;cases rx;rcases h with ⟨hq,q⟩|⟨hq,q⟩
 ·obtain⟨its,r',pl,hz⟩:=I.list hq;have hlen:=r'.length;refine call_tuple_list pl.isList (fun h' kp=>?_) (by simp only[Lh]<;>lia)
  have I1:Inv X pins σ H {s with heap:=h'}:=I.kept (t':=s.toks) kp
  have I2:Inv X pins σ (upd H h'.objs.size (.tup ys)) {s with heap:=h'.push {cls:=.type "tuple",data:=.seq its.toArray}}:=
   I1.laid (t':=s.toks) (fun b o e=>KU _ e) (Lf _) (show aU X.prog X.w _ _ _ (.tup ys) from⟨hz,its,r',cY.new _ _⟩)
  exact⟨.ref h'.objs.size,_,I2,rfl,q _ (I1.aD.fresh (Lf _))⟩
 ·obtain⟨its,r',pl,hz⟩:=I.tuple hq;exact call_tuple_same pl ⟨.ref p,H,I,rfl,q⟩
noncomputable def Js(K:Qa)(T:String)(x:V)(H:Hp):Prop:=match x with
 |.str _=>T="str"
 |.int _=>T="int"
 |.ref p=>(T="list"/\∃ xs,bz K H p xs)\/(T="tuple"/\∃ o,K.lookup p=some o/\o.cls=.type "tuple"/\o.dict=none) \/
   (T="dict"/\((∃ kvs,H p=some (.dK kvs))\/∃ kvs,H p=some (.dT kvs)))\/(T="set"/\∃ S n,H p=some (.set S n))
 |_=>False
theorem wX{T:String}{v:Value}(I:Inv X pins σ H s)(r:RelV x v)(ty:Js X.K T x H):
  s.TypeIs v T/\∀ a,v=.ref a->∃ ob,s.heap.get? a=some ob/\ob.dict=none:=by
 cases x with
 |str z =>
  obtain⟨t,rfl⟩:=r
  cases (show T="str" from ty)
  exact⟨typeIs_str s z t,fun _ e=>nomatch e⟩
 |int i =>
  obtain⟨t,rfl⟩:=r
  cases (show T="int" from ty)
  exact⟨Nn s i t,fun _ e=>nomatch e⟩
 |ref p =>
  cases r;rcases ty with ⟨rfl,xs,hq⟩|⟨rfl,o,hk,hc,hd⟩|⟨rfl,hk⟩|⟨rfl,S,n,hk⟩
  ·obtain⟨its,_,pl,_⟩:=I.list hq;refine⟨pl.isList.typeIs,fun a e=>?_⟩;cases e;obtain⟨o,n,e,c,hd,_⟩:=pl;exact⟨o,e,hd⟩
  ·refine⟨⟨o,I.gC p o hk,hc⟩,fun a e=>?_⟩;cases e;exact⟨o,I.gC _ o hk,hd⟩
  ·have z:∃ o,s.heap.get? p=some o/\o.ExactDict:=by
    rcases hk with ⟨kvs,hk⟩|⟨kvs,hk⟩
    ·obtain⟨_,_,_,_,o,_,_,e,ex,_⟩:=I.aD p _ hk;exact⟨o,e,ex⟩
    ·obtain⟨_,_,_,_,o,_,_,e,ex,_⟩:=I.aD p _ hk;exact⟨o,e,ex⟩
   obtain⟨o,e,ex⟩:=z;refine⟨⟨o,e,ex.1⟩,fun a e2=>?_⟩;cases e2;exact⟨o,e,ex.2.1⟩
  ·obtain⟨o,_,_,_,e,ex,_⟩:=I.aD p _ hk;refine⟨⟨o,e,ex.1⟩,fun a e2=>?_⟩;cases e2;exact⟨o,e,ex.2.1⟩
 |_=>exact False.elim ty
noncomputable def Ju(K:Qa)(T:String)(r:V->List V->Hp->VK->Prop)(to:TE):TE:=fun σ H Q=>to σ H fun x H1=>Js K T x H1/\r x [] H1 Q
noncomputable def JM(K:Qa)(T:String)(r:V->List V->Hp->VK->Prop)(to:TE)(t:TA):TE:=fun σ H Q=>to σ H fun x H1=>Js K T x H1/\t σ H1 fun xs H2=>r x xs H2 Q
variable {o e:Expr} {es:List Expr} {to:TE} {t:TA} {name:Str} {apos cpos:Pos} {T id:String} {r:V->List V->Hp->VK->Prop}
theorem Eg(pa:PlainAttrs T)(slot:Slot T name id)(hty:typeOf (.builtin id)=pure (.type "method_descriptor"))(hm:uS X id r)(ho:PE X o to)
  (hbase:autoParam (attributeBase o name X.env (eval o X.env)=eval o X.env) ℜ0) (hline:autoParam ((apos.endLine == cpos.line)=true) ℜ0):PE X (.Call (.Attribute o name apos) [] [] cpos) (Ju X.K T r to):=by
 intro pins s σ H Q I h;refine wpAny_Call_method0_late hbase hline (bE (ho pins s σ H _ I h) fun v s1 ⟨x,H1,I1,r1,ty,q1⟩=>?_);obtain⟨h1,h2⟩:=wX I1 r1 ty;exact⟨T,id,pa,slot,hty,h1,h2,Px rfl (PySem.evalArgs_none (hm pins s1 σ H1 x [] v [] Q I1 r1 .nil q1))⟩
theorem GF(pa:PlainAttrs T)(slot:Slot T name id)(hty:typeOf (.builtin id)=pure (.type "method_descriptor"))(hm:uS X id r)(ho:PE X o to)(ha:PA X (e::es) t)
  (hbase:autoParam (attributeBase o name X.env (eval o X.env)=eval o X.env) ℜ0)
  (hfew:autoParam (((backTo cpos (starEach (e::es) X.env)).all (fun x=>!x.1) && (backToKw cpos (keywordEach [] X.env)).all (fun x=>x.1.isSome)
   && decide ((e::es).length+([]:List Keyword).length+(if ([]:List Keyword).isEmpty then 0 else 1)<30))=true) ℜ0)
  (hline:autoParam ((apos.endLine == cpos.line)=true) ℜ0) (hs:autoParam (starEach (e::es) X.env=(false,eval e X.env)::starEach es X.env) ℜ0) (hplain:autoParam ((backTo cpos (starEach es X.env)).any (·.1)=false) ℜ0) :
  PE X (.Call (.Attribute o name apos) (e::es) [] cpos) (JM X.K T r to t):=by
 intro pins s σ H Q I h;refine wpAny_Call_method_late hbase hfew hline rfl (bE (ho pins s σ H _ I h) fun v s1 ⟨x,H1,I1,r1,ty,q1⟩=>?_);obtain⟨h1,h2⟩:=wX I1 r1 ty;refine⟨T,id,pa,slot,hty,h1,h2,?_⟩;have hA:=ha cpos pins s1 σ H1 _ I1 q1;rw[hs] at hA ⊢;refine Px (by show (false || (backTo cpos (starEach es X.env)).any (·.1))=false;rw[hplain]<;>rfl) (Calls.evalArgs_plain ?_)
 exact bE hA fun us s2 ⟨vs,H2,I2,r2,q2⟩=>hm pins s2 σ H2 x vs v us Q I2 r1 r2 q2
/- xs.append(e),list.index on a module's tuple .. are uS facts of 06m -/
end
noncomputable def FF(X:Cx)(id:String)(r:V->List V->Hp->VK->Prop):Prop:=
 ∀(pins:List (Addr×Obj)) (s:Shared) (σ:St) (H:Hp) (x:V) (xs:List V) (v:Value) (us:List Value) (Q:VK),Inv X pins σ H s->RelV x v->Vals xs us->r x xs H Q ->
  wpAny (model X.prog X.w) X.A (call (.builtin id) (v::us)) (EP X pins σ Q) X.xe s
theorem Vals.one:∀{x:V} {us:List Value},Vals [x] us->∃ u,us=[u]/\RelV x u
 |_,_,.cons r .nil=>⟨_,rfl,r⟩
theorem Vals.eraseIdx:∀{xs:List V} {us:List Value} (i:Nat),Vals xs us->Vals (xs.eraseIdx i) (us.eraseIdx i)
 |_,_,_,.nil=>.nil
 |_,_,0,.cons _ t=>t
 |_,_,i+1,.cons r t=>.cons r (Vals.eraseIdx i t)
theorem Vals.rep(h:Vals xs us):∀ k:Nat,Vals (List.replicate k xs).flatten (List.replicate k us).flatten
 |0=>.nil
 |k+1=>by
  rw[LC,LC,LX,LX];exact Vals.append h (Vals.rep h k)
theorem lq:∀(l:List α) (i:Nat),(l.eraseIdx i).length<=l.length
 |[],_=>Lf _
 |_::_,0=>Nr _
 |_::r,i+1=>Nat.succ_le_succ (lq r i)
theorem foldl_rep(its:List Value):∀(k:Nat) (acc:List Value),
  List.foldl (fun x1 x2=>x1++x2) acc.toArray (List.replicate k its.toArray)=(acc++(List.replicate k its).flatten).toArray
 |0,acc=>by simp
 |k+1,acc=>by
  have e:acc.toArray++its.toArray=(acc++its).toArray:=by simp
  have e2:(acc++its)++(List.replicate k its).flatten=acc++(List.replicate (k+1) its).flatten:=by
   rw[LC,LX,Ly]
  rw[<- e2,<- foldl_rep its k (acc++its),<- e,LC,Pq]
section
variable {X:Cx} {pins:List (Addr×Obj)} {σ:St} {H:Hp} {s:Shared} {l b:Addr} {xs ys zs:List V}
theorem Inv.Ad{f:Array Value->Array Value}{t':Nat}(I:Inv X pins σ H s)(hH:H l=some (.lst xs))
  (e:s.heap.get? l=some {cls:=.type "list",data:=.seq its.toArray n}) (hf:f its.toArray=its'.toArray) (hv:Vals ys its') (hz:ys.length<=sizeLine) :
  Inv X pins σ (upd H l (.lst ys)) {s with heap:=s.heap.update l (Obj.mapSeq f),toks:=t'}:=by
 have q:=PySem.IsL.update e f;rw[hf] at q;refine I.write (x:=l) (e:=l) (by rw[hH];exact trivial) (.inl rfl) (fun b' u hb hu=>(NU s.heap (Obj.mapSeq f) (Ne.symm hb)).trans hu) ⟨_,q⟩ ?_
 exact⟨hz,its',_,hv,q⟩
theorem Inv.E7{t':Nat}(I:Inv X pins σ H s)(hv:Vals ys its)(hz:ys.length<=sizeLine):
  Inv X pins σ (upd H s.heap.objs.size (.lst ys)) {s with heap:=s.heap.push {cls:=.type "list",data:=.seq its.toArray},toks:=t'}:=
 I.laid (fun _ _ q=>KU _ q) (Lf _) ⟨hz,its,0,hv,Lo _ rfl⟩
theorem Inv.fresh(I:Inv X pins σ H s):H s.heap.objs.size=none:=I.aD.fresh (Lf _)
theorem Inv.kg(I:Inv X pins σ H s)(hH:H l=some (.lst xs)):xs.length<=sizeLine/\∃(its:List Value) (n:Nat),Vals xs its/\xs.length=its.length/\s.heap.get? l=some {cls:=.type "list",data:=.seq its.toArray n}:=by
 obtain⟨z,its,n,r,e⟩:=I.aD l _ hH;exact⟨z,its,n,r,r.length,e⟩
theorem zj(h:n<=sizeLine):Builtin.List.listTooLong n=false:=by
 unfold Builtin.List.listTooLong;exact L0 (by lia)
end
section
variable {X:Cx}
noncomputable def sf:V->List V->Hp->VK->Prop:=fun x vs H Q=>∃ l xs y,x=.ref l/\vs=[y]/\H l=some (.lst xs)/\xs.length<sizeLine/\Q .aw (upd H l (.lst (xs++[y])))
theorem cc:FF X "list.append" sf:=by
 intro pins s σ H x vs v us Q I rx rv h;obtain⟨l,xs,y,rfl,rfl,hH,hz,q⟩:=h;cases rx;obtain⟨u,rfl,ru⟩:=rv.one;obtain⟨z,its,n,r,hl,e⟩:=I.kg hH;refine Mr F.slot_list_append ⟨_,e,rfl⟩ F.entry_list_append (F.args_list_append_2 _ _) (PySem.list_append l its.toArray n u (by rw[Lh];lia)) ⟨e,?_⟩
 refine⟨.aw,_,I.Ad (its':=its++[u]) hH e (by simp) (r.append (.cons ru .nil)) ?_,rfl,q⟩
 rw[KW,LO];lia
noncomputable def zD:V->List V->Hp->VK->Prop:=fun x vs H Q=>∃ l xs i k y,x=.ref l/\vs=[.int i]/\H l=some (.lst xs)/\-(2^63)<=i/\i<2^63/\seqIndex? i xs.length=some k/\xs[k]?=some y/\Q y (upd H l (.lst (xs.eraseIdx k)))
theorem wj:FF X "list.pop" zD:=by
 intro pins s σ H x vs v us Q I rx rv h;obtain⟨l,xs,i,k,y,rfl,rfl,hH,h1,h2,hk,hy,q⟩:=h;cases rx;obtain⟨u,rfl,ru⟩:=rv.one;obtain⟨t,rfl⟩:=ru;obtain⟨z,its,n,r,hl,e⟩:=I.kg hH;obtain⟨w,hw,rw'⟩:=r.get hy;refine Mr F.slot_list_pop ⟨_,e,rfl⟩ F.entry_list_pop (F.args_list_pop_2 _ _)
  (MeetsSeq.list_pop_at l its.toArray n i t k w (PD h1 h2) (by rw[Lh,<- hl];exact hk) (by rw[<- L8];exact hw) (by rw[Lh];lia)) ⟨e,?_⟩
 refine⟨y,_,I.Ad (its':=its.eraseIdx k) hH e ?_ (r.eraseIdx k) ?_,rw',q⟩
 ·show its.toArray.eraseIdxIfInBounds k=(its.eraseIdx k).toArray;rw[List.eraseIdxIfInBounds_toArray]
 ·have:=lq xs k;lia
noncomputable def G3:R2:=fun x y H Q=>∃ l b xs zs,x=.ref l/\y=.ref b/\H l=some (.lst xs)/\H b=some (.lst zs)/\xs.length+zs.length<=sizeLine/\∀ p,H p=none->Q (.ref p) (upd H p (.lst (xs++zs)))
theorem wx:d7 X (binaryOp .Add) G3:=by
 intro pins s σ H x y v u Q I rx ry h;obtain⟨l,b,xs,zs,rfl,rfl,hH,hB,hz,q⟩:=h;cases rx;cases ry;obtain⟨z,its,n,r,hl,e⟩:=I.kg hH;obtain⟨z2,its2,n2,r2,hl2,e2⟩:=I.kg hB;refine PySem.P.add_list e e2 ?_ (by rw[Lh,Lh];lia)
 have ea:its.toArray++its2.toArray=(its++its2).toArray:=by simp
 rw[ea];exact⟨.ref _,_,I.E7 (t':=s.toks) (r.append r2) (by rw[KW];lia),rfl,q _ I.fresh⟩
noncomputable def G5:R2:=fun x y H Q=>∃ l k xs,x=.ref l/\y=.int k/\H l=some (.lst xs)/\-(2^63)<=k/\k<2^63/\xs.length*k.toNat<=sizeLine /\
 ∀ p,H p=none->Q (.ref p) (upd H p (.lst (List.replicate k.toNat xs).flatten))
theorem len_rep(xs:List α)(k:Nat):(List.replicate k xs).flatten.length=k*xs.length:=by
 induction k with
 |zero=>simp
 |succ k ih=>rw[LC,LX,KW,ih,Nz,PU]
theorem Dh:d7 X (binaryOp .Mult) G5:=by
 intro pins s σ H x y v u Q I rx ry h;obtain⟨l,k,xs,rfl,rfl,hH,h1,h2,hz,q⟩:=h;cases rx;obtain⟨t,rfl⟩:=ry;obtain⟨z,its,n,r,hl,e⟩:=I.kg hH;have hlen:its.toArray.size*k.toNat<=sizeLine:=by rw[Lh,<- hl];exact hz
 have hcap:¬ its.toArray.size*k.toNat >(2^63-1) / 8:=by
  have:(sizeLine:Nat)<=(2^63-1) / 8:=by decide
  lia
 have hfit:¬ (!Builtin.List.listFitsIndex k)=true:=by
  rw[PD h1 h2];exact Lm
 have hlong:¬ Builtin.List.listTooLong (its.toArray.size*k.toNat)=true:=by
  rw[zj hlen];exact Lm
 have hnew:List.foldl (fun x1 x2=>x1++x2) #[] (List.replicate (if its.toArray.isEmpty=true then 0 else k.toNat) its.toArray)=(List.replicate k.toNat its).flatten.toArray:=by
  have f0:∀ m:Nat,List.foldl (fun x1 x2=>x1++x2) #[] (List.replicate m its.toArray)=(List.replicate m its).flatten.toArray:=fun m=>by
   have:=foldl_rep its m [];rw[MX] at this;exact this
  rw[f0]
  cases its with
  |nil=>simp
  |cons a r'=>rw[K_ (by simp)]
 refine MZ (T:="list") (U:="int") (by decide) ⟨_,e,rfl⟩ (fun s'=>Nn s' k t) noFill_list_mul F.fills_int_mul F.slot_int_rmul repeat_list F.slot_int_index.lookup
  (Mr F.slot_int_rmul (Nn s k t) F.entry_int_rmul (F.args_int_rmul_2 _ _) (int___rmul___int_list k t l its.toArray n)
   ⟨e,rfl,⟨_,e,rfl⟩,Mr F.slot_list_mul ⟨_,e,rfl⟩ F.entry_list_mul (F.args_list_mul_2 _ _) (AutoListH.list___mul___list_int_3 l its.toArray n k t hfit hcap hlong) ⟨e,?_⟩⟩)
 rw[hnew];exact⟨.ref _,_,I.E7 (t':=s.toks) (r.rep k.toNat) (by rw[len_rep,NM];exact hz),rfl,q _ I.fresh⟩
end
noncomputable def Fd(i:Expr):Prop:=∀ ov iv,subscripted i false ov iv=operate [ov,iv] (getItem ov iv)
theorem A9{prog:Program}{w:World}{A:Around}{E:Value->Shared->Prop}{env:Env}{value slice:Expr}{pos:Pos}{T id:String}{Q:Value->Shared->Prop}
  (hl:typeLookup (.type T) "__getitem__"=pure (some (.builtin id))) (hs:Fd slice)
  (h:wpAny (model prog w) A (eval value env) (fun o s₁=>wpAny (model prog w) A (eval slice env) (fun i s₂=>s₂.TypeIs o T/\wpAny (model prog w) A (getItem o i) Q E s₂) E s₁) E s) :
  wpAny (model prog w) A (eval (.Subscript value slice pos) env) Q E s:=by
 refine Subscript_ (Mg h (fun o s₁ h₁=>Mg h₁ (fun i s₂ h₂=>?_) fun _ _ x=>x) fun _ _ x=>x);obtain⟨hT,h₂⟩:=h₂;unfold subscriptTail;refine KR ?_;rw[getitemInPython_of_ne hT.not_modules];refine KR (wpAny_specialOf hT hl ?_);have fin:wpAny (model prog w) A (subscripted slice false o i) (fun r s₃=>wpAny (model prog w) A (letTemporaryGo value o r >>= fun _=>pure r) Q E s₃) E s₂:=by
  rw[hs o i];exact wpAny_operating (Mg h₂ (fun r s₃ h₃=>KR (wpAny_letTemporaryGo (Lk h₃))) fun _ _ x=>x)
 first
  |exact Lk (KR fin)
  |exact KR (Lk (KR fin))
  |exact KR fin
end L2
namespace Att
open PySem PySem.W PySem.Calls PyProof.Rows
variable{l:OpenLaw}
theorem iA{P:Params}{h:Heap}:∀(ns:List Int) (vs:List Value),WellAll P h vs (ns.map WData.int)->IntsAre vs ns:=by
 intro ns
 induction ns with
 |nil =>
  intro vs w;rw[List.map_nil] at w;cases w;exact .nil
 |cons n ns ih =>
  intro vs w;rw[List.map_cons] at w
  cases w with
  |cons a b =>
   cases a;exact .cons _ _ (ih _ b)
theorem uI{n:Nat}(hn:l.most=some n){P:Params}{h:Heap}{args:List WData}{vals:List Value}
  (hpre:l.row.toRowW.claim.pre args=true) (hwl:WellAll P h vals args) :
  ∃ a vs ns,vals=[Value.ref a]/\args=[WData.list (ns.map WData.int)]/\h.get? a=some {cls:=.type "list",data:=.seq vs.toArray}/\IntsAre vs ns/\ns.length<=n:=by
 have hsh:WShape.hasAll [] args [.list .int]=true:=(pre_splitW hpre).1;have hc:l.pre.holds [] {args:=args}=true:=(pre_splitW hpre).2;obtain⟨d,r,rfl,h1,h2⟩:=hasAllW_cons hsh;obtain rfl:=hasAllW_nil h2;obtain⟨xs,rfl,h3⟩:=hasW_list h1;obtain⟨ns,rfl⟩:=items_int h3;have hlen:ns.length<=n:=by
  unfold OpenLaw.pre at hc;have h4:(WTm.not (.lt (.lit (.int (n:Int))) (.len (.arg 0)))).holds [] {args:=[.list (ns.map .int)]}=true:=by
   have h4:=(holds_andW hc).1;rw[hn] at h4;exact h4
  have h5:=condW_of h4 (w_not (w_lt w_lit (w_len_list (w_arg rfl))));rw[List.length_map] at h5;refine Nat.le_of_not_lt fun q=>?_;have q':(n:Int)<((ns.length:Nat):Int):=by lia
  first
   | (rw[decide_eq_true q'] at h5;exact absurd h5 (by decide))
   | (simp at h5;lia)
 cases hwl with
 |cons w1 w2 =>
  cases w2
  cases w1 with
  |list ho hall=>exact⟨_,_,ns,rfl,rfl,ho,iA ns _ hall,hlen⟩
theorem tZ(l:OpenLaw)(args:List WData):l.row.toRowW.claim.post args (.bool true) args=true:=
 postW_of (r:=l.row.toRowW) (X:=(true == true))
  (show WShape.has [] (.bool true) .bool=true by first|rfl|decide|simp[WShape.has,WShape.arms,WShape.armsAll])
  (show (WTm.eq .res (.lit (.bool true))).value [] {args:=args,res:=some (.bool true),after:=args}=some (.bool (true == true)) from w_eq_bool (w_res rfl) w_lit) rfl
theorem oC{n:Nat}{q:Program}{loose:List Str}{XP:(Str->Option Value)->Heap->Prop}{YP:World->Heap->Prop}{d:DefRec}
  (hn:l.most=some n) (hdf:d.params.defaults=[])
  (call:∀(w:World) (s₀ s₁:Shared) (mg mb:Str->Option Value) (fa:Addr) (o:Obj) (pm cd doc:Value) (a:Addr) (vs:List Value) (ns:List Int),
   Ground q loose [] XP w s₀ mg mb s₁.heap->YP w s₁.heap ->
   s₁.heap.get? fa=some o->o.data=.func (docDef d.name d.params d.body d.scope pm cd doc)->s₁.heap.CodeRec cd d.name->mg d.name=some (.ref fa) ->
   s₁.heap.get? a=some {cls:=.type "list",data:=.seq vs.toArray}->IntsAre vs ns->ns.length<=n->s₁.gens=#[] ->
   codeAny (model l.prog w) callerA (.call (.ref fa) ⟨[.ref a],[]⟩) (fun r s'=>r=.ok (.ret (.bool true))/\OldK s₁.heap s'.heap/\s'.os=s₁.os/\AllBare s'.gens) s₁) :
  WalkO q loose XP YP l.row.toRowW d [] (fun f vs=>PySem.call f vs):=by
 intro w s₀ s₁ mg mb G Y fa o pm cd doc dV kV ho hd hcd hD hmg hg args vals as hpre hlay hrd hwl hlo;obtain rfl:dV=.none:=Dflts.none hD hdf;obtain rfl:kV=.none:=Dflts.noKw hD;obtain⟨a,vs,ns,rfl,rfl,hobj,hints,hlen⟩:=uI hn hpre hwl;refine enter_call (codeAny_mono (call w s₀ s₁ mg mb fa o pm cd doc a vs ns G Y ho (fd_plain hd) hcd hmg hobj hints hlen hg) fun r s' hq=>?_);obtain⟨rfl,h2,h3,h4⟩:=hq;exact⟨.inl ⟨.bool true,.bool true,[],rfl,fun _=>rfl,.bool true,tZ l _,fun _=>⟨List.Pairwise.nil,fun _ hm=>(nomatch hm)⟩⟩,h2,h3,h4⟩
end Att
namespace L2
open PySem PySem.Spec PyProof.Rows
variable{P prog q:Program}{K:Qa}{N ON loose:List Str}{mb mg:Str->Option Value}{base h h':Heap}{a b f fa i1 i2 it l l1 l2 p z:Addr}{o:HO}{w:World}{CX:kX}{i j k n:Nat}{fd:FuncData}{name qual x:Str}{sp:Sp}{vs xs ys:List V}{ns:List Int}{X:Cx}{H H' H1:Hp}{osc scope:Scope}{env:Env}{cells:List (Str×Addr)}{s:Shared}{e elt iter tg:Expr}{es ifs:List Expr}{tc:TT}{te tl:TE}{pins:List (Addr×Obj)}{σ:St}{E Q:Value->Shared->Prop}{apos cpos tp:Pos}{r:List V->Hp->VK->Prop}{ta:TA}{items:Array Value}{ex fp:List Addr}{α:Type}{D:Ends}{hi lo:Option Expr}{ad:Nat->Addr}{md:List Bool}{P1 P2:Nat->Value->Prop}{S1 S2:Nat->Heap->Prop}{To:Option Addr}
theorem kI:∀{vs:List Value} {ns:List Int},IntsAre vs ns->Vals (ns.map V.int) vs
 |_,_,.nil=>.nil
 |_,_,.cons n t h=>.cons ⟨t,rfl⟩ (kI h)
structure fV (q:Program) (K:Qa):Prop where
 nt:PySem.W.noTabs K=true
 nd:((bA K).map (·.2.1)).Nodup
 fd:∀ x∈cQ,PySem.W.tabIn K x=none\/((recsOf q).find? (fun e=>e.name == x)).isSome=true
theorem fV.at{mean:ExcName->Option Value}(L:fV q K)(T:Top q loose mean mg mb h)(X:K.In h):∀ t∈bA K,PySem.W.CodeHd h t.1 t.2.1/\h.get? t.2.1=some (PySem.W.tabObj #[]):=fun t ht=>by
 unfold bA at ht;obtain⟨x,hx,e⟩:=NL.mp ht;obtain⟨p,e1,e2⟩:=Option.map_eq_some_iff.mp e;obtain⟨c,Pt⟩:=p;subst e2;rcases L.fd x hx with z|z
 ·rw[z] at e1;cases e1
 ·obtain⟨d,hd⟩:=OV.mp z;exact PySem.W.tab_of T X hd e1
noncomputable def lT:List (Addr×Addr×Str)->Addr->Option HO
 |[],_=>none
 |t::r,b=>if b=t.2.1 then some (.vJ #[.str t.2.2 0]) else lT r b
theorem fD:∀{l:List (Addr×Addr×Str)},lT l b=some o->∃ t∈l,b=t.2.1/\o=.vJ #[.str t.2.2 0]
 |t::r,e=>by
  unfold lT at e;by_cases z:b=t.2.1
  ·rw[Lg z] at e;cases e;exact⟨t,.head _,z,rfl⟩
  ·rw[K_ z] at e;obtain⟨u,hu,q⟩:=fD e;exact⟨u,.tail _ hu,q⟩
theorem ou{t:Addr×Addr×Str}:∀{l:List (Addr×Addr×Str)},(l.map (·.2.1)).Nodup->t∈l->lT l t.2.1=some (.vJ #[.str t.2.2 0])
 |u::r,nd,m=>by
  obtain⟨n1,n2⟩:=LP.mp nd;unfold lT;rcases Ll.mp m with rfl|m
  ·rw[Lg rfl]
  ·rw[K_ fun z=>n1 (LD.mpr ⟨t,m,z⟩)];exact ou n2 m
theorem zc{s₁:Shared}{vs:List Value}
  (KX:K.In s₁.heap) (hns:s₁.heap.Ns mainGlobals mg) (hb:s₁.heap.Ns builtinsNs mb) (hbb:∀ x:Str,x≠"__name__"->mb x=bootBuiltins x) (hlim:s₁.heap.NoLimit) (hbm:Fi mg s₁.heap)
  (hT:∀ t∈bA K,PySem.W.CodeHd s₁.heap t.1 t.2.1/\s₁.heap.get? t.2.1=some (PySem.W.tabObj #[])) (L:fV q K) (hg:s₁.gens=#[])
  (ha:s₁.heap.get? a=some {cls:=.type "list",data:=.seq vs.toArray}) (hi:IntsAre vs ns) (hl:ns.length<=sizeLine) (hr:aQ k callerA)
  (F:∀ base:Heap,K.In base->base.Ns mainGlobals mg->dC P w K mg base CX k fa fd [x] sp) (hbind:∀(s:Shared) (u:Value),BindsTo s fd ⟨[u],[]⟩ [(x,u)])
  (hsp:∀ H:Hp,True->bz K H a (ns.map V.int)->sp [.ref a] H (fun v _=>v=.bl true) fun _ _ _=>False)
  (hCX:∀ H e s',CX [] H s₁ (fun _ _ _=>False) e s'->False) :
  codeAny (model P w) callerA (.call (.ref fa) ⟨[.ref a],[]⟩) (fun r s'=>r=.ok (.ret (.bool true))/\OldK s₁.heap s'.heap/\s'.os=s₁.os/\AllBare s'.gens) s₁:=by
 have rv:=kI hi;have lenV:=hi.length;have naT:∀ t∈bA K,t.2.1≠a:=fun t ht z=>by
  have e:=(hT t ht).2;rw[z,ha] at e;cases e
 let oS:Obj:={cls:=.type "list",data:=.seq vs.toArray}
 have core:∀ S:Option HO,(S=none\/S=some (.gK oS (.lst (ns.map V.int))))->(S≠none->K.lookup a=none)->bz K (fun b=>if b=a then S else lT (bA K) b) a (ns.map V.int) ->
   codeAny (model P w) callerA (.call (.ref fa) ⟨[.ref a],[]⟩) (fun r s'=>r=.ok (.ret (.bool true))/\OldK s₁.heap s'.heap/\s'.os=s₁.os/\AllBare s'.gens) s₁:=by
  intro S hS hK hSq;generalize hH:(fun b=>if b=a then S else lT (bA K) b)=H at hSq
  have hA:H a=S:=by rw[<- hH];exact Lg rfl
  have hB:∀ b,b≠a->H b=lT (bA K) b:=fun b z=>by rw[<- hH];exact K_ z
  have free:∀{b:Addr} {o:Obj},s₁.heap.get? b=some o->o≠PySem.W.tabObj #[]->(b=a->S=none)->H b=none:=fun {b o} e hn hz=>by
   by_cases z:b=a
   ·rw[z,hA];exact hz z
   ·rw[hB b z]
    cases q:lT (bA K) b with
    |none=>rfl
    |some u =>
     obtain⟨t,ht,e1,_⟩:=fD q;have e2:=(hT t ht).2;rw[<- e1,e] at e2;exact absurd (Option.some.inj e2) hn
  have nsK:∀{b:Addr} {m:Str->Option Value},s₁.heap.Ns b m->(kD s₁.heap H).Ns b m:=fun {b m} ⟨o,es,ep,e,d,r⟩=>⟨o,es,ep,gJ e (free e (fun z=>by rw[z] at d;cases d) fun z=>by rw[z,ha] at e;cases e;cases d),d,r⟩
  have hKb:K.In (kD s₁.heap H):=fun b o e=>gJ (KX b o e) (free (KX b o e) (fun z=>by
    have h2:=MM.mp L.nt (b,o) (PySem.W.mem_of_lookupK e);subst z;exact absurd (show false=true from h2) Lm) fun z=>by
    cases q:S with
    |none=>rfl
    |some u=>rw[z,hK (by rw[q];simp)] at e;cases e)
  have hcd:∀ t∈bA K,PySem.W.CodeHd (kD s₁.heap H) t.1 t.2.1:=fun t ht=>by
   obtain⟨o,us,fl,tf,fg,tg,i7,tx,tt,e1,e2,r⟩:=(hT t ht).1;exact⟨o,us,fl,tf,fg,tg,i7,tx,tt,gJ e1 (free e1 (fun z=>by rw[z] at e2;cases e2) fun z=>by rw[z,ha] at e1;cases e1;exact absurd (Value.type.inj e2) (by decide)),e2,r⟩
  have hbm':Fi mg (kD s₁.heap H):=by
   obtain⟨bm,ob,b1,b2,b3,b4,b5⟩:=hbm;exact⟨bm,ob,b1,b2,gJ b3 (free b3 (fun z=>by rw[z] at b4;cases b4) fun z=>by rw[z,ha] at b3;cases b3;exact absurd (Value.type.inj b4) (by decide)),b4,b5⟩
  have aD:fB P w H s₁.heap:=fun b u e=>by
   by_cases z:b=a
   ·rw[z,hA] at e;rcases hS with h0|h0
    ·rw[h0] at e;cases e
    ·rw[h0] at e;cases e;subst z;exact⟨ha,by rw[Ld];exact hl,vs,_,rv,ha⟩
   ·rw[hB b z] at e;obtain⟨t,ht,e1,e2⟩:=fD e;subst e2;exact⟨#[],by rw[e1];exact (hT t ht).2,trivial,fun pos cv c=>by cases (show (none:Option Value)=some cv from c)⟩
  have hM:Mod K mg (kD s₁.heap H):=⟨hKb,nsK hns,⟨mb,nsK hb,hbb⟩,let ⟨mc,h1,h2⟩:=hlim;⟨mc,nsK h1,h2⟩,hcd,hbm'⟩
  have e0:AA P w K mg (kD s₁.heap H) callerA [] s₁ H:=⟨rfl,hM,fun b o e=>Aw e,PV (vq _ _),trivial,fun b hb=>absurd (show b∈([]:List Addr) from hb) (by simp),aD,.of_eq hg,fun t ht=>⟨#[],by
   rw[hB _ (naT t ht),ou L.nd ht,O5]⟩⟩
  refine OU ((F _ hKb (nsK hns)).run callerA [] s₁ H ⟨[.ref a],[]⟩ [.ref a] [.ref a] _ _ hr e0 (hbind s₁ (.ref a)) (.cons rfl .nil) (hsp H trivial hSq)) fun r s' h=>?_
  cases r with
  |error e=>exact (hCX H e s' h).elim
  |ok fl =>
   cases fl with
   |next=>exact False.elim h
   |brk=>exact False.elim h
   |cont=>exact False.elim h
   |ret u =>
    obtain⟨v,H',os,bare,un,hok',r',qv⟩:=h;have q':v=.bl true:=qv;subst q';obtain rfl:u=Value.bool true:=r';have each:∀ b o,s₁.heap.get? b=some o->s'.heap.get? b=some o\/∃ c,PySem.W.CodeHd s₁.heap c b/\o=PySem.W.tabObj #[]/\∃ ps,s'.heap.get? b=some (PySem.W.tabObj ps):=fun b o e=>by
     cases qb:H b with
     |none=>exact .inl (un.keep b o e qb (by intro z;exact absurd (show b∈([]:List Addr) from z) (by simp)) (by simp))
     |some u =>
      by_cases z:b=a
      ·rw[z,hA] at qb;rcases hS with h0|h0
       ·rw[h0] at qb;cases qb
       ·have z2:=un.jq a oS _ (by rw[hA,h0])
        obtain⟨e2,_⟩:=hok' a _ z2;rw[z,ha] at e;cases e;exact .inl (by rw[z];exact e2)
      ·have qt:=qb;rw[hB b z] at qt;obtain⟨t,ht,e1,e2⟩:=fD qt;obtain⟨h1,h2⟩:=hT t ht;rw[<- e1] at h1 h2;rw[e] at h2;cases h2;subst e2;obtain⟨more,e3⟩:=un.i6 b _ qb;obtain⟨qs,e4,_⟩:=hok' b _ e3;exact .inr ⟨_,h1,rfl,qs,e4⟩
    refine⟨rfl,⟨fun b o e=>?_,fun b o e=>?_⟩,os,bare⟩
    ·rcases each b o e with z|⟨c,hc,z,ps,hp⟩
     ·exact .inl z
     ·subst z;exact .inr (.inl ⟨(hc.tab e).isCodeTable,rfl,#[],ps,rfl,by rw[Array.empty_append];exact hp⟩)
    ·rcases each b o e with z|⟨c,hc,z,ps,hp⟩
     ·exact⟨o,z⟩
     ·exact⟨_,hp⟩
 cases hk:K.lookup a with
 |some o =>
  have e:=KX a o hk;rw[ha] at e;cases e;exact core none (.inl rfl) (fun z=>absurd rfl z) (.inr ⟨_,vs.toArray,_,hk,rfl,rfl,rfl,by rw[Lh,lenV];exact hl,by simpa using rv⟩)
 |none=>exact core (some (.gK oS (.lst (ns.map V.int)))) (.inr rfl) (fun _=>hk) (.inl (.inr ⟨oS,Lg rfl⟩))
theorem A8{l:PySem.W.OpenLaw}{XP:(Str->Option Value)->Heap->Prop}{YP:World->Heap->Prop}{d:DefRec}{K:Params->Qa}{CX:World->kX}{sp:World->Sp}
  (hn:l.most=some n) (hn2:n<=sizeLine) (hdf:d.params.defaults=[]) (hr:aQ k callerA)
  (hY:∀(w:World) (h:Heap),YP w h->(K w.params).In h)
  (F:∀(w:World) (mg:Str->Option Value) (fa:Addr) (h:Heap),(K w.params).In h->h.Ns mainGlobals mg->mg d.name=some (.ref fa) ->
   ∃ fd:FuncData,(∀(s:Shared) (u:Value),BindsTo s fd ⟨[u],[]⟩ [(x,u)]) /\
    ∀ base:Heap,(K w.params).In base->base.Ns mainGlobals mg->dC l.prog w (K w.params) mg base (CX w) k fa fd [x] (sp w))
  (hsp:∀(w:World) (H:Hp) (a:Addr) (ns:List Int),ns.length<=n->True->bz (K w.params) H a (ns.map V.int)->sp w [.ref a] H (fun v _=>v=.bl true) fun _ _ _=>False)
  (hCX:∀(w:World) (H:Hp) (s:Shared) (e:Value) (s':Shared),CX w [] H s (fun _ _ _=>False) e s'->False) (hL:∀(w:World) (h:Heap),(K w.params).In h->fV q (K w.params)) :
  PySem.W.WalkO q loose XP YP l.row.toRowW d [] (fun f vs=>PySem.call f vs):=by
 refine Att.oC hn hdf fun w s₀ s₁ mg mb fa o pm cd doc a vs ns G Y ho hd hcd hmg hobj hints hlen hg=>?_;have KX:=hY w _ Y;obtain⟨fd,hb,hF⟩:=F w mg fa _ KX G.T.g hmg;have L:=hL w _ KX;exact zc KX G.T.g G.T.b G.T.builtins G.T.nolimit G.T.bmain (L.at G.T KX) L hg hobj hints (Lr hlen hn2) hr hF hb (fun H hO hS=>hsp w H a ns hlen hO hS) fun H e s'=>hCX w H s₁ e s'
noncomputable def cL(s:Stmt):Arguments:=match s with
 |.FunctionDef _ a _ _ _ _ _ _ _ _=>a
 |_=>{posonlyargs:=[],args:=[],vararg:=none,kwonlyargs:=[],kw_defaults:=[],kwarg:=none,defaults:=[]}
noncomputable def aS(s:Stmt):List Stmt:=match s with
 |.FunctionDef _ _ b _ _ _ _ _ _ _=>b
 |_=>[]
noncomputable def aa(s:Stmt):Scope:=match s with
 |.FunctionDef _ _ _ _ _ _ sc _ _ _=>sc
 |_=>{kind:=.function,names:=[],isGenerator:=false,isCoroutine:=false}
abbrev aT:kX:=fun _ _ _ _ _ _=>False
abbrev E0:XK:=fun _ _ _=>False
theorem aq:Passes aT X E0:=fun _ _ _ _ _ _ _ h=>h.elim
structure zO (K:Qa) (x qual:Str) (st:Stmt) (f:Addr) (fd:FuncData):Prop where
 ex:∃(oc:Value) (od:Option Addr) (kV doc pm:Value) (an:Option Addr) (cdv ct:Value) (osl:Array (Option Value)),
  fd=PySem.W.fnOf x qual (cL st) (aS st) (aa st) .none kV doc pm an cdv ct/\K.lookup f=some ⟨oc,od,.func fd,osl⟩/\PySem.W.codeIn K cdv qual=true
 kp:PySem.W.keepIn K (.ref f)=true
section
variable {P:Program} {w:World} {K:Qa} {mg:Str->Option Value} {base:Heap}
theorem zO.ok{st:Stmt}{ps:List Str}(F:zO K x qual st f fd)(S:aj N ps (aa st))(len:∀ vs H Q E,sp vs H Q E->vs.length=ps.length)
  (hbody:∀(cdv:Value) (A:Around) (outer:List Env) (s:Shared) (H:Hp) (vs:List V) (Q:VK) (E:XK),aQ k (A.deeper (envOfC qual (aa st) s.heap.objs.size f cdv))->sp vs H Q E ->
   ∃ t,qj (gy aT P w K mg base N qual (aa st) f cdv A outer s H E).z_ (aS st) t/\t {nx:=fun _ H'=>Q .aw H',rt:=Q} (start N vs) H):dC P w K mg base aT (k+1) f fd ps sp:=by
 obtain⟨oc,od,kV,doc,pm,an,cdv,ct,osl,rfl,lk,hcd⟩:=F.ex;refine BZ lk hcd S len fun A outer s H vs Q E hr hsp=>?_;obtain⟨t,h,q⟩:=hbody cdv A outer s H vs Q E hr hsp;exact⟨t,h.z_,q⟩
theorem zO.binds{st:Stmt}{ps:List Str}(F:zO K x qual st f fd)
  (h:∀(kV doc pm:Value) (an:Option Addr) (cdv ct:Value) (us:List Value),us.length=ps.length->bindArgs (PySem.W.fnOf x qual (cL st) (aS st) (aa st) .none kV doc pm an cdv ct) ⟨us,[]⟩=pure (ps.zip us)):Binds K fd ps []:=by
 obtain⟨oc,od,kV,doc,pm,an,cdv,ct,osl,rfl,lk,hcd⟩:=F.ex;exact .all (h kV doc pm an cdv ct)
theorem qH{st:Stmt}{oc:Value}{od an:Option Addr}{osl:Array (Option Value)}{kV doc pm cdv ct:Value}(l:K.lookup f=some ⟨oc,od,.func (PySem.W.fnOf x qual (cL st) (aS st) (aa st) .none kV doc pm an cdv ct),osl⟩)
  (c:PySem.W.codeIn K cdv qual=true) (k:PySem.W.keepIn K (.ref f)=true):zO K x qual st f (PySem.W.fnOf x qual (cL st) (aS st) (aa st) .none kV doc pm an cdv ct):=⟨⟨oc,od,kV,doc,pm,an,cdv,ct,osl,rfl,l,c⟩,k⟩
end
theorem aP{A:Around}(hr:aQ k A):A.units+1<cLine:=Lu (Nat.add_le_add_left (by decide:1<=64) _) hr.units
section
variable {X:Cx}
theorem pv(i:Nat){pos:Pos}(hN:autoParam (X.N[i]?=some x) ℜ0)(hv:autoParam (EC X.env.scope x) ℜ4)(hd:autoParam ((x ==("__debug__":Str))=false) ℜ1)
  (hcd:autoParam ((x ==("__classdict__":Str))=false) ℜ1):PE X (.Name x pos) (v5 i):=Di hN hv hd hcd
end
noncomputable def ba(H H':Hp):Prop:=∀ b o,H b=some o->H' b=some o
theorem ba.refl(H:Hp):ba H H:=fun _ _ h=>h
theorem ba.seq(e:ba H H')(h:bz K H a xs):bz K H' a xs:=by
 rcases h with (h|⟨o,h⟩)|h
 ·exact .inl (.inl (e _ _ h))
 ·exact .inl (.inr ⟨o,e _ _ h⟩)
 ·exact .inr h
noncomputable def dG(cells:List (Str×Addr)):List (Str×NameKind)->List (Str×Addr)->List (Str×Addr)
 |[],acc=>acc
 | (n,k)::r,acc=>if k=.free then dG cells r ((n,(cells.lookup n).getD 0)::acc) else dG cells r acc
theorem fH(h:∀ x∈scope.names,x.2=.free->∃ c,env.cells.lookup x.1=some c):closureFor scope env=pure (dG env.cells scope.names []):=by
 have all:∀(l:List (Str×NameKind)) (acc:List (Str×Addr)),(∀ x∈l,x.2=.free->∃ c,env.cells.lookup x.1=some c) ->
   (forIn l acc fun (x:Str×NameKind) (cs:List (Str×Addr))=>(match x with | (name,kind)=>if (kind == NameKind.free)=true then (do let c <- cellOf env name;pure (ForInStep.yield ((name,c)::cs))) else pure (ForInStep.yield cs):Sem (ForInStep (List (Str×Addr)))))=(pure (dG env.cells l acc):Sem (List (Str×Addr))):=by
  intro l
  induction l with
  |nil=>intro acc _;rfl
  |cons x r ih =>
   intro acc hl;obtain⟨n,k⟩:=x;rw[NF];by_cases hk:k=.free
   ·subst hk;obtain⟨c,hc⟩:=hl (n,.free) Lj rfl;have e:cellOf env n=pure c:=by unfold cellOf;rw[hc]
    simp only[N5,M1,e,dG,pure_bind];rw[ih _ fun y hy=>hl y (Le _ hy),hc];rfl
   ·have hb:(k == NameKind.free)=false:=by simpa using hk
    simp only[hb,Ma,M8,dG,hk,pure_bind];exact ih _ fun y hy=>hl y (Le _ hy)
 unfold closureFor;simp only[bind_pure];exact all scope.names [] h
theorem gL:∀{l:List (Str×NameKind)} {acc:List (Str×Addr)},(∀ x∈l,x.2=.free->∃ c,cells.lookup x.1=some c)->(∀ x c,acc.lookup x=some c->cells.lookup x=some c) ->
  ∀ x c,(dG cells l acc).lookup x=some c->cells.lookup x=some c
 |[],_,_,h,x,c,e=>h x c e
 | (n,k)::r,acc,hl,h,x,c,e=>by
  unfold dG at e;have hr:∀ y∈r,y.2=.free->∃ c,cells.lookup y.1=some c:=fun y hy=>hl y (Le _ hy)
  split at e
  ·rename_i hk;refine gL hr (fun y d q=>?_) x c e;rw[Ms] at q
   split at q
   ·rename_i hy;obtain⟨c',hc'⟩:=hl (n,k) Lj hk;have hy':y=n:=by simpa using hy
    subst hy';simp only[] at hc';rw[hc'] at q ⊢;exact q
   ·exact h y d q
  ·exact gL hr h x c e
theorem gR:∀{l:List (Str×NameKind)} {acc:List (Str×Addr)},(∃ c,acc.lookup x=some c)->∃ c,(dG cells l acc).lookup x=some c
 |[],_,h=>h
 | (n,k)::r,acc,h=>by
  unfold dG;split
  ·refine gR ?_;rw[Ms];split
   ·exact⟨_,rfl⟩
   ·exact h
  ·exact gR h
theorem fC:∀{l:List (Str×NameKind)} {acc:List (Str×Addr)},(x,NameKind.free)∈l->∃ c,(dG cells l acc).lookup x=some c
 |[],_,h=>by simp at h
 | (n,k)::r,acc,h=>by
  unfold dG;rcases Ll.mp h with e|h
  ·cases e;rw[Lg rfl];exact gR ⟨(cells.lookup x).getD 0,by rw[Ms];simp⟩
  ·split
   ·exact fC h
   ·exact fC h
noncomputable def av(X:Cx)(scope:Scope)(N:List Str)(C:Addr)(s:Shared)(H:Hp)(fp:List Addr):Cx where
 prog:=X.prog
 w:=X.w
 K:=X.K
 mg:=X.mg
 base:=X.base
 A:=X.A
 N:=N
 s₀:=s
 H₀:=H
 env:=compEnvC scope (dG X.env.cells scope.names []) C X.env
 outer:=X.stack
 stack:=X.stack
 ex:=fp
 calm:=X.calm
 fn:=fun _=>false
 pn:=[]
 xe:=fun _ _=>False
structure bF (osc:Scope) (ON:List Str) (scope:Scope) (own N:List Str):Prop where
 kind:scope.kind=.function
 nd:N.Nodup
 len:N.length=own.length+ON.length
 j3:∀ y∈scope.names,y.2≠.cell
 loc:∀ y∈scope.names,y.2=.local->scope.names.lookup y.1=some .local
 free:∀ y∈scope.names,y.2=.free->osc.names.lookup y.1=some .cell\/osc.names.lookup y.1=some .free
 out:∀ p∈ON.zip (N.drop own.length),p.1=p.2\/scope.names.lookup p.2=none
 own:∀ x∈N.drop own.length,scope.names.lookup x≠some .local
theorem cp(x:Str)(hn:∀ y∈scope.names,y.2≠.cell):((relabel scope env).names.lookup x=some .local->scope.names.lookup x=some .local) /\
  ((relabel scope env).names.lookup x=some .cell\/(relabel scope env).names.lookup x=some .free->scope.names.lookup x=some .free):=by
 unfold relabel;simp only;revert hn;generalize scope.names=l;intro hn
 induction l with
 |nil=>simp
 |cons y r ih =>
  obtain⟨n,k⟩:=y;have ih:=ih fun y hy=>hn y (Le _ hy);have hk:k≠.cell:=hn (n,k) Lj;rw[Lz];simp only;by_cases hc:(k == NameKind.free && env.scope.kind == ScopeKind.function && env.kindOf n == some NameKind.cell)=true
  ·rw[Lg hc,Ms,Ms];have hf:k=.free:=by
    simp only[LS] at hc
    simpa using hc.1.1
   split
   ·subst hf;simp
   ·exact ih
  ·rw[K_ hc,Ms,Ms];split
   ·constructor
    ·exact fun h=>h
    ·rintro (h|h)
     ·exact absurd (Option.some.inj h) hk
     ·exact h
   ·exact ih
noncomputable def FL(X:Cx)(ifs:List Expr)(t:TT):Prop:=
 ∀(pins:List (Addr×Obj)) (s:Shared) (σ:St) (H:Hp) (Q:Bool->Hp->Prop),Inv X pins σ H s->t σ H Q ->
  wpAny (model X.prog X.w) X.A (forIn ifs true fun c r=>if r=true then do let ok <- isTrue c X.env (eval c X.env);pure (ForInStep.yield ok) else pure (ForInStep.yield r)) (TP X pins σ Q) X.xe s
noncomputable def kT:TT:=fun _ H Q=>Q true H
theorem Am:FL X [] kT:=fun _ _ _ H _ I h=>wpAny_tests_nil ⟨H,I,h⟩
theorem BU{c:Expr}{t:TT}(h:PT X c t):FL X [c] t:=fun pins s σ H Q I hw=>wpAny_tests_one (h pins s σ H Q I hw)
theorem l_{A:Around}{R:Result->Shared->Prop}{target:Expr}{pos:Pos}{it acc:Value}(I:Nat->Shared->Prop)
  (turn:∀ n s,I n s->wpAny (model prog w) A (pyNext it) (fun r s₁=>match r with
   |none=>R (.ok .next) s₁
   |some v=>wpAny (model prog w) A (letOwnedTupleGo target it v) (fun _ s₁'=>wpAny (model prog w) A (assign target env v) (fun _ s₂ =>
     wpAny (model prog w) A (forIn ifs true fun c r=>if r=true then do let ok <- isTrue c env (eval c env);pure (ForInStep.yield ok) else pure (ForInStep.yield r)) (fun ok s₃ =>
      if ok=true then wpAny (model prog w) A (eval elt env) (fun x s₄ =>
       wpAny (model prog w) A (call (.builtin "list.append") [acc,x]) (fun _ s₅=>∃ m,m<n/\I m s₅) (fun _ _=>False) s₄) (fun _ _=>False) s₃
      else ∃ m,m<n/\I m s₃) (fun _ _=>False) s₂) (fun _ _=>False) s₁') (fun _ _=>False) s₁) (fun _ _=>False) s)
  (n:Nat) (h:I n s):codeAny (model prog w) A (.compLoop (.ListComp elt [⟨target,iter,ifs,0⟩] scope pos) 0 it acc env) R s:=by
 refine codeAny_loop rfl I (fun n s hI=>?_) n h;show wpAny _ A ((compTurn (.ListComp elt [⟨target,iter,ifs,0⟩] scope pos) 0 it acc env).onRaise (fun x=>do noteFrame x env;theTreesLotGoes x)) _ _ s
 refine wpAny_noted ?_;rw[compTurn_list];refine KR (NW (KR (Mg (turn n s hI) (fun r s₁ h₁=>?_) fun _ _ h'=>h'.elim)))
 cases r with
 |none=>exact Lk h₁
 |some v =>
  refine KR (Mg h₁ (fun _ s₁' h₁'=>?_) fun _ _ h'=>h'.elim);refine KR (Mg h₁' (fun _ s₂ h₂=>KR (Mg h₂ (fun ok s₃ h₃=>?_) fun _ _ h'=>h'.elim)) fun _ _ h'=>h'.elim)
  cases ok with
  |false=>exact Lk ⟨rfl,h₃⟩
  |true =>
   exact KR (KR (Mg h₃ (fun x s₄ h₄=>KR (Mg h₄ (fun _ s₅ h₅=>Lk (Lk ⟨rfl,h₅⟩)) fun _ _ h'=>h'.elim)) fun _ _ h'=>h'.elim))
noncomputable def jr(wi:TI)(k:Nat)(g:TG)(tc:TT)(te:TE):TE:=fun σ H Q=>wi σ H fun J H1=>∀ D,H1 D=none ->
 ∃ W:Nat->Nat->List V->St->Hp->Prop,(∃ m,W 0 m [] (List.replicate k none++σ) (upd H1 D (.lst [])))/\∀ i m ys σ' H',W i m ys σ' H'->H' D=some (.lst ys) /\
  ((J.stop i H'/\Q (.ref D) H')\/(J.go i H'/\ys.length<sizeLine/\∀ x H2,J.Ar i H' x H2->g x σ' H2 fun σ3 H3=>tc σ3 H3 fun b H4 =>
   if b=true then te σ3 H4 fun v H5=>H5 D=some (.lst ys)/\∃ m',m'<m/\W (i+1) m' (ys++[v]) σ3 (upd H5 D (.lst (ys++[v])))
   else ∃ m',m'<m/\W (i+1) m' ys σ3 H4))
theorem lE{own:List Str}{pos:Pos}{wi:TI}{g:TG}(S:bF osc ON scope own N)(hosc:X.env.scope=osc)(hON:X.N=ON)(hc:X.calm=true)(hi:PI X tg iter wi)
  (hg:∀ C s H fp,PG (av X scope N C s H fp) tg g) (ht:∀ C s H fp,FL (av X scope N C s H fp) ifs tc) (he:∀ C s H fp,PE (av X scope N C s H fp) elt te)
      {Q:VK} (I:Inv X pins σ H s) (h:jr wi own.length g tc te σ H Q) {RR:Value->Addr->Result->Shared->Prop}
  (fin:∀(D C:Addr) (H':Hp) (s':Shared) (m:Str->Option Value),Inv X pins σ H' s'->Q (.ref D) H'->H' C=none->X.s₀.heap.objs.size<=C->C≠X.env.locals->(∀ x c,X.env.cells.lookup x=some c->c≠C)->(∀ p∈X.pn++pins,p.1≠C) ->
   s'.heap.Ns C m->RR (.ref D) C (.ok .next) s') :
  wpAny (model X.prog X.w) X.A (eval iter X.env) (fun x s₁=>wpAny (model X.prog X.w) X.A (pyIter x) (fun it s₂=>wpAny (model X.prog X.w) X.A (newList []) (fun acc s₃ =>
   wpAny (model X.prog X.w) X.A (newFunctionEnv scope X.env.globals (dG X.env.cells scope.names []) [] X.env.qual none .none (some X.env)) (fun cenv s₄ =>
    codeAny (model X.prog X.w) X.A (.compStart (.ListComp elt [⟨tg,iter,ifs,0⟩] scope pos) 0 it acc {cenv with scope:=relabel scope X.env}) (RR acc cenv.locals) s₄) X.xe s₃) X.xe s₂) X.xe s₁) X.xe s:=by
 refine bE (hi pins s σ H _ I h) fun v s1 h1=>bE h1 fun itv s2 h2=>?_;obtain⟨it,fp,tn,J,H2,e,I2,T,wL,f2,q⟩:=h2;subst e;refine Mh (wpAny_newFunctionEnv S.j3 (by intro y hy;simp at hy) (fun h₁ hns₁ hsb₁=>?_) S.kind)
 dsimp only at hns₁ hsb₁ ⊢;have I3:Inv X pins σ (upd H2 s2.heap.objs.size (.lst [])) {s2 with heap:=s2.heap.push {cls:=.type "list",data:=.seq ([]:List Value).toArray},toks:=s2.toks}:=I2.E7 (t':=s2.toks) .nil (Nat.zero_le _)
 have hD2:H2 s2.heap.objs.size=none:=I2.fresh;obtain⟨W,⟨m0,w0⟩,turn⟩:=q _ hD2;generalize hs3:({s2 with heap:=s2.heap.push {cls:=.type "list",data:=.seq ([]:List Value).toArray},toks:=s2.toks}:Shared)=s3 at I3
 have eh3:s3.heap=s2.heap.push {cls:=.type "list",data:=.seq ([]:List Value).toArray}:=by rw[<- hs3]
 generalize hD:s2.heap.objs.size=D at I3 turn w0 hD2 ⊢;generalize hH3:upd H2 D (.lst [])=H3 at I3 w0;rw[<- eh3] at hns₁ hsb₁ ⊢;have hC3:H3 s3.heap.objs.size=none:=I3.fresh;have hsz3:s3.heap.objs.size=D+1:=by rw[eh3,Na,hD]
 have fp2:∀ b∈fp,b<s2.heap.objs.size:=fun b hb=>by
  obtain⟨o,e,_⟩:=T.obj _ _ wL b hb;exact Lq e
 have f3:∀ b∈fp,kn X pins H3 b:=fun b hb=>by
  obtain⟨g0,g1⟩:=f2 b hb;refine⟨?_,g1⟩;rw[<- hH3,af (by rw[<- hD];exact L9 (fp2 b hb))]
  exact g0
 have neC:∀ b o,s3.heap.get? b=some o->b≠s3.heap.objs.size:=fun b o e=>L9 (Lq e);have old:∀ b o,s3.heap.get? b=some o->h₁.get? b=some o:=fun b o e=>hsb₁.extBut b o (neC b o e) (KU _ e);have hk:=S.kind;have hfr:∀ y∈scope.names,y.2=.free->∃ c,X.env.cells.lookup y.1=some c:=fun y hy hf=>I3.ok.has _ (by subst hosc;exact S.free y hy hf)
 have sub:=gL (acc:=[]) hfr (by intro x c e;simp at e)
 have JB:∀ tk,Inv (av X scope N s3.heap.objs.size s3 H3 fp) [] (List.replicate own.length none++σ) H3 {s3 with heap:=h₁,toks:=tk}:=fun tk=>by
  refine⟨⟨I3.ok.mod,S.kind,I3.ok.glob,I3.ok.blt,Lf _,fun x y c e1 e2=>I3.ok.inj x y c (sub x c e1) (sub y c e2),fun x hx=>?_,fun x c hf _=>(by cases hf),I3.ok.hd,I3.ok.frames,.inl rfl,fun b hb=>?_,I3.bs,Lr I3.ok.Ae I3.sz,fun b o e hb=>?_,fun b hb hf=>?_,I3.stack,I3.iF,I3.ok.tabs.un I3.base⟩,
   rfl,I3.bare,Un.kept old,⟨_,hns₁,fun i x v e1 e2 e3=>?_⟩,fun x c e=>?_,hC3,fun x c e=>I3.dw x c (sub x c e),fun p hp=>absurd (show p∈([]:List (Addr×Obj)) from hp) (by simp),I3.aD.kept old,?_⟩
  ·have q:=(cp (env:=X.env) x S.j3).2 hx;exact fC (PySem.mem_of_lookup q)
  ·have hb:b∈fp:=hb;obtain⟨_,g1,g2,g3,g4,g5⟩:=f3 b hb;refine⟨?_,fun x c e=>g4 x c (sub x c e)⟩;have:=fp2 b hb;show b≠s3.heap.objs.size;rw[hsz3,<- hD];exact L9 (OK this)
  ·have hb:b∈fp:=hb;obtain⟨_,g1,g2,g3,g4,g5⟩:=f3 b hb;rcases g3 with g3|g3
   ·exact I3.ok.v_ b o e g3
   ·exact absurd (L4 (Lq e) (Lr I3.ok.Ae g3)) (MH _)
  ·have hb:b∈fp:=hb;obtain⟨_,g1,g2,g3,g4,g5⟩:=f3 b hb;rcases Ll.mp (I3.jc b hf) with z|z
   ·exact g1 z
   ·exact g2 z
  ·have hi:own.length<=i:=by
    rcases M5 i own.length with hlt|hge
    ·rw[MD (by simpa using hlt),Mz] at e2
     split at e2<;>cases e2
    ·exact hge
   rw[Mq (by simpa using hi),Lp] at e2
   have e1:N[own.length+(i-own.length)]?=some x:=by rw[NB hi];exact e1
   have e1d:(N.drop own.length)[i-own.length]?=some x:=by rw[MC];exact e1
   have nl:scope.names.lookup x≠some .local:=S.own x (Mx e1d);have vis:scope.names.lookup x=some .free:=by
    rcases e3 with z|z
    ·exact absurd ((cp (env:=X.env) x S.j3).1 z) nl
    ·exact (cp (env:=X.env) x S.j3).2 z
   have hlen:=I3.len;have hlt:i-own.length<X.N.length:=by
    rw[<- hlen];exact (Li.mp e2).1
   have hxN:X.N[i-own.length]?=some x:=by
    rw[KY hlt];have mz:(X.N[i-own.length],x)∈ON.zip (N.drop own.length):=by
     rw[<- hON];refine Mx (i:=i-own.length) ?_;rw[List.getElem?_zip_eq_some];exact⟨KY hlt,e1d⟩
    rcases S.out _ mz with z|z
    ·exact LF some z
    ·exact absurd z (by rw[vis];simp)
   have hko:X.env.scope.names.lookup x=some .cell\/X.env.scope.names.lookup x=some .free:=by subst hosc;exact S.free _ (PySem.mem_of_lookup vis) rfl
   obtain⟨m,hn,hl⟩:=I3.loc;have hv:EC X.env.scope x:=by
    rcases hko with z|z
    ·exact .inr (.inl z)
    ·exact .inr (.inr z)
   obtain⟨u,ru,lk⟩:=hl _ x v hxN e2 hv;refine⟨u,ru,.inr ⟨?_,?_⟩⟩
   ·rcases e3 with z|z
    ·exact absurd ((cp (env:=X.env) x S.j3).1 z) nl
    ·exact z
   ·rcases lk with ⟨k,_⟩|⟨_,c,ec,hcell⟩
    ·exfalso
     have k':X.env.scope.names.lookup x=some .local:=k;rcases hko with z|z
     ·rw[k'] at z;cases z
     ·rw[k'] at z;cases z
    ·obtain⟨c',ec'⟩:=fC (cells:=X.env.cells) (acc:=[]) (PySem.mem_of_lookup vis);have:=sub x c' ec';rw[ec] at this;cases this;obtain⟨o,ho,hd⟩:=hcell;exact⟨c,ec',o,old c o ho,hd⟩
  ·obtain⟨v,o,ho,hd⟩:=I3.cell x c (sub x c e);exact⟨v,o,old c o ho,hd⟩
  ·show (List.replicate own.length none++σ).length=N.length;rw[S.len,KW,Lp,I3.len,hON]
 have stat:∀{H':Hp},(∀ b∈fp,H' b=none)->∀ b∈fp,kn (av X scope N s3.heap.objs.size s3 H3 fp) [] H' b:=fun {H'} hn b hb=>by
  obtain⟨_,g1,g2,g3,g4,g5⟩:=f3 b hb;refine⟨hn b hb,?_,fun hf=>?_,.inl hb,fun x c e=>g4 x c (sub x c e),fun p hp=>absurd (show p∈([]:List (Addr×Obj)) from hp) (by simp)⟩
  ·have:=fp2 b hb;show b≠s3.heap.objs.size;rw[hsz3,<- hD];exact L9 (OK this)
  ·rcases Ll.mp (I3.jc b hf) with z|z
   ·exact g1 z
   ·exact g2 z
 have st4:tn 0 h₁:=T.keep _ _ _ wL fun b hb o e=>old b o (by rw[eh3];exact KU _ e)
 have loop:∀ s4:Shared,s4={s3 with heap:=h₁,toks:=s2.toks+([]:List (Str×Value)).length} ->
   codeAny (model X.prog X.w) X.A (.compLoop (.ListComp elt [⟨tg,iter,ifs,0⟩] scope pos) 0 (.ref it) (.ref D) (av X scope N s3.heap.objs.size s3 H3 fp).env) (RR (.ref D) s3.heap.objs.size) s4:=by
  rintro s4 rfl;refine l_ (fun n s'=>∃ i ys σ' H',Inv (av X scope N s3.heap.objs.size s3 H3 fp) [] σ' H' s'/\tn i s'.heap/\(∀ b∈fp,H' b=none)/\W i n ys σ' H') ?_ m0 ⟨0,[],_,H3,JB _,st4,fun b hb=>(f3 b hb).1,w0⟩;rintro n s5 ⟨i,ys,σ5,H5,I5,st5,fr5,w5⟩;obtain⟨hD5,ways⟩:=turn i n ys σ5 H5 w5;rcases ways with ⟨stop,qn⟩|⟨go,hys,step⟩
  ·refine bE (T.done (av X scope N s3.heap.objs.size s3 H3 fp) rfl rfl rfl hc i [] s5 σ5 H5 _ I5 (stat fr5) st5 stop) fun r s6 ⟨hr,I6⟩=>?_;subst hr;obtain⟨m,hn,_⟩:=I6.loc;refine fin D _ H5 s6 m ?_ qn I6.free (Lr I3.sz (Lf _)) ?_ (fun x c e z=>?_) (fun p hp z=>?_) hn
   ·refine I3.Cb (ch:=fp) I6.os I6.base I6.aD I6.bare fun b hb=>?_;obtain⟨_,g1,g2,g3,g4,g5⟩:=f3 b hb;exact⟨g3,g1,g4,g5⟩
   ·exact Nd I3.lt
   ·obtain⟨v,o,ho,_⟩:=I3.cell x c e;exact absurd (Lq ho) (by rw[z];exact MH _)
   ·exact absurd (Lq (I3.pin p hp).1) (by rw[z];exact MH _)
  ·refine bE (T.item (av X scope N s3.heap.objs.size s3 H3 fp) rfl rfl rfl hc i [] s5 σ5 H5 _ I5 (stat fr5) st5 go) fun r s6 ⟨u,hr,h6⟩=>?_;subst hr;refine bE h6 fun _ s7 ⟨x,H7,I7,r7,y7,st7,fr7⟩=>?_;have I7':=I7.pinned (stat fr7) (T.obj _ _ st7);have back:∀{σ8:St} {H8:Hp} {s8:Shared},Inv (av X scope N s3.heap.objs.size s3 H3 fp) ([]++j0 fp s7.heap) σ8 H8 s8->tn (i+1) s8.heap/\∀ b∈fp,H8 b=none:=fun {σ8 H8 s8} I8=>by
    refine⟨T.keep _ _ _ st7 fun b hb o e=>(I8.pin (b,o) (L5 _ (L5 _ (eI hb e)))).1,fun b hb=>?_⟩;obtain⟨o,e,d⟩:=T.obj _ _ st7 b hb;exact (I8.pin (b,o) (L5 _ (L5 _ (eI hb e)))).2.1
   refine bE (hg _ _ _ _ _ s7 σ5 H7 x u _ I7' r7 (step x H7 y7)) fun _ s8 ⟨σ8,H8,I8,q8⟩=>?_;refine bE (ht _ _ _ _ _ s8 σ8 H8 _ I8 q8) fun ok s9 ⟨H9,I9,q9⟩=>?_
   cases ok with
   |false =>
    rw[K_ (by simp)] at q9 ⊢
    obtain⟨m',hm,w9⟩:=q9;exact⟨m',hm,i+1,ys,σ8,H9,I9.fm,(back I9).1,(back I9).2,w9⟩
   |true =>
    rw[Lg rfl] at q9 ⊢;refine bE (he _ _ _ _ _ s9 σ8 H9 _ I9 q9) fun y s10 ⟨v10,H10,I10,r10,hD10,m',hm,w10⟩=>?_;refine bE (cc _ s10 σ8 H10 (.ref D) [v10] (.ref D) [y] (fun r H11=>r=.aw/\H11=upd H10 D (.lst (ys++[v10]))) I10 rfl (.cons r10 .nil) ⟨D,ys,v10,rfl,rfl,hD10,hys,rfl,rfl⟩) fun _ s11 ⟨_,H11,I11,_,_,e11⟩=>?_;subst e11;exact⟨m',hm,i+1,_,σ8,_,I11.fm,(back I11).1,(back I11).2,w10⟩
 have start:=codeAny_compStart_list (R:=RR (.ref D) s3.heap.objs.size) (loop _ rfl) (T.self X.A 0 _ _ _ st4 (loop _ rfl));subst hs3;exact start
theorem AY{own:List Str}{pos:Pos}{wi:TI}{g:TG}(S:bF osc ON scope own N)(hosc:X.env.scope=osc)(hON:X.N=ON)(hc:X.calm=true)(hi:PI X tg iter wi)
  (hg:∀ C s H fp,PG (av X scope N C s H fp) tg g) (ht:∀ C s H fp,FL (av X scope N C s H fp) ifs tc) (he:∀ C s H fp,PE (av X scope N C s H fp) elt te)
  (hs:autoParam (∀ x,foldedSetIterable iter X.env x=pure x) ℜ3) :
  PE X (.ListComp elt [⟨tg,iter,ifs,0⟩] scope pos) (jr wi own.length g tc te):=by
 intro pins s σ H Q I h;have hfr:∀ y∈scope.names,y.2=.free->∃ c,X.env.cells.lookup y.1=some c:=fun y hy hf=>I.ok.has _ (by subst hosc;exact S.free y hy hf)
 rw[eval_ListComp];refine OX (use:=none) rfl hs (fH hfr) S.kind S.loc ?_;refine lE S hosc hON hc hi hg ht he I h (RR:=fun acc C=>compPost (model X.prog X.w) X.A X.xe none (EP X pins σ Q) acc C) ?_;intro D C H' s' m I' q h1 h2 h3 h4 h5 hn;exact⟨m,hn,fun h'' hs''=>⟨.ref D,H',I'.turned (t':=s'.toks) (fun b o hb e=>(hs''.2 b hb).trans e) h1 h3 (.inr h2) h4 h5,rfl,q⟩⟩
theorem pV{own:List Str}{pos spos py:Pos}{wi:TI}{g:TG}{y:Str}(hN:X.N.Nodup)(hj:X.N[j]?=some y)(hx:Loc X.env.scope y)(S:bF osc ON scope own N)(hosc:X.env.scope=osc)(hON:X.N=ON)(hc:X.calm=true)(hi:PI X tg iter wi)
  (hg:∀ C s H fp,PG (av X scope N C s H fp) tg g) (ht:∀ C s H fp,FL (av X scope N C s H fp) ifs tc) (he:∀ C s H fp,PE (av X scope N C s H fp) elt te)
  (hsw:autoParam (swapsWith (.ListComp elt [⟨tg,iter,ifs,0⟩] scope pos) (some (.Name y py)) spos.line X.env=pure true) ℜ0)
  (hf:autoParam (X.fn y=true\/X.env.scope.names.lookup y=some .local) ℜ2)
  (hs:autoParam (∀ x,foldedSetIterable iter X.env x=pure x) ℜ3) :
  PS X (.Assign [.Name y py] (.ListComp elt [⟨tg,iter,ifs,0⟩] scope pos) spos) (j6 (jr wi own.length g tc te) (bC j)):=by
 intro pins s σ H Dn I h;have hfr:∀ y∈scope.names,y.2=.free->∃ c,X.env.cells.lookup y.1=some c:=fun y hy hf=>I.ok.has _ (by subst hosc;exact S.free y hy hf)
 rw[exec_Assign_Name_used _ _ _ _ hsw];refine KR (NW (KR ?_));show wpAny _ X.A (do let _ <- comprehension (.ListComp elt [⟨tg,iter,ifs,0⟩] scope pos) scope X.env _ (newList []) false (eval iter X.env) (some (assign (.Name y py) X.env))) _ _ s
 refine KR (Mg (OX (use:=some (assign (.Name y py) X.env)) (Q:=fun _ s'=>SP X pins Dn .next s') rfl hs (fH hfr) S.kind S.loc ?_) (fun _ s' hq=>Lk (Lk hq)) fun _ _ e=>e);refine lE S hosc hON hc hi hg ht he I h (RR:=fun acc C=>compPost (model X.prog X.w) X.A X.xe (some (assign (.Name y py) X.env)) (fun _ s'=>SP X pins Dn .next s') acc C) ?_;intro D C H' s' m I' q h1 h2 h3 h4 h5 hn;show wpAny _ X.A (assign (.Name y py) X.env (.ref D)) _ _ _;refine wpAny_assign_Name (k_ I' hN hj hx (v:=.ref D) rfl (fun s'' I'' hsb=>?_) hf);obtain⟨a,sb,ha⟩:=hsb;have nC:C≠a:=by
  rcases ha with ha|ha
  ·rw[ha];exact h3
  ·exact (h4 y a ha).symm
 exact⟨m,hn.sameBut sb nC,fun h'' hs''=>⟨_,H',I''.turned (t':=s''.toks) (fun b o hb e=>(hs''.2 b hb).trans e) h1 h3 (.inr h2) h4 h5,q⟩⟩
noncomputable def bR(e:Expr):Bool:=match e with
 |.Starred ..=>false
 |_=>true
theorem bZ(h:bR e=true):starEach (e::es) env=(false,eval e env)::starEach es env:=by
 cases e<;>first|rfl|cases h
theorem plain_any{pos:Pos}:∀{es:List Expr},es.all bR=true->(backTo pos (starEach es env)).any (·.1)=false
 |[],_=>rfl
 |e::es,h=>by
  rw[L_,LS] at h;rw[bZ h.1];show (false || (backTo pos (starEach es env)).any (·.1))=false;rw[plain_any h.2];rfl
theorem plain_all{pos:Pos}:∀{es:List Expr},es.all bR=true->(backTo pos (starEach es env)).all (fun x=>!x.1)=true
 |[],_=>rfl
 |e::es,h=>by
  rw[L_,LS] at h;rw[bZ h.1];show (true && (backTo pos (starEach es env)).all (fun x=>!x.1))=true;rw[plain_all h.2];rfl
theorem Dt(h:(e::es).all bR=true)(hl:(e::es).length<30):
  ((backTo cpos (starEach (e::es) env)).all (fun x=>!x.1) && (backToKw cpos (keywordEach [] env)).all (fun x=>x.1.isSome) && decide ((e::es).length+([]:List Keyword).length+(if ([]:List Keyword).isEmpty then 0 else 1)<30))=true:=by
 rw[plain_all h];have e2:(backToKw cpos (keywordEach [] env)).all (fun x=>x.1.isSome)=true:=rfl;rw[e2];have e3:(e::es).length+([]:List Keyword).length+(if ([]:List Keyword).isEmpty then 0 else 1)<30:=hl
 rw[Mi e3];rfl
section
variable {X:Cx} {e:Expr} {es:List Expr} {te:TE} {t:TA}
theorem JQ(ha:PE X e te)(hr:PA X es t)(h:autoParam (bR e=true) ℜ0):PA X (e::es) (gf te t):=sJ ha hr (bZ h)
theorem Hk{id:String}{p pos:Pos}(hc:aF X (.builtin id) r)(hg:Gl X x)(hm:X.mg x=none)(hv:bootBuiltins x=some (.builtin id))(ha:PA X (e::es) t)(h1:autoParam (bR e=true) ℜ0)(h2:autoParam (es.all bR=true) ℜ0)(hn:autoParam (x≠"__name__") ℜ1)(hdb:autoParam ((x ==("__debug__":Str))=false) ℜ1):
  PE X (.Call (.Name x p) (e::es) [] pos) (vO r t):=yS hc hg hm hv ha hn hdb (bZ h1) (plain_any h2)
theorem HG{T:String}{p pos:Pos}(hc:aF X (.type T) r)(hg:Gl X x)(hm:X.mg x=none)(hv:bootBuiltins x=some (.type T))(ha:PA X (e::es) t)(h1:autoParam (bR e=true) ℜ0)(h2:autoParam (es.all bR=true) ℜ0)(hn:autoParam (x≠"__name__") ℜ1)(hdb:autoParam ((x ==("__debug__":Str))=false) ℜ1):
  PE X (.Call (.Name x p) (e::es) [] pos) (vO r t):=uN hc hg hm hv ha hn hdb (bZ h1) (plain_any h2)
theorem Ez{o:Expr}{to:TE}{T id:String}{r:V->List V->Hp->VK->Prop}(pa:PlainAttrs T)(slot:Slot T name id)(hty:typeOf (.builtin id)=pure (.type "method_descriptor"))(hm:uS X id r)(ho:PE X o to)(ha:PA X (e::es) t)
  (hbase:attributeBase o name X.env (eval o X.env)=eval o X.env) (hline:(apos.endLine == cpos.line)=true) (h:(e::es).all bR=true) (hl:(e::es).length<30):PE X (.Call (.Attribute o name apos) (e::es) [] cpos) (JM X.K T r to t):=by
 have h':=h;rw[L_,LS] at h';exact GF pa slot hty hm ho ha hbase (Dt h hl) hline (bZ h'.1) (plain_any h'.2)
theorem pT{a:Expr}{p pos:Pos}(hg:Gl X "range")(hm:X.mg "range"=none)(ha:PA X [a] ta)(h:autoParam (bR a=true) ℜ0):PI X tg (.Call (.Name "range" p) [a] [] pos) (yi ta):=vm hg hm ha (bZ h)
theorem qx{a b:Expr}{p pos:Pos}(hg:Gl X "range")(hm:X.mg "range"=none)(ha:PA X [a,b] ta)(h:autoParam (bR a=true) ℜ0)(h2:autoParam (bR b=true) ℜ0):PI X tg (.Call (.Name "range" p) [a,b] [] pos) (x4 ta):=uH hg hm ha (by rw[bZ h,bZ h2];rfl) (bZ h2)
end
structure HasFn (K:Qa) (mg:Str->Option Value) (x:Str) (st:Stmt) (ps:List Str):Prop where
 ex:∃(f:Addr) (fd:FuncData),zO K x x st f fd/\Binds K fd ps []/\mg x=some (.ref f)
structure ae (P:Program) (w:World) (K:Qa) (mg:Str->Option Value) (base:Heap) (CX:kX) (k:Nat) (x:Str) (ps:List Str) (sp:Sp):Prop where
 ex:∃(f:Addr) (fd:FuncData),mg x=some (.ref f)/\PySem.W.keepIn K (.ref f)=true/\Binds K fd ps []/\dC P w K mg base CX k f fd ps sp
section
variable {P:Program} {w:World} {K:Qa} {mg:Str->Option Value} {base:Heap}
theorem HasFn.ok{st:Stmt}{ps:List Str}(F:HasFn K mg x st ps)(S:aj N ps (aa st))(len:∀ vs H Q E,sp vs H Q E->vs.length=ps.length)
  (hbody:∀(f:Addr) (cdv:Value) (A:Around) (outer:List Env) (s:Shared) (H:Hp) (vs:List V) (Q:VK) (E:XK),aQ k (A.deeper (envOfC x (aa st) s.heap.objs.size f cdv))->sp vs H Q E ->
   ∃ t,qj (gy aT P w K mg base N x (aa st) f cdv A outer s H E).z_ (aS st) t/\t {nx:=fun _ H'=>Q .aw H',rt:=Q} (start N vs) H):ae P w K mg base aT (k+1) x ps sp:=by
 obtain⟨f,fd,F1,b,m⟩:=F.ex;exact⟨f,fd,m,F1.kp,b,F1.ok S len fun cdv A outer s H vs Q E hr h=>hbody f cdv A outer s H vs Q E hr h⟩
theorem ae.mono{ps:List Str}(F:ae P w K mg base CX j x ps sp)(h:j<=k):ae P w K mg base CX k x ps sp:=by
 obtain⟨f,fd,m,kp,b,G⟩:=F.ex;exact⟨f,fd,m,kp,b,G.mono h⟩
end
section
variable {X:Cx} {CX:kX} {k:Nat} {ps:List Str} {sp:Sp} {E:XK} {x:Str} {p pos:Pos} {e:Expr} {es:List Expr} {t:TA}
theorem Hq(F:ae X.prog X.w X.K X.mg X.base CX k x ps sp)(hr:aQ k X.A)(hg:Gl X x)(hx:Passes CX X E)(ha:PA X (e::es) t)(h1:autoParam (bR e=true) ℜ0)(h2:autoParam (es.all bR=true) ℜ0)(hdb:autoParam ((x ==("__debug__":Str))=false) ℜ1):
  PE X (.Call (.Name x p) (e::es) [] pos) (fI sp [] E t):=by
 obtain⟨f,fd,m,kp,b,G⟩:=F.ex;exact Bb G hr hg m kp b .nil hx ha hdb (bZ h1) (plain_any h2)
theorem E_(F:ae X.prog X.w X.K X.mg X.base CX k x ps sp)(hr:aQ k X.A)(hg:Gl X x)(hx:Passes CX X E)(hdb:autoParam ((x ==("__debug__":Str))=false) ℜ1):
  PE X (.Call (.Name x p) [] [] pos) (fI sp [] E ju):=by
 obtain⟨f,fd,m,kp,b,G⟩:=F.ex;exact xG G hr hg m kp b .nil hx hdb
end
noncomputable def EO:Expr->Option V
 |.Constant (.int i) _ _=>some (.int i)
 |.Constant (.str x) _ _=>some (.str x)
 |.Constant (.bool b) _ _=>some (.bl b)
 |.Constant .none _ _=>some .aw
 |_=>none
noncomputable def kG:List Expr->Option (List V)
 |[]=>some []
 |e::es=>match EO e,kG es with
  |some v,some vs=>some (v::vs)
  |_,_=>none
noncomputable def tK(vs:List V):TA:=fun _ H Q=>Q vs H
theorem Ey{v:V}(h:EO e=some v):PE X e (tC v)/\∀ es,starEach (e::es) X.env=(false,eval e X.env)::starEach es X.env:=by
 unfold EO at h
 split at h
 ·cases h;exact⟨i_,fun _=>rfl⟩
 ·cases h;exact⟨yG,fun _=>rfl⟩
 ·cases h;exact⟨Cz,fun _=>rfl⟩
 ·cases h;exact⟨x8,fun _=>rfl⟩
 ·cases h
theorem lL{X:Cx}:∀{es:List Expr} {vs:List V},kG es=some vs->PA X es (tK vs)
 |[],vs,h=>by cases h;exact xr
 |e::es,vs,h=>by
  unfold kG at h
  split at h
  ·rename_i v ws e1 e2;cases h;have p:=Ey (X:=X) e1;exact sJ (te:=tC v) (t:=tK ws) p.1 (lL e2) (p.2 es)
  ·cases h
noncomputable def sq(H:Hp)(p:Addr):Option (Bool×List V):=match H p with
 |some (.lst xs)=>some (true,xs)
 |some (.tup xs)=>some (false,xs)
 |some (.gK _ (.lst xs))=>some (true,xs)
 |some (.gK _ (.tup xs))=>some (false,xs)
 |_=>none
theorem mM(h:sq H p=some (true,xs)):bz K H p xs:=by
 unfold sq at h
 split at h
 ·rename_i e;cases h;exact .inl (.inl e)
 ·cases h
 ·rename_i e;cases h;exact .inl (.inr ⟨_,e⟩)
 ·cases h
 ·cases h
theorem iR(h:sq H p=some (false,xs)):aV K H p xs:=by
 unfold sq at h
 split at h
 ·cases h
 ·rename_i e;cases h;exact .inl (.inl e)
 ·cases h
 ·rename_i e;cases h;exact .inl (.inr ⟨_,e⟩)
 ·cases h
theorem gO(h:H p=some (.lst xs)):sq H p=some (true,xs):=by unfold sq;rw[h]
section
variable {X:Cx}
noncomputable def fX(K:Qa):R2:=fun x y H Q=>match x,y with
 |.int i,.int j=>Q (.int (i+j)) H
 |.str i,.str j=>i.length+j.length<=sizeLine/\Q (.str (i++j)) H
 |.ref a,.ref b=>match H a,H b with
  |some (.lst xs),some (.lst ys)=>xs.length+ys.length<=sizeLine/\∀ p,H p=none->Q (.ref p) (upd H p (.lst (xs++ys)))
  |some (.tup xs),some (.tup ys)=>xs≠[]/\ys≠[]/\xs.length+ys.length<=sizeLine/\∀ p,H p=none->Q (.ref p) (upd H p (.tup (xs++ys)))
  |_,_=>False
 |_,_=>False
theorem AG:d7 X (binaryOp .Add) (fX X.K):=by
 intro pins s σ H x y v u Q I rx ry h
 cases x with
 |int i=>cases y with
  |int j=>exact zk pins s σ H _ _ v u Q I rx ry ⟨i,j,rfl,rfl,h⟩
  |_=>exact (show False from h).elim
 |str i=>cases y with
  |str j=>exact jj pins s σ H _ _ v u Q I rx ry ⟨i,j,rfl,rfl,h.1,h.2⟩
  |_=>exact (show False from h).elim
 |ref a=>cases y with
  |ref b =>
   unfold fX at h;simp only at h
   split at h
   ·rename_i xs ys e1 e2;exact wx pins s σ H _ _ v u Q I rx ry ⟨a,b,xs,ys,rfl,rfl,e1,e2,h.1,h.2⟩
   ·rename_i xs ys e1 e2;obtain⟨h1,h2,h3,h4⟩:=h;exact sk pins s σ H _ _ v u Q I rx ry ⟨a,b,xs,ys,rfl,rfl,aV.of e1,aV.of e2,h1,h3,fun z=>absurd z h2,fun _=>h4⟩
   ·exact h.elim
  |_=>exact (show False from h).elim
 |_=>exact (show False from h).elim
noncomputable def ES:R2:=fun x y H Q=>match x,y with
 |.int i,.int j=>nL i j/\Q (.int (i*j)) H
 |.ref a,.int j=>G5 (.ref a) (.int j) H Q
 |_,_=>False
theorem sF:d7 X (binaryOp .Mult) ES:=by
 intro pins s σ H x y v u Q I rx ry h
 cases x with
 |int i=>cases y with
  |int j=>exact DD pins s σ H _ _ v u Q I rx ry ⟨i,j,rfl,rfl,h.1,h.2⟩
  |_=>exact (show False from h).elim
 |ref a=>cases y with
  |int j=>exact Dh pins s σ H _ _ v u Q I rx ry h
  |_=>exact (show False from h).elim
 |_=>exact (show False from h).elim
noncomputable def FG(K:Qa):R2:=fun x y H Q=>match x,y with
 |.str z,.int i=>z.length<=sizeLine/\(match b9 z.cps.toList i with|some c=>Q (.str ⟨#[c]⟩) H|none=>False)
 |.ref p,.int i=>match sq H p with
  |some (_,xs)=>(match b9 xs i with|some v=>Q v H|none=>False)
  |none=>∃ xs v,aV K H p xs/\b9 xs i=some v/\Q v H
 |_,_=>False
theorem KJ(hu:k<cLine):rD X (FG X.K):=by
 intro value slice pins s σ H x y v u Q I rx ry h hs;refine xu value slice pins s σ H x y v u Q I rx ry ?_ hs
 cases x with
 |str z=>cases y with
  |int i =>
   obtain⟨hz,h⟩:=h
   split at h
   ·rename_i c e;exact .inr (.inr ⟨z,i,c,rfl,rfl,hz,e,h⟩)
   ·exact h.elim
  |_=>exact (show False from h).elim
 |ref p=>cases y with
  |int i =>
   unfold FG at h;simp only at h
   split at h
   ·rename_i b xs e
    split at h
    ·rename_i w' e'
     cases b with
     |true=>exact .inl ⟨p,xs,i,w',rfl,rfl,mM e,e',h⟩
     |false=>exact .inr (.inl ⟨p,xs,i,w',rfl,rfl,iR e,e',h⟩)
    ·exact h.elim
   ·obtain⟨xs,w',hq,e',h⟩:=h;exact .inr (.inl ⟨p,xs,i,w',rfl,rfl,hq,e',h⟩)
  |_=>exact (show False from h).elim
 |_=>exact (show False from h).elim
noncomputable def Jx(K:Qa):V->Option Int->Option Int->Hp->VK->Prop:=fun x lo hi H Q=>match x with
 |.ref p=>match sq H p with
  |some (true,xs)=>∀ q,H q=none->Q (.ref q) (upd H q (.lst (n4 xs lo hi)))
  |some (false,xs)=>Be K (.ref p) lo hi H Q
  |none=>Be K (.ref p) lo hi H Q
 |_=>False
noncomputable def wQ:V->V->V->Hp->(Hp->Prop)->Prop:=fun o i v H Q=>match o,i with
 |.ref p,.int k=>match H p with
  |some (.lst xs)=>(match ji xs.length k with|some j=>Q (upd H p (.lst (xs.set j v)))|none=>False)
  |_=>False
 |_,_=>False
theorem uset:DJ X wQ:=by
 intro pins s σ H o i v ov iv u Q I ro ri rv h
 cases o with
 |ref p=>cases i with
  |int k =>
   unfold wQ at h;simp only at h
   split at h
   ·rename_i xs e
    split at h
    ·rename_i j e';exact set_list pins s σ H _ _ v ov iv u Q I ro ri rv ⟨p,xs,k,j,rfl,rfl,e,e',h⟩
    ·exact h.elim
   ·exact h.elim
  |_=>exact (show False from h).elim
 |_=>exact (show False from h).elim
noncomputable def FV:List V->Hp->VK->Prop:=fun xs H Q=>match xs with
 |[.int i,.int j]=>Q (.int (if j<i then j else i)) H
 |_=>False
theorem lu(hc:X.calm=true):aF X (.builtin "min") FV:=by
 intro pins s σ H xs us Q I r h;rcases xs with _|⟨x,_|⟨y,_|⟨z,xs⟩⟩⟩
 ·exact (show False from h).elim
 ·cases x<;>exact (show False from h).elim
 ·cases x with
  |int i=>cases y with
   |int j=>exact vg hc pins s σ H _ us Q I r ⟨i,j,rfl,h⟩
   |_=>exact (show False from h).elim
  |_=>exact (show False from h).elim
 ·cases x with
  |int i=>cases y<;>exact (show False from h).elim
  |_=>exact (show False from h).elim
noncomputable def Hh:List V->Hp->VK->Prop:=fun xs H Q=>match xs with
 |[.int i,.int j]=>Q (.int (if j > i then j else i)) H
 |_=>False
theorem vh(hc:X.calm=true):aF X (.builtin "max") Hh:=by
 intro pins s σ H xs us Q I r h;rcases xs with _|⟨x,_|⟨y,_|⟨z,zs⟩⟩⟩
 ·exact (show False from h).elim
 ·cases x<;>exact (show False from h).elim
 ·cases x with
  |int i=>cases y with
   |int j=>exact v9 hc pins s σ H _ us Q I r ⟨i,j,rfl,h⟩
   |_=>exact (show False from h).elim
  |_=>exact (show False from h).elim
 ·cases x<;>first|exact (show False from h).elim | (cases y<;>exact (show False from h).elim)
noncomputable def dO(K:Qa):List V->Hp->VK->Prop:=fun xs H Q=>match xs with
 |[.ref p]=>match sq H p with
  |some (true,ys)=>∀ l,H l=none->Q (.ref l) (upd H l (.tup ys))
  |some (false,_)=>Q (.ref p) H
  |none=>∃ ys,aV K H p ys/\Q (.ref p) H
 |_=>False
theorem oE:aF X (.type "tuple") (dO X.K):=by
 intro pins s σ H xs us Q I r h;rcases xs with _|⟨x,_|⟨y,xs⟩⟩
 ·exact (show False from h).elim
 rotate_left
 ·cases x<;>exact (show False from h).elim
 cases x with
 |ref p =>
  unfold dO at h;simp only at h
  split at h
  ·rename_i ys e;exact cK pins s σ H _ us Q I r ⟨p,ys,rfl,.inl ⟨mM e,h⟩⟩
  ·rename_i ys e;exact cK pins s σ H _ us Q I r ⟨p,ys,rfl,.inr ⟨iR e,h⟩⟩
  ·obtain⟨ys,hq,h⟩:=h;exact cK pins s σ H _ us Q I r ⟨p,ys,rfl,.inr ⟨hq,h⟩⟩
 |_=>exact (show False from h).elim
noncomputable def HS:List V->Hp->VK->Prop:=fun xs H Q=>match xs with
 |[.int i]=>Q (.int i) H
 |[.bl k]=>Q (.int (if k=true then 1 else 0)) H
 |_=>False
theorem uz:aF X (.type "int") HS:=by
 intro pins s σ H xs us Q I r h;rcases xs with _|⟨x,_|⟨y,ys⟩⟩
 ·exact (show False from h).elim
 ·cases x with
  |int i=>exact kQ pins s σ H _ us Q I r (.inl ⟨i,rfl,h⟩)
  |bl k=>exact kQ pins s σ H _ us Q I r (.inr ⟨k,rfl,h⟩)
  |_=>exact (show False from h).elim
 ·cases x<;>exact (show False from h).elim
noncomputable def Hz:List V->Hp->VK->Prop:=fun xs H Q=>match xs with
 |[.int i]=>i.natAbs.log2<1920/\Q (.str (toString i)) H
 |[.str z]=>Q (.str z) H
 |_=>False
theorem v7:aF X (.type "str") Hz:=by
 intro pins s σ H xs us Q I r h
 match xs,h with
 |[.int i],h=>exact mT pins s σ H _ us Q I r ⟨i,rfl,h.1,h.2⟩
 |[.str z],h =>
  obtain⟨u,rfl,t,rfl⟩:=vals1 r;exact PySem.P.str_of_str ⟨.str z,H,I,⟨_,rfl⟩,h⟩
theorem tT(hc:X.calm=true):aF X (.builtin "sum") (fun xs H Q=>∃(p:Addr) (ns:List Int),xs=[.ref p]/\bz X.K H p (ns.map V.int)/\Q (.int ns.sum) H):=by
 intro pins s σ H xs us Q I r h;obtain⟨p,ns,rfl,hq,q⟩:=h;obtain⟨u,rfl,ru⟩:=vals1 r;cases ru;obtain⟨its,rv,pl,hz⟩:=I.list hq;have hi:=intsAre_of rv;obtain⟨xs,hx⟩:=hi.allInts.items;have hl':s.heap.IsList p (intItems xs):=by rw[<- hx];exact pl.isList
 refine sum_intListG (I.ok.hd hc) hl' fun h' tk t' hk=>?_;have e1:ns=xs.toList.map (·.1):=by rw[<- nums_intItems,<- hx];exact hi.numsOf.symm
 have e2:preSum (numAt xs) xs.size=ns.sum:=by rw[preSum_eq,MQ (by simp),e1]
 rw[e2];exact⟨.int ns.sum,H,I.kept hk,⟨_,rfl⟩,q⟩
noncomputable def CQ(H:Hp):V->Option String
 |.aw=>some "NoneType"
 |.bl _=>some "bool"
 |.int _=>some "int"
 |.str _=>some "str"
 |.ref a=>match H a with
  |some (.lst _)=>some "list"
  |some (.tup _)=>some "tuple"
  |some (.dK _)=>some "dict"
  |_=>none
 |_=>none
theorem DW{x:V}{t:String}(h:CQ H x=some t):gb K H x (.type t):=by
 unfold CQ at h
 split at h
 ·cases h;exact .aw
 ·cases h;exact .bl _
 ·cases h;exact .int _
 ·cases h;exact .str _
 ·split at h
  ·rename_i e;cases h;exact .lst e
  ·rename_i e;cases h;exact .tup e
  ·rename_i e;cases h;exact .dK e
  ·cases h
 ·cases h
noncomputable def kC(t c:String):Bool:=decide (t=c) || (t == "bool" && c == "int")
theorem yW{t c:String}(ht:t∈["NoneType","bool","int","str","list","tuple","dict"])(hc:c∈["bool","int","str","list","tuple","dict"]):PySem.W.kitOne K (.type t) (.type c)=some (kC t c):=by
 simp only[Ll,LK,M9] at ht hc;rcases ht with rfl|rfl|rfl|rfl|rfl|rfl|rfl<;>rcases hc with rfl|rfl|rfl|rfl|rfl|rfl<;>rfl
theorem El{x:V}{t:String}(h:CQ H x=some t):t∈["NoneType","bool","int","str","list","tuple","dict"]:=by
 unfold CQ at h
 split at h
 ·cases h;decide
 ·cases h;decide
 ·cases h;decide
 ·cases h;decide
 ·split at h
  ·cases h;decide
  ·cases h;decide
  ·cases h;decide
  ·cases h
 ·cases h
noncomputable def pf(K:Qa):List V->Hp->VK->Prop:=fun xs H Q=>match xs with
 |[x,.ty T]=>T∈["bool","int","str","list","tuple","dict"]/\match CQ H x with
  |some t=>Q (.bl (kC t T)) H
  |none=>∃ t b,gb K H x t/\PySem.W.kitOne K t (.type T)=some b/\Q (.bl b) H
 |_=>False
theorem ud:aF X (.builtin "isinstance") (pf X.K):=by
 intro pins s σ H xs us Q I r h;rcases xs with _|⟨x,_|⟨y,_|⟨z,xs⟩⟩⟩
 ·exact (show False from h).elim
 ·exact (show False from h).elim
 rotate_left
 ·cases y<;>exact (show False from h).elim
 cases y with
 |ty T =>
  obtain⟨u,w',rfl,r1,r2⟩:=vals2 r;cases r2;obtain⟨hT,h⟩:=h
  split at h
  ·rename_i t e;exact kO I r1 (DW e) (yW (El e) hT) fun tk=>⟨.bl _,H,I.tok _,rfl,h⟩
  ·obtain⟨t,b,ty,k,q⟩:=h;exact kO I r1 ty k fun tk=>⟨.bl b,H,I.tok _,rfl,q⟩
 |_=>exact (show False from h).elim
theorem DA{T:String}{pos:Pos}(hg:Gl X x)(hm:X.mg x=none)(hv:bootBuiltins x=some (.type T))(hn:autoParam (x≠"__name__") ℜ1)(hd:autoParam ((x ==("__debug__":Str))=false) ℜ1):PE X (.Name x pos) (tC (.ty T)):=Bo hg hm hv rfl hn hd
noncomputable def rJoin(K:Qa):V->List V->Hp->VK->Prop:=fun x vs H Q=>∃ z l ys,x=.str z/\vs=[.ref l]/\bz K H l (ys.map V.str)/\(ys.map (·.length)).sum+ys.length*z.length<=16777216/\Q (.str (Str.join z ys)) H
theorem jA:∀{ys:List Str} {us:List Value},Vals (ys.map V.str) us->StrsAre us ys
 |[],_,.nil=>.nil
 |y::ys,_,.cons r t=>by
  obtain⟨k,rfl⟩:=r;exact .cons y k (jA t)
theorem Bh:uS X "str.join" (rJoin X.K):=by
 intro pins s σ H x xs v us Q I rx rs h;obtain⟨z,l,ys,rfl,rfl,hq,hz,q⟩:=h;obtain⟨t,rfl⟩:=rx;obtain⟨u,rfl,ru⟩:=vals1 rs;cases ru;obtain⟨its,rv,pl,_⟩:=I.list hq;refine join_list pl.isList (by simpa using jA rv) hz fun t' k=>?_
 have e:Txt.join z ys=Str.join z ys:=StrLaws.glued_eq_join z ys;rw[e];exact⟨.str _,H,I.tok _,⟨_,rfl⟩,q⟩
end
section
variable {X:Cx} {e:Expr} {te:TE}
theorem sU(p:Nat->Bool):∀(l:List Nat),l.drop (l.takeWhile p).length=l.dropWhile p
 |[]=>rfl
 |x::l=>by
  by_cases h:p x
  ·simp[List.takeWhile_cons,Oz,h,sU p l]
  ·simp[List.takeWhile_cons,Oz,h]
end
open AutoSeq1 (wpAny_loadPart')
section
variable {prog:Program} {w:World} {A:Around} {E:Value->Shared->Prop} {s:Shared}
theorem i9{x:Value}(hit:s.heap.IsTupleIter it l i)(hl:s.heap.IsTuple l items)(hx:items[i]?=some x)
  (hQ:∀ h',h'.IsTupleIter it l (i+1)->Heap.SameBut it s.heap h'->Q x {s with heap:=h'}):wpAny (model prog w) A (Builtin.SmallTypes.nextOf (.ref it)) Q E s:=by
 obtain⟨o,ho,hc,hd⟩:=id hit;obtain⟨ol,hol,_,nl,hdl⟩:=hl;unfold Builtin.SmallTypes.nextOf;refine KR (LY (name:=Str.ofString "__next__") hit.typeIs MY (Mo MY hit.typeIs O6 ?_ (O2 _)));show wpAny _ _ (field (.ref it) 0 >>= _) _ _ s;refine KR (Md ho hd (x:=.ref l) rfl ?_);show wpAny _ _ (if (Value.ref l == Value.none)=true then _ else _) _ _ s
 rw[K_ (show ¬ ((Value.ref l == Value.none)=true) from Lm)];show wpAny _ _ (field (.ref it) 1 >>= _) _ _ s;refine KR (Md ho hd (x:=.int i 0) rfl ?_);show wpAny _ _ (seqItems? (.ref l) >>= _) _ _ s;refine KR (MO hol hdl ?_);simp only[L6,hx];refine KR (NO ho hd (by simp) (Lk ⟨x,rfl,Lk (hQ _ ?_ (M3 ..))⟩))
 exact⟨_,Ny _ ho (Oa (Np hd _)),(Obj.cls_mapFields ..).trans hc,by rw[Np hd];simp[rawInt]⟩
theorem j5(hh:A.handled=none)(hit:s.heap.IsTupleIter it l i)(hl:s.heap.IsTuple l items)(hx:items[i]?=none)
  (hE:∀ h' e,Heap.ExtBut it s.heap h'->(∃ o,h'.get? e=some o/\o.cls=.type "StopIteration")->E (.ref e) {s with heap:=h'}):wpAny (model prog w) A (Builtin.SmallTypes.nextOf (.ref it)) Q E s:=by
 obtain⟨o,ho,hc,hd⟩:=id hit;obtain⟨ol,hol,_,nl,hdl⟩:=hl;unfold Builtin.SmallTypes.nextOf;refine KR (LY (name:=Str.ofString "__next__") hit.typeIs MY (Mo MY hit.typeIs O6 ?_ (O2 _)));show wpAny _ _ (field (.ref it) 0 >>= _) _ _ s;refine KR (Md ho hd (x:=.ref l) rfl ?_);show wpAny _ _ (if (Value.ref l == Value.none)=true then _ else _) _ _ s
 rw[K_ (show ¬ ((Value.ref l == Value.none)=true) from Lm)];show wpAny _ _ (field (.ref it) 1 >>= _) _ _ s;refine KR (Md ho hd (x:=.int i 0) rfl ?_);show wpAny _ _ (seqItems? (.ref l) >>= _) _ _ s;refine KR (MO hol hdl ?_);simp only[L6,hx];refine KR (OQ (KR (NO ho hd (by simp) ?_)))
 show wpAny _ _ (newExc (.type "StopIteration") [] >>= _) _ _ _;refine KR ?_;simp only[newExc,newTuple];refine KR (Mh ?_ (by size_fits))
 refine KR (m:=firstArgMember _ _) (wpAny_of_eq (a:=Value.none) (by first|rfl | (simp only[firstArgMember];rfl)) ?_)
 refine Mh ?_ (by size_fits)
 simp only[raiseNew];refine KR (wpAny_handled ?_)
 first|rw[show A.in1.handled=none from hh]|rw[hh]
 refine KR (Lk (wpAny_throw ?_));exact hE _ _ (((M3 ..).extBut.push _).push _) ⟨_,Lo _ rfl,rfl⟩
theorem hU(hh:A.handled=none)(it l:Addr)(hne:l≠it)(items:Array Value):
  Draws prog w A it [it,l] items.size (fun i v=>items[i]?=some v) (fun i h=>h.IsTupleIter it l i/\h.IsTuple l items) where
 live:=fun _ _ st=>let ⟨o,ho,_⟩:=st.1;⟨o,ho⟩
 frame:=fun _ _ _ st hk=>⟨let ⟨o,e,r⟩:=st.1;⟨o,hk it (by simp) o e,r⟩,let ⟨o,e,r⟩:=st.2;⟨o,hk l (by simp) o e,r⟩⟩
 item:=fun i s Q E hi st hQ=>by
  refine i9 st.1 st.2 (x:=items[i]) (by simp[hi]) fun h' hit' hs'=>?_
  exact hQ _ h' s.toks (by simp[hi]) ⟨hit',st.2.extBut hs'.extBut hne⟩ hs'
 done:=fun s Q E st hE=>j5 hh st.1 st.2 (by simp) hE
theorem jh(l:Addr)(items:Array Value)(n:Nat)(dct:Option Addr)(sl:Array (Option Value)):
  Meets (Builtin.«enumerate.__new__» ⟨[.type "enumerate",.ref l],[]⟩) (fun _ R s=>s.heap.get? l=some {cls:=.type "tuple",dict:=dct,data:=.seq items n,slots:=sl} /\
   R (.ok (.ret (.ref (s.heap.push {cls:=.type "tuple_iterator",data:=.fields #[.ref l,.int 0 0]}).objs.size)))
    {s with heap:=(s.heap.push {cls:=.type "tuple_iterator",data:=.fields #[.ref l,.int 0 0]}).push {cls:=.type "enumerate",data:=.fields #[.none,.bool false,.ref s.heap.objs.size,rawInt 0,.none,.none]}}):=
 .of_wp fun prog w A R s h=>by
  obtain⟨hp,g,d,tk,os⟩:=s;obtain⟨hl,h⟩:=h;have hsub:=sub_enumerate;have hL:Heap.IsTuple (Shared.heap ⟨hp,g,d,tk,os⟩) l items:=⟨_,hl,rfl,n,rfl⟩;wp_walk using Oi hl;refine wpAny_stack_any fun st=>Lk ?_;split
  ·rename_i c _ _ _ _ _
   cases (c == Value.type "enumerate")<;>(wp_walk using Oi hl,Mt hL;exact⟨_,rfl,h⟩)
  ·wp_walk using Oi hl,Mt hL;exact⟨_,rfl,h⟩
theorem kq(hL:s.heap.IsTuple l items)
  (h:∀ h',IsEnum h' (s.heap.objs.size+1) s.heap.objs.size 0 .none->h'.IsTupleIter s.heap.objs.size l 0->h'.objs.size=s.heap.objs.size+2 ->
   (∀ b o,s.heap.get? b=some o->h'.get? b=some o)->Q (.ref (s.heap.objs.size+1)) {s with heap:=h'}) :
  wpAny (model prog w) A (call (.type "enumerate") [.ref l]) Q E s:=by
 obtain⟨⟨c,dct,dt,sl⟩,hl,hc,n,hd⟩:=hL
 replace hc:c=.type "tuple":=hc
 replace hd:dt=.seq items n:=hd
 subst hc hd;refine callType_new F.called_enumerate (by decide) (F.typeCall_enumerate_1 _) (F.newCall_enumerate_1 _) (fun obj=>F.args_object_init_2 obj _) F.entry_enumerate_new (jh l items n dct sl) ⟨hl,?_⟩
 have hz:(s.heap.push {cls:=.type "tuple_iterator",data:=.fields #[.ref l,.int 0 0]}).objs.size=s.heap.objs.size+1:=Na ..;show _/\_;rw[hz];have he:IsEnum ((s.heap.push {cls:=.type "tuple_iterator",data:=.fields #[.ref l,.int 0 0]}).push {cls:=.type "enumerate",data:=.fields #[.none,.bool false,.ref s.heap.objs.size,rawInt 0,.none,.none]}) (s.heap.objs.size+1) s.heap.objs.size 0 .none:=by
  have:=Lo (s.heap.push {cls:=.type "tuple_iterator",data:=.fields #[.ref l,.int 0 0]}) (o:={cls:=.type "enumerate",data:=.fields #[.none,.bool false,.ref s.heap.objs.size,rawInt 0,.none,.none]}) rfl;rw[hz] at this;exact this
 refine⟨⟨_,he,rfl⟩,h _ he ⟨_,KU _ (Lo _ rfl),rfl,rfl⟩ (by rw[Na,hz]) fun b o x=>KU _ (KU _ x)⟩
end
section
variable {X:Cx} {pins:List (Addr×Obj)} {σ:St} {H:Hp} {s:Shared} {h':Heap}
theorem Inv.turns{t':Nat}(I:Inv X pins σ H s)(hf:∀ b∈fp,kn X pins H b)(k:∀ b o,b∉fp->s.heap.get? b=some o->h'.get? b=some o):Inv X pins σ H {s with heap:=h',toks:=t'}:=by
 have nf:∀ b u,H b=some u->b∉fp:=fun b u e z=>by rw[(hf b z).1] at e;cases e
 refine I.step (g':=s.gens) (d':=s.drawn) (ch:=fp) (fun b hb=>?_) (fun b o _ _ hc e _=>k b o hc e) (fun b o _ _ hc e _=>⟨o.slots,k b o hc e⟩) (fun _ _ _ _ n=>n)
  (fun b o hc e=>⟨o,k b o hc e⟩) (fun _ _ e=>e) (fun _ _ _ e=>e) (fun b ps e=>⟨#[],by rw[e];simp⟩) (fun m hm=>?_) (fun b u e=>?_) I.bare
 ·obtain⟨_,g1,g2,g3,g4,g5⟩:=hf b hb;exact⟨g3,g1,g4,g5⟩
 ·obtain⟨o,es,ep,ho,r⟩:=hm;exact⟨o,es,ep,k _ o (fun z=>(hf _ z).2.1 rfl) ho,r⟩
 ·refine (I.aD b u e).jz (fun c v hc q=>k c v ?_ q) (fun _ q=>q) (fun _ _ q=>q) fun _ _ _ q=>q;rcases hc with z|z
  ·rw[z];exact nf b u e
  ·exact nf c _ z
theorem Inv.mB{t':Nat}(I:Inv X pins σ H s)(hf:∀ b∈fp,kn X pins H b)(hp:s.heap.objs.size<=p)(k:∀ b o,b∉fp->s.heap.get? b=some o->h'.get? b=some o)
  (new:aU X.prog X.w (upd H p o) h' p o):Inv X pins σ (upd H p o) {s with heap:=h',toks:=t'}:=by
 have nf:∀ b u,H b=some u->b∉fp:=fun b u e z=>by rw[(hf b z).1] at e;cases e
 have fr:H p=none:=I.aD.fresh hp;have np:∀ b u,H b=some u->b≠p:=fun b u e=>ao e fr;have ne:∀ b o,s.heap.get? b=some o->b≠p:=fun b o e z=>by rw[z] at e;exact absurd (L4 (Lq e) hp) (MH _)
 refine I.step (g':=s.gens) (d':=s.drawn) (ch:=fp) (fun b hb=>?_) (fun b o _ _ hc e _=>k b o hc e) (fun b o _ _ hc e _=>⟨o.slots,k b o hc e⟩) (fun b o _ e n=>by rw[af (ne b o e)];exact n)
  (fun b o hc e=>⟨o,k b o hc e⟩) (fun b xs e=>by rw[af (np b _ e)];exact e) (fun b o u e=>by rw[af (np b _ e)];exact e) (fun b ps e=>⟨#[],by rw[af (np b _ e),e];simp⟩) (fun m hm=>?_) (fun b u e=>?_) I.bare
 ·obtain⟨_,g1,g2,g3,g4,g5⟩:=hf b hb;exact⟨g3,g1,g4,g5⟩
 ·obtain⟨o,es,ep,ho,r⟩:=hm;exact⟨o,es,ep,k _ o (fun z=>(hf _ z).2.1 rfl) ho,r⟩
 ·by_cases hb:b=p
  ·subst hb;rw[ah] at e;cases e;exact new
  ·rw[af hb] at e;refine (I.aD b u e).jz (fun c v hc q=>k c v ?_ q) (fun c q=>by rw[af (np c _ q)];exact q) (fun c xs q=>by rw[af (np c _ q)];exact q) fun c _ _ q=>by rw[af (np c _ q)];exact q
   rcases hc with z|z
   ·rw[z];exact nf b u e
   ·exact nf c _ z
end
noncomputable def getL(K:Qa)(a:Addr):Nat->Hp->V->Prop:=fun i H x=>∃ xs,bz K H a xs/\xs[i]?=some x
noncomputable def JO(K:Qa)(a:Addr):Nat->Hp->V->Prop:=fun i H x=>∃ xs,aV K H a xs/\xs[i]?=some x
noncomputable def Kh(K:Qa)(a:Addr):Nat->Hp->Prop:=fun i H=>∃ xs,bz K H a xs/\xs.length=i
noncomputable def JN(K:Qa)(a:Addr):Nat->Hp->Prop:=fun i H=>∃ xs,aV K H a xs/\xs.length=i
noncomputable def Bi(K:Qa)(a:Addr):It:=
 ⟨fun i H=>∃ x,JO K a i H x,fun i H x H'=>∃ p y,(∀ xs,aV K H a xs->xs[i]?=some y)/\H p=none/\x=.ref p/\H'=upd H p (.tup [.int i,y]),JN K a⟩
theorem qz{tk:Nat}(a it e:Addr)(hne:e≠it):Turn P w K (.Tuple es tk tp) (Bi K a) [e,it] e (fun i h=>(∃ old,IsEnum h e it i old)/\h.IsTupleIter it a i) where
 mem:=by simp
 obj:=fun i h st b hb=>by
  obtain⟨⟨old,he⟩,o,eo,c,d⟩:=st;rcases Ll.mp hb with z|z
  ·subst z;exact⟨_,he,fun v z=>by cases z⟩
  ·have z:b=it:=by simpa using z
   subst z;exact⟨o,eo,fun v z=>by rw[d] at z;cases z⟩
 keep:=fun i h h' st k=>by
  obtain⟨⟨old,he⟩,o,eo,r⟩:=st;exact⟨⟨old,k e (by simp) _ he⟩,o,k it (by simp) o eo,r⟩
 item:=by
  intro X hP hw hK hc i pins s σ H E I hf st hg;subst hP hw hK;obtain⟨x,xs,hq,hx⟩:=hg;obtain⟨⟨old,he⟩,hit⟩:=st;obtain⟨its,rv,p,hz⟩:=I.tuple hq;obtain⟨u,hu,ru⟩:=rv.get hx;obtain⟨g0,g1,g2,g3,g4,g5⟩:=hf e (by simp)
  obtain⟨f0,f1,f2,f3,f4,f5⟩:=hf it (by simp)
  have ht:s.heap.IsTuple a its.toArray:=p;have ha:a≠it:=by
   rintro rfl;obtain⟨o,e1,c1,_⟩:=hit;obtain⟨o',e2,c2,_⟩:=ht;rw[e1] at e2;cases e2;rw[c1] at c2;exact absurd (Value.type.inj c2) (by decide)
  have hea:e≠a:=by
   rintro rfl;obtain⟨o',e2,c2,_⟩:=ht;have e1:s.heap.get? e=some _:=he;rw[e1] at e2;cases e2;exact absurd (Value.type.inj c2) (by decide)
  have hi:i<its.toArray.size:=by
   have:=(Li.mp hu).1
   simpa using this
  refine Pg (hU (A:=X.A.in1) (I.ok.hd hc) it a ha its.toArray) he ⟨hit,ht⟩ hi hne (by simp[hne,hea]) fun x' h' tk' hP ho hs' hT hsz hk=>?_
  have ex:x'=u:=by
   have hP':its.toArray[i]?=some x':=hP;rw[Mj,hu] at hP';exact (Option.some.inj hP').symm
  subst ex;refine⟨.ref s.heap.objs.size,rfl,OC ho fun h2 he2 hs2=>?_⟩;have fr:H s.heap.objs.size=none:=I.aD.fresh (Lf _);have hle:e≠s.heap.objs.size:=L9 (Lq he);have hT2:h2.get? s.heap.objs.size=some {cls:=.type "tuple",data:=.seq #[.int i tk',x']}:=(hs2.2 _ (Ne.symm hle)).trans hT;have I2:Inv X pins σ (upd H s.heap.objs.size (.tup [.int i,x])) {s with heap:=h2,toks:=tk'+1}:=by
   refine I.mB (fp:=[e,it]) hf (Lf _) (fun b o hb eb=>?_) ⟨by show 2<=sizeLine;decide,[.int i tk',x'],.cons ⟨_,rfl⟩ (.cons ru .nil),⟨_,hT2,rfl,_,rfl,rfl⟩⟩
   have n1:b≠e:=fun z=>hb (by simp[z])
   have n2:b≠it:=fun z=>hb (by simp[z])
   exact (hs2.2 b n1).trans (hk b o n1 n2 eb)
  refine⟨.ref s.heap.objs.size,_,I2,rfl,⟨s.heap.objs.size,x,fun ys hy=>by rw[I.h9 hy hq];exact hx,fr,rfl,rfl⟩,⟨⟨x',?_⟩,?_⟩,fun b hb=>?_⟩
  ·have e:(((i+1:Nat)):Int)=(i:Int)+1:=by lia
   rw[e];exact he2
  ·obtain⟨o,e1,r⟩:=hs'.1;exact⟨o,(hs2.2 it (Ne.symm hne)).trans e1,r⟩
  ·have n:b≠s.heap.objs.size:=by
    rcases Ll.mp hb with z|z
    ·subst z;exact hle
    ·have z:b=it:=by simpa using z
     subst z;obtain⟨o,e1,_⟩:=hit;exact L9 (Lq e1)
   rw[af n];exact (hf b hb).1
 done:=by
  intro X hP hw hK hc i pins s σ H E I hf st hg;subst hP hw hK;obtain⟨xs,hq,hx⟩:=hg;obtain⟨⟨old,he⟩,hit⟩:=st;obtain⟨its,rv,p,hz⟩:=I.tuple hq;have ht:s.heap.IsTuple a its.toArray:=p;have ha:a≠it:=by
   rintro rfl;obtain⟨o,e1,c1,_⟩:=hit;obtain⟨o',e2,c2,_⟩:=ht;rw[e1] at e2;cases e2;rw[c1] at c2;exact absurd (Value.type.inj c2) (by decide)
  have hl:=rv.length;have hsz:its.toArray.size=i:=by simp;lia
  refine Py (hU (A:=X.A.in1) (I.ok.hd hc) it a ha its.toArray) he (by rw[hsz];exact⟨hit,ht⟩) fun h' eb=>⟨rfl,?_⟩
  exact I.turns (t':=s.toks) hf fun b o hb e1=>eb b o (fun z=>hb (by simp[z])) e1
 self:=fun A i s Q E st h=>by
  obtain⟨⟨old,he⟩,_⟩:=st;exact NP he h
section
variable {X:Cx} {es:List Expr} {tk:Nat} {tp:Pos}
noncomputable def Cm(K:Qa)(ta:TA):TI:=fun σ H R=>ta σ H fun vs H1=>∃ a,vs=[.ref a]/\(∃ xs,aV K H1 a xs)/\R (Bi K a) H1
theorem BA{p pos:Pos}(hg:Gl X "enumerate")(hm:X.mg "enumerate"=none)(ha:PA X [e] ta)(h1:autoParam (bR e=true) ℜ0)(hv:autoParam (bootBuiltins "enumerate"=some (.type "enumerate")) ℜ6):
  PI X (.Tuple es tk tp) (.Call (.Name "enumerate" p) [e] [] pos) (Cm X.K ta):=by
 intro pins s σ H R I h;refine Call_ (eE I hg hm hv (Mn (bE (ha pos pins s σ H _ I h) fun us s1 ⟨vs,H1,I1,r1,q1⟩=>?_) (bZ h1) rfl));obtain⟨a,e,⟨xs,hq⟩,q⟩:=q1;subst e;obtain⟨u,rfl,ru⟩:=vals1 r1;cases ru;obtain⟨its,rv,pt,hz⟩:=I1.tuple hq;refine kq (show s1.heap.IsTuple a its.toArray from pt) fun h' he hit hsz hk=>?_;refine NP he ?_;have I2:Inv X pins σ H1 {s1 with heap:=h'}:=I1.kept (t':=s1.toks) hk
 refine⟨s1.heap.objs.size+1,[s1.heap.objs.size+1,s1.heap.objs.size],_,_,H1,rfl,I2,qz a s1.heap.objs.size (s1.heap.objs.size+1) (Nd (Nat.lt_succ_self _)),⟨⟨_,he⟩,hit⟩,fun b hb=>?_,q⟩;have hb':s1.heap.objs.size<=b:=by
  rcases Ll.mp hb with z|z
  ·rw[z];exact Nr _
  ·have z:b=s1.heap.objs.size:=by simpa using z
   rw[z];exact Lf _
 exact I1.pF hb' (I1.aD.fresh hb')
noncomputable def zt(K:Qa)(tl:TE):TI:=fun σ H R=>tl σ H fun x H1=>match x with
 |.ref a=>match sq H1 a with
  |some (true,_)=>R (rH K a) H1
  |some (false,_)=>R (vL K a) H1
  |none=>(∃ xs,aV K H1 a xs)/\R (vL K a) H1
 |_=>False
theorem Dm{l:Expr}(hl:PE X l tl):PI X tg l (zt X.K tl):=by
 intro pins s σ H R I h;refine bE (hl pins s σ H _ I h) fun v s1 ⟨x,H1,I1,r1,q1⟩=>?_;obtain⟨a,rfl,q⟩:∃ a,x=V.ref a/\(((∃ xs,bz X.K H1 a xs)/\R (rH X.K a) H1)\/((∃ xs,aV X.K H1 a xs)/\R (vL X.K a) H1)):=by
  match x,q1 with
  |.ref a,q1 =>
   simp only at q1
   split at q1
   ·rename_i xs e;exact⟨a,rfl,.inl ⟨⟨xs,mM e⟩,q1⟩⟩
   ·rename_i xs e;exact⟨a,rfl,.inr ⟨⟨xs,iR e⟩,q1⟩⟩
   ·exact⟨a,rfl,.inr q1⟩
 cases r1;rcases q with ⟨⟨xs,hq⟩,q⟩|⟨⟨xs,hq⟩,q⟩
 ·obtain⟨its,rv,p,hz⟩:=I1.list hq;refine MG p.isList ?_;refine⟨s1.heap.objs.size,[s1.heap.objs.size],_,_,H1,rfl,I1.kept (t':=s1.toks) fun b o e=>KU _ e,kK a _,⟨_,Lo _ rfl,rfl,rfl⟩,fun b hb=>?_,q⟩;have e:b=s1.heap.objs.size:=by simpa using hb
  subst e;exact I1.pF (Lf _) (I1.aD.fresh (Lf _))
 ·obtain⟨its,rv,p,hz⟩:=I1.tuple hq;refine Mt (show s1.heap.IsTuple a its.toArray from p) ?_;refine⟨s1.heap.objs.size,[s1.heap.objs.size],_,_,H1,rfl,I1.kept (t':=s1.toks) fun b o e=>KU _ e,jP a _,⟨_,Lo _ rfl,rfl,rfl⟩,fun b hb=>?_,q⟩;have e:b=s1.heap.objs.size:=by simpa using hb
  subst e;exact I1.pF (Lf _) (I1.aD.fresh (Lf _))
end
noncomputable def Fu(J:It)(g:TG)(tb:TS)(D:Ends)(σ:St)(H:Hp):Prop:=∃ W:Nat->Nat->St->Hp->Prop,(∃ m,W 0 m σ H)/\∀ i m σ H,W i m σ H ->
 (J.stop i H/\D.nx σ H)\/(J.go i H/\∃ N:St->Hp->Prop,(∀ σ' H',N σ' H'->∃ m',m'<m/\W (i+1) m' σ' H')/\∀ x H',J.Ar i H x H'->g x σ H' fun σ2 H2=>tb {D with nx:=N,ct:=N,bk:=D.nx} σ2 H2)
theorem Au(wi:TI)(g:TG)(tb:TS)(D:Ends)(σ:St)(H:Hp):Ei wi g tb D σ H=wi σ H fun J H1=>Fu J g tb D σ H1:=rfl
noncomputable def ze(J:It)(k:Nat)(g:TG)(tc:TT)(te:TE)(Q:VK)(σ:St)(H1:Hp):Prop:=∀ D,H1 D=none ->
 ∃ W:Nat->Nat->List V->St->Hp->Prop,(∃ m,W 0 m [] (List.replicate k none++σ) (upd H1 D (.lst [])))/\∀ i m ys σ' H',W i m ys σ' H'->H' D=some (.lst ys) /\
  ((J.stop i H'/\Q (.ref D) H')\/(J.go i H'/\ys.length<sizeLine/\∀ x H2,J.Ar i H' x H2->g x σ' H2 fun σ3 H3=>tc σ3 H3 fun b H4 =>
   if b=true then te σ3 H4 fun v H5=>H5 D=some (.lst ys)/\∃ m',m'<m/\W (i+1) m' (ys++[v]) σ3 (upd H5 D (.lst (ys++[v])))
   else ∃ m',m'<m/\W (i+1) m' ys σ3 H4))
theorem xt(wi:TI)(k:Nat)(g:TG)(tc:TT)(te:TE)(σ:St)(H:Hp)(Q:VK):jr wi k g tc te σ H Q=wi σ H fun J H1=>ze J k g tc te Q σ H1:=rfl
section
variable {K:Qa} {g:TG} {tb:TS} {D:Ends} {σ:St} {H:Hp} {te:TE} {Q:VK}
theorem tU(Pv:Nat->St->Hp->Prop)(h0:Pv 0 σ H)(hl:∀ i σ H,i<=xs.length->Pv i σ H->bz K H a xs)
  (hs:∀ i x σ H,xs[i]?=some x->Pv i σ H->g x σ H fun σ2 H2=>tb {D with nx:=Pv (i+1),ct:=Pv (i+1),bk:=D.nx} σ2 H2) (hd:∀ σ H,Pv xs.length σ H->D.nx σ H):Fu (rH K a) g tb D σ H:=xq Pv h0 hl hs hd
theorem uq(hn:xs.length<=sizeLine)(Pv:Addr->Nat->List V->Hp->Prop)(h0:∀ D,H D=none->Pv D 0 [] (upd H D (.lst [])))(hD:∀ D i ys H',Pv D i ys H'->H' D=some (.lst ys)/\ys.length=i)
  (hl:∀ D i ys H',Pv D i ys H'->aV K H' a xs)
  (hs:∀ D i ys H' x (R:VK),xs[i]?=some x->Pv D i ys H'->(∀ v H5,H5 D=some (.lst ys)->Pv D (i+1) (ys++[v]) (upd H5 D (.lst (ys++[v])))->R v H5)->te (some x::σ) H' R) (hd:∀ D ys H',Pv D xs.length ys H'->Q (.ref D) H') :
  ze (vL K a) 1 (bC 0) kT te Q σ H:=by
 intro D hD0;refine⟨fun i m ys σ' H'=>m=xs.length-i/\i<=xs.length/\Pv D i ys H'/\∃ o,σ'=o::σ,⟨xs.length,by simp,LA _,h0 D hD0,none,rfl⟩,?_⟩
 rintro i m ys σ' H' ⟨rfl,hi,p,o,rfl⟩;obtain⟨hDi,hly⟩:=hD _ _ _ _ p;have q:=hl _ _ _ _ p;refine⟨hDi,?_⟩;by_cases hlt:i<xs.length
 ·refine .inr ⟨⟨xs,xs[i],q,by simp[hlt]⟩,by lia,fun x H2 y=>?_⟩
  obtain⟨rfl,y⟩:=y;unfold bC kT;dsimp only;rw[if_pos rfl];exact hs D i ys H2 x _ (y xs q) p fun v H5 q1 q2=>⟨q1,xs.length-(i+1),by lia,rfl,hlt,q2,_,rfl⟩
 ·have e:i=xs.length:=by lia
  subst e;exact .inl ⟨⟨xs,q,Lf _⟩,hd D ys H' p⟩
end
namespace Ap
theorem v5(i:Nat)(σ:St)(H:Hp)(Q:VK):L2.v5 i σ H Q=∃ v,σ[i]?=some (some v)/\Q v H:=rfl
theorem tC(v:V)(σ:St)(H:Hp)(Q:VK):L2.tC v σ H Q=Q v H:=rfl
theorem vI(r:R2)(ta tb:TE)(σ:St)(H:Hp)(Q:VK):L2.vI r ta tb σ H Q=ta σ H fun x H1=>tb σ H1 fun y H2=>r x y H2 Q:=rfl
theorem ju(σ:St)(H:Hp)(Q:List V->Hp->Prop):L2.ju σ H Q=Q [] H:=rfl
theorem gf(ta:TE)(tr:TA)(σ:St)(H:Hp)(Q:List V->Hp->Prop):L2.gf ta tr σ H Q=ta σ H fun x H1=>tr σ H1 fun xs H2=>Q (x::xs) H2:=rfl
theorem xK(t:TA)(σ:St)(H:Hp)(Q:VK):L2.xK t σ H Q=t σ H fun xs H1=>xs.length<=sizeLine/\∀ p,H1 p=none->Q (.ref p) (upd H1 p (.lst xs)):=rfl
theorem fI(sp:Sp)(dvs:List V)(E:XK)(t:TA)(σ:St)(H:Hp)(Q:VK):L2.fI sp dvs E t σ H Q=t σ H fun vs H1=>sp (vs++dvs) H1 Q E:=rfl
theorem vO(r:List V->Hp->VK->Prop)(t:TA)(σ:St)(H:Hp)(Q:VK):L2.vO r t σ H Q=t σ H fun vs H1=>r vs H1 Q:=rfl
theorem j6(te:TE)(g:TG)(D:Ends)(σ:St)(H:Hp):L2.j6 te g D σ H=te σ H fun x H1=>g x σ H1 D.nx:=rfl
theorem bC(i:Nat)(v:V)(σ:St)(H:Hp)(Q:St->Hp->Prop):L2.bC i v σ H Q=Q (σ.set i (some v)) H:=rfl
theorem zJ(to ti:TE)(t:BE)(v:V)(σ:St)(H:Hp)(Q:St->Hp->Prop):L2.zJ to ti t v σ H Q=to σ H fun o H1=>ti σ H1 fun i H2=>t o i v H2 fun H3=>Q σ H3:=rfl
theorem oK(K:Qa)(n:Nat)(t:rF)(v:V)(σ:St)(H:Hp)(Q:St->Hp->Prop):L2.oK K n t v σ H Q=∃ a xs,v=.ref a/\aV K H a xs/\xs.length=n/\t xs σ H Q:=rfl
theorem eR(t:TG)(u:rF)(v:V)(vs:List V)(σ:St)(H:Hp)(Q:St->Hp->Prop):L2.eR t u (v::vs) σ H Q=t v σ H fun σ' H'=>u vs σ' H' Q:=by
 refine propext ⟨fun⟨a,b,e,h⟩=>?_,fun h=>⟨v,vs,rfl,h⟩⟩
 cases e;exact h
theorem oY(σ:St)(H:Hp)(Q:St->Hp->Prop):L2.oY [] σ H Q=Q σ H:=propext ⟨fun h=>h.2,fun h=>⟨rfl,h⟩⟩
theorem xS(te:TE)(D:Ends)(σ:St)(H:Hp):L2.xS te D σ H=te σ H D.rt:=rfl
theorem zt(K:Qa)(tl:TE)(σ:St)(H:Hp)(R:It->Hp->Prop):L2.zt K tl σ H R=tl σ H fun x H1=>match x with
 |.ref a=>match sq H1 a with
  |some (true,_)=>R (rH K a) H1
  |some (false,_)=>R (vL K a) H1
  |none=>(∃ xs,aV K H1 a xs)/\R (vL K a) H1
 |_=>False:=rfl
theorem HZ(K:Qa)(i j:Int)(H:Hp)(Q:VK):fX K (.int i) (.int j) H Q=Q (.int (i+j)) H:=rfl
theorem Jc(K:Qa)(b:Bool)(H:Hp)(k:Bool):wO K (.bl b) H k=(k=b):=rfl
theorem Jp(K:Qa)(i:Int)(H:Hp)(k:Bool):wO K (.int i) H k=(k=(i != 0)):=rfl
end Ap
noncomputable def KB(ex:List Addr)(H H':Hp):Prop:=∀ b o,H b=some o->b∉ex->H' b=some o
theorem KB.refl(ex:List Addr)(H:Hp):KB ex H H:=fun _ _ e _=>e
theorem KB.trans{H2:Hp}(a:KB ex H H1)(b:KB ex H1 H2):KB ex H H2:=fun c o e n=>b c o (a c o e n) n
theorem KB.new(h:H p=none):KB ex H (upd H p o):=fun b u e _=>by rw[af (ao e h)];exact e
theorem KB.set(h:p∈ex):KB ex H (upd H p o):=fun b u e n=>by rw[af (fun (z:b=p)=>n (by rw[z];exact h))];exact e
theorem KB.free(h:KB ex H H')(n:b∉ex)(e:H' b=none):H b=none:=by
 cases q:H b with
 |none=>rfl
 |some o=>rw[h b o q n] at e;cases e
theorem Ha(x:α)(r:List α):b9 (x::r) 0=some x:=b6 (j:=0) rfl
theorem GZ(a x:α)(r:List α):b9 (a::x::r) 1=some x:=b6 (j:=1) rfl
theorem HC(a b x:α)(r:List α):b9 (a::b::x::r) 2=some x:=b6 (j:=2) rfl
theorem HJ(a b c x:α)(r:List α):b9 (a::b::c::x::r) 3=some x:=b6 (j:=3) rfl
theorem EN{i:Int}(h0:0<=i)(h:i<n):ji n i=some i.toNat:=by unfold ji;rw[Lg h0,Lg h]
namespace Ap
theorem BW(K:Qa)(p:Addr)(i:Int)(H:Hp)(Q:VK):FG K (.ref p) (.int i) H Q=(match sq H p with
  |some (_,xs)=>(match b9 xs i with|some v=>Q v H|none=>False)
  |none=>∃ xs v,aV K H p xs/\b9 xs i=some v/\Q v H):=rfl
theorem setRef(p:Addr)(k:Int)(v:V)(H:Hp)(Q:Hp->Prop):wQ (.ref p) (.int k) v H Q=(match H p with
  |some (.lst xs)=>(match ji xs.length k with|some j=>Q (upd H p (.lst (xs.set j v)))|none=>False)
  |_=>False):=rfl
theorem Dl(K:Qa)(p:Addr)(H:Hp)(Q:VK):dO K [.ref p] H Q=(match sq H p with
  |some (true,ys)=>∀ l,H l=none->Q (.ref l) (upd H l (.tup ys))
  |some (false,_)=>Q (.ref p) H
  |none=>∃ ys,aV K H p ys/\Q (.ref p) H):=rfl
end Ap
theorem HP{t u:TS}(h:∀ N,N=u D->t {D with nx:=N} σ H):DN t u D σ H:=h _ rfl
structure QE (X:Cx) (e:Expr) (t:TE):Prop where h:PE X e t
structure QT (X:Cx) (e:Expr) (t:TT):Prop where h:PT X e t
structure QW (X:Cx) (e:Expr) (t:TT):Prop where h:PW X e t
structure QA (X:Cx) (es:List Expr) (t:TA):Prop where h:PA X es t
structure QS (X:Cx) (st:Stmt) (t:TS):Prop where h:PS X st t
structure QB (X:Cx) (sts:List Stmt) (t:TS):Prop where h:qj X sts t
structure QI (X:Cx) (tg it:Expr) (t:TI):Prop where h:PI X tg it t
structure QG (X:Cx) (e:Expr) (t:TG):Prop where h:PG X e t
structure HD (X:Cx) (es:List Expr) (t:rF):Prop where h:Fw X es t
structure QO (X:Cx) (e:Option Expr) (t:TO):Prop where h:PO X e t
structure Fy (X:Cx) (es:List Expr) (t:TT):Prop where h:FL X es t
namespace Z
noncomputable def sim(b:Expr):Bool:=match b with
 |.Name .. |.Constant .. |.Call .. |.BinOp .. |.Subscript .. |.Attribute .. |.UnaryOp .. |.Compare .. |.IfExp ..=>true
 |_=>false
theorem Jv{b:Expr}(h:sim b=true):t5 b:=by
 cases b<;>first | (intro _ _;rfl)|cases h
noncomputable def Ia(b:Expr):Bool:=match b with
 |.Name .. |.Call .. |.Subscript .. |.Attribute ..=>true
 |_=>false
theorem ptr{b:Expr}(h:Ia b=true):∀ whole,isTrue b env whole=(do let v <- whole;standAt b.pos;holding [v] (truthy v)):=by
 cases b<;>first | (intro _;rfl)|cases h
noncomputable def C4(b:Expr):Bool:=match b with
 |.ListComp .. |.SetComp .. |.DictComp ..=>false
 |_=>true
theorem Ku{b:Expr}{tg:Option Expr}{l:Nat}(h:C4 b=true):swapsWith b tg l env=pure false:=by
 cases b<;>first|rfl|cases h
section
variable {X:Cx}
theorem HQ(K:Qa)(hK:X.K=K):d7 X (binaryOp .Add) (fX K):=by subst hK;exact AG
theorem Ef(K:Qa)(hK:X.K=K)(hu:k<cLine):rD X (FG K):=by subst hK;exact KJ hu
theorem G_(K:Qa)(hK:X.K=K):aF X (.builtin "isinstance") (pf K):=by subst hK;exact ud
theorem sM(K:Qa)(hK:X.K=K):aF X (.type "tuple") (dO K):=by subst hK;exact oE
end
section
variable {X:Cx} {a b c e o:Expr} {es:List Expr} {ta tb tc te to:TE} {t:TA} {pos p p2:Pos} {tA tB':TT} {rest:List Expr} {x:Str}
theorem int{i:Int}:QE X (.Constant (.int i) j pos) (tC (.int i)):=⟨i_⟩
theorem bl{i:Bool}:QE X (.Constant (.bool i) j pos) (tC (.bl i)):=⟨Cz⟩
theorem aw:QE X (.Constant .none j pos) (tC .aw):=⟨x8⟩
theorem str{i:Str}:QE X (.Constant (.str i) j pos) (tC (.str i)):=⟨yG⟩
theorem v(i:Nat)(hN:autoParam (X.N[i]?=some x) ℜ0)(hv:autoParam (EC X.env.scope x) ℜ4)(hd:autoParam ((x ==("__debug__":Str))=false) ℜ1)
  (hcd:autoParam ((x ==("__classdict__":Str))=false) ℜ1):QE X (.Name x pos) (v5 i):=⟨pv i hN hv hd hcd⟩
theorem glob{w:V}{u:Value}(hg:Gl X x)(hm:X.mg x=some u)(r:RelV w u)(hd:autoParam ((x ==("__debug__":Str))=false) ℜ1):QE X (.Name x pos) (tC w):=⟨mi hg hm r hd⟩
theorem op{o:Operator}{r:R2}(ho:d7 X (binaryOp o) r)(ha:QE X a ta)(hb:QE X b tb):QE X (.BinOp a o b pos) (vI r ta tb):=⟨Gp ho ha.h hb.h⟩
theorem un{o:UnaryOp}{r:V->Hp->VK->Prop}(ho:Iw X (unaryOp o) r)(ha:QE X a ta):QE X (.UnaryOp o a pos) (Kw r ta):=⟨HV ho ha.h⟩
theorem cmp{o:CmpOp}{r:R2}(ho:d7 X (compareOp o) r)(ha:QE X a ta)(hb:QE X b tb)(hm:autoParam (behindInMarks o b=false) ℜ0):QE X (.Compare a [o] [b] pos) (vI r ta tb):=⟨Ax ho ha.h hb.h hm⟩
theorem FP(hc:QT X c tA)(ha:QE X a ta)(hb:QE X b tb):QE X (.IfExp c a b pos) (Kk tA ta tb):=⟨wA hc.h ha.h hb.h⟩
theorem slice{r:V->Option Int->Option Int->Hp->VK->Prop}{tl th:TO}(hr:vM X r)(he:QE X e te)(hl:QO X lo tl)(hu:QO X hi th):QE X (.Subscript e (.Slice lo hi none p2) pos) (Kx r te tl th):=⟨vR hr he.h hl.h hu.h⟩
theorem EF:QO X none rW:=⟨si⟩
theorem DR(he:QE X e te):QO X (some e) (CV te):=⟨mJ he.h⟩
theorem ix{r:R2}(hr:rD X r)(ha:QE X a ta)(hb:QE X b tb)(hs:autoParam (sim b=true) ℜ0):QE X (.Subscript a b pos) (vI r ta tb):=⟨xV hr ha.h hb.h (Jv hs)⟩
theorem tup(h:QA X es t):QE X (.Tuple es k pos) (G0 t):=⟨Ee h.h⟩
theorem lst(h:QA X es t):QE X (.List es pos) (xK t):=⟨Em h.h⟩
theorem nil:QA X [] ju:=⟨xr⟩
theorem cons(ha:QE X e te)(hr:QA X es t)(h:autoParam (bR e=true) ℜ0):QA X (e::es) (gf te t):=⟨JQ ha.h hr.h h⟩
theorem consts(h:kG es=some vs):QA X es (tK vs):=⟨lL h⟩
theorem cb{id:String}(hc:aF X (.builtin id) r)(hg:Gl X x)(hm:X.mg x=none)(hv:bootBuiltins x=some (.builtin id))(ha:QA X (e::es) t)(h1:autoParam (bR e=true) ℜ0)(h2:autoParam (es.all bR=true) ℜ0)(hn:autoParam (x≠"__name__") ℜ1)(hdb:autoParam ((x ==("__debug__":Str))=false) ℜ1):
  QE X (.Call (.Name x p) (e::es) [] pos) (vO r t):=⟨Hk hc hg hm hv ha.h h1 h2 hn hdb⟩
theorem ct{T:String}(hc:aF X (.type T) r)(hg:Gl X x)(hm:X.mg x=none)(hv:bootBuiltins x=some (.type T))(ha:QA X (e::es) t)(h1:autoParam (bR e=true) ℜ0)(h2:autoParam (es.all bR=true) ℜ0)(hn:autoParam (x≠"__name__") ℜ1)(hdb:autoParam ((x ==("__debug__":Str))=false) ℜ1):
  QE X (.Call (.Name x p) (e::es) [] pos) (vO r t):=⟨HG hc hg hm hv ha.h h1 h2 hn hdb⟩
theorem K7{T:String}(hg:Gl X x)(hm:X.mg x=none)(hv:bootBuiltins x=some (.type T))(hn:autoParam (x≠"__name__") ℜ1)(hd:autoParam ((x ==("__debug__":Str))=false) ℜ1):QE X (.Name x pos) (tC (.ty T)):=⟨DA hg hm hv hn hd⟩
theorem fn{ps:List Str}{E:XK}(F:ae X.prog X.w X.K X.mg X.base CX k x ps sp)(hr:aQ k X.A)(hg:Gl X x)(hx:Passes CX X E)(ha:QA X (e::es) t)(h1:autoParam (bR e=true) ℜ0)(h2:autoParam (es.all bR=true) ℜ0)(hdb:autoParam ((x ==("__debug__":Str))=false) ℜ1):
  QE X (.Call (.Name x p) (e::es) [] pos) (fI sp [] E t):=⟨Hq F hr hg hx ha.h h1 h2 hdb⟩
theorem JG{ps:List Str}{E:XK}(F:ae X.prog X.w X.K X.mg X.base CX k x ps sp)(hr:aQ k X.A)(hg:Gl X x)(hx:Passes CX X E)(hdb:autoParam ((x ==("__debug__":Str))=false) ℜ1):
  QE X (.Call (.Name x p) [] [] pos) (fI sp [] E ju):=⟨E_ F hr hg hx hdb⟩
theorem bm(K:Qa)(hK:X.K=K){T id:String}{r:V->List V->Hp->VK->Prop}(pa:PlainAttrs T)(slot:Slot T name id)(hty:typeOf (.builtin id)=pure (.type "method_descriptor"))(hm:uS X id r)(ho:QE X o to)(ha:QA X (e::es) t)
  (hbase:autoParam (attributeBase o name X.env (eval o X.env)=eval o X.env) ℜ0) (hline:autoParam ((apos.endLine == pos.line)=true) ℜ0) (h:autoParam ((e::es).all bR=true) ℜ0) (hl:autoParam ((e::es).length<30) ℜ1):QE X (.Call (.Attribute o name apos) (e::es) [] pos) (JM K T r to t):=by
 subst hK;exact⟨Ez pa slot hty hm ho.h ha.h hbase hline h hl⟩
theorem comp{own:List Str}{wi:TI}{g:TG}{tc:TT}(S:bF osc ON scope own N)(hosc:X.env.scope=osc)(hON:X.N=ON)(hc:X.calm=true)(hi:QI X tg iter wi)
  (hg:∀ C s H fp,QG (av X scope N C s H fp) tg g) (ht:∀ C s H fp,Fy (av X scope N C s H fp) ifs tc) (he:∀ C s H fp,QE (av X scope N C s H fp) elt te) (hs:autoParam (∀ x,foldedSetIterable iter X.env x=pure x) ℜ3) :
  QE X (.ListComp elt [⟨tg,iter,ifs,0⟩] scope pos) (jr wi own.length g tc te):=⟨AY S hosc hON hc hi.h (fun C s H fp=>(hg C s H fp).h) (fun C s H fp=>(ht C s H fp).h) (fun C s H fp=>(he C s H fp).h) hs⟩
theorem bD{o:CmpOp}{r:R2}(ho:d7 X (compareOp o) r)(ha:QE X a ta)(hb:QE X b tb)(hm:autoParam (behindInMarks o b=false) ℜ0):QT X (.Compare a [o] [b] pos) (ym (vI r ta tb)):=⟨BD ho ha.h hb.h hm⟩
theorem tw(h:QW X e tA):QT X e tA:=⟨h.h.pt⟩
theorem uF(ha:QT X a tA):QT X (.UnaryOp .Not a pos) (GC tA):=⟨CZ ha.h⟩
noncomputable def JX(K:Qa)(ta:TE):TT:=fun σ H Q=>ta σ H fun x H'=>∃ k,wO K x H' k/\Q k H'
theorem Dq(K:Qa)(hK:X.K=K)(ha:QE X a ta)(he:autoParam (Ia a=true) ℜ0):QT X a (JX K ta):=by subst hK;exact⟨yI ha.h (ptr he)⟩
theorem nK(ha:QT X a tA):QW X (.BoolOp .And [a] pos) tA:=⟨BB ha.h⟩
theorem yE(ha:QT X a tA):QW X (.BoolOp .Or [a] pos) tA:=⟨E1 ha.h⟩
theorem xA(ha:QT X a tA)(hb:QW X (.BoolOp .And (b::rest) pos) tB'):QW X (.BoolOp .And (a::b::rest) pos) (DH tA tB'):=⟨ER ha.h hb.h⟩
theorem GL(ha:QT X a tA)(hb:QW X (.BoolOp .Or (b::rest) pos) tB'):QW X (.BoolOp .Or (a::b::rest) pos) (JA tA tB'):=⟨Gh ha.h hb.h⟩
theorem ax(hN:X.N.Nodup)(hi:X.N[i]?=some x)(hx:Loc X.env.scope x)(hf:autoParam (X.fn x=true\/X.env.scope.names.lookup x=some .local) ℜ2):QG X (.Name x pos) (bC i):=⟨zW hN hi hx hf⟩
theorem pZ(K:Qa)(hK:X.K=K){tg:rF}(hc:X.calm=true)(h:HD X es tg)(hn:autoParam ((assignEach es X.env).length=n) ℜ0)(hst:autoParam ((assignEach es X.env).findIdx? (·.1)=none) ℜ0):QG X (.Tuple es k pos) (oK K n tg):=by subst hK;exact⟨xN hc h.h hn hst⟩
theorem eQ:HD X [] oY:=⟨BR⟩
theorem aW{g:TG}{u:rF}(h1:QG X e g)(h2:HD X es u)(hs:autoParam ((assignEach (e::es) X.env).map (·.2)=assign e X.env::(assignEach es X.env).map (·.2)) ℜ0):HD X (e::es) (eR g u):=⟨xc h1.h h2.h hs⟩
theorem qm{i:Expr}{ti:TE}(ho:QE X o to)(hi:QE X i ti)
  (ha:autoParam (∀ v,assign (.Subscript o i pos) X.env v=(do
   let ov <- holding [v] (eval o X.env)
   let iv <- holding [v,ov] (eval i X.env)
   standAt pos
   holding [v,ov,iv] (setItem ov iv v)
   release [v,ov,iv] [])) ℜ3):QG X (.Subscript o i pos) (zJ to ti wQ):=⟨Dj ho.h hi.h uset ha⟩
theorem kE{ta:TA}(hg:Gl X "range")(hm:X.mg "range"=none)(ha:QA X [a] ta)(h:autoParam (bR a=true) ℜ0):QI X tg (.Call (.Name "range" p) [a] [] pos) (yi ta):=⟨pT hg hm ha.h h⟩
theorem E3{ta:TA}(hg:Gl X "range")(hm:X.mg "range"=none)(ha:QA X [a,b] ta)(h:autoParam (bR a=true) ℜ0)(h2:autoParam (bR b=true) ℜ0):QI X tg (.Call (.Name "range" p) [a,b] [] pos) (x4 ta):=⟨qx hg hm ha.h h h2⟩
theorem enum(K:Qa)(hK:X.K=K){ta:TA}(hg:Gl X "enumerate")(hm:X.mg "enumerate"=none)(ha:QA X [e] ta)(h1:autoParam (bR e=true) ℜ0):QI X (.Tuple es k tp) (.Call (.Name "enumerate" p) [e] [] pos) (Cm K ta):=by subst hK;exact⟨BA hg hm ha.h h1⟩
theorem any(K:Qa)(hK:X.K=K){l:Expr}(hl:QE X l tl):QI X tg l (zt K tl):=by subst hK;exact⟨Dm hl.h⟩
theorem mZ:Fy X [] kT:=⟨Am⟩
theorem JF(h:QT X c tA):Fy X [c] tA:=⟨BU h.h⟩
end
section
variable {X:Cx} {e o tg:Expr} {te to:TE} {st:Stmt} {sts xs ys:List Stmt} {t u:TS} {pos pos':Pos} {x:Str}
theorem cW:QB X [] Ct:=⟨BO⟩
theorem ay(h:QS X st t):QB X [st] t:=⟨AR h.h⟩
theorem ai(h:QS X st t)(h2:QB X sts u):QB X (st::sts) (DN t u):=⟨yg h.h h2.h⟩
theorem set(hN:X.N.Nodup)(hi:X.N[i]?=some x)(hx:Loc X.env.scope x)(he:QE X e te)(hs:autoParam (C4 e=true) ℜ0)(hf:autoParam (X.fn x=true\/X.env.scope.names.lookup x=some .local) ℜ2):
  QS X (.Assign [.Name x pos'] e pos) (j6 te (bC i)):=⟨EE hN hi hx he.h (Ku hs) hf⟩
theorem setC{own:List Str}{p2:Pos}{wi:TI}{g:TG}(hN:X.N.Nodup)(hj:X.N[j]?=some x)(hx:Loc X.env.scope x)(S:bF osc ON scope own N)(hosc:X.env.scope=osc)(hON:X.N=ON)(hc:X.calm=true)(hi:QI X tg iter wi)
  (hg:∀ C s H fp,QG (av X scope N C s H fp) tg g) (ht:∀ C s H fp,Fy (av X scope N C s H fp) ifs tc) (he:∀ C s H fp,QE (av X scope N C s H fp) elt te)
  (hsw:autoParam (swapsWith (.ListComp elt [⟨tg,iter,ifs,0⟩] scope p2) (some (.Name x pos')) pos.line X.env=pure true) ℜ0)
  (hf:autoParam (X.fn x=true\/X.env.scope.names.lookup x=some .local) ℜ2) (hs:autoParam (∀ x,foldedSetIterable iter X.env x=pure x) ℜ3) :
  QS X (.Assign [.Name x pos'] (.ListComp elt [⟨tg,iter,ifs,0⟩] scope p2) pos) (j6 (jr wi own.length g tc te) (bC j)):=⟨pV hN hj hx S hosc hON hc hi.h (fun C s H fp=>(hg C s H fp).h) (fun C s H fp=>(ht C s H fp).h) (fun C s H fp=>(he C s H fp).h) hsw hf hs⟩
theorem asg{g:TG}(he:QE X e te)(hg:QG X tg g)(hs:autoParam (swapsWithSole [tg] e pos.line X.env=pure false) ℜ0)(hw:autoParam (swappedStores [tg] e X.env=pure none) ℜ0)
  (h1:autoParam ((assignEach [tg] X.env).map (·.2)=[assign tg X.env]) ℜ0):QS X (.Assign [tg] e pos) (j6 te g):=⟨DV he.h hg.h hs hw h1⟩
theorem ret(he:QE X e te):QS X (.Return (some e) pos) (xS te):=⟨EZ he.h⟩
theorem expr(he:QE X e te)(hs:autoParam (C4 e=true) ℜ0):QS X (.Expr e pos) (Cn te):=⟨AH he.h (Ku hs)⟩
theorem hW{c:Expr}(hc:QT X c tc)(ha:QB X xs t)(hb:QB X ys u):QS X (.If c xs ys pos) (GD tc t u):=⟨Gv hc.h ha.h hb.h⟩
theorem e_{wi:TI}{g:TG}(hp:PassesOwn (model X.prog X.w) X.A X.env X.xe)(hc:X.calm=true)(hi:QI X tg iter wi)(hg:QG X tg g)(hb:QB X xs t)(hs:autoParam (∀ x,foldedSetIterable iter X.env x=pure x) ℜ3):QS X (.For tg iter xs [] pos) (Ei wi g t):=⟨EH hp hc hi.h hg.h hb.h hs⟩
theorem jS{c:Expr}(hp:PassesOwn (model X.prog X.w) X.A X.env X.xe)(hc:QT X c tc)(hb:QB X xs t):QS X (.While c xs [] pos) (ya tc t):=⟨yp hp hc.h hb.h⟩
end
end Z
theorem HasFn.Ks{st:Stmt}{ps:List Str}(F:HasFn K mg x st ps)(S:aj N ps (aa st))(len:∀ vs H Q E,sp vs H Q E->vs.length=ps.length)
  (hbody:∀(f:Addr) (cdv:Value) (A:Around) (outer:List Env) (s:Shared) (H:Hp) (vs:List V) (Q:VK) (E:XK),aQ k (A.deeper (envOfC x (aa st) s.heap.objs.size f cdv))->sp vs H Q E ->
   ∃ t,QB (gy aT P w K mg base N x (aa st) f cdv A outer s H E).z_ (aS st) t/\t {nx:=fun _ H'=>Q .aw H',rt:=Q} (start N vs) H):ae P w K mg base aT (k+1) x ps sp:=
 F.ok S len fun f cdv A outer s H vs Q E hr h=>let ⟨t,q,r⟩:=hbody f cdv A outer s H vs Q E hr h;⟨t,q.h,r⟩
theorem Bp{st:Stmt}{ps:List Str}(F:zO K x x st f fd)(S:aj N ps (aa st))(len:∀ vs H Q E,sp vs H Q E->vs.length=ps.length)
  (hbody:∀(cdv:Value) (A:Around) (outer:List Env) (s:Shared) (H:Hp) (vs:List V) (Q:VK) (E:XK),aQ k (A.deeper (envOfC x (aa st) s.heap.objs.size f cdv))->sp vs H Q E ->
   ∃ t,QB (gy aT P w K mg base N x (aa st) f cdv A outer s H E).z_ (aS st) t/\t {nx:=fun _ H'=>Q .aw H',rt:=Q} (start N vs) H):dC P w K mg base aT (k+1) f fd ps sp:=
 F.ok S len fun cdv A outer s H vs Q E hr h=>let ⟨t,q,r⟩:=hbody cdv A outer s H vs Q E hr h;⟨t,q.h,r⟩
noncomputable def kl(e:Addr)(cls:Value)(d:Option Addr)(h:Heap):Prop:=∃ o vs,h.get? e=some o/\o.cls=cls/\o.dict=d/\o.data=.fields vs
inductive T where
 |aw|bl (b:Bool)|int (i:Int)|str (x:Str)|tup (ts:List T)|lst (ts:List T)|dU (ts:List T)|dB (lo hi:Int)|dk (ts:List T)|n9 (ks:List Key) (ts:List T)|exc (c:Value) (f:Option (Str×Int))
variable{c:T}{args ts:List T}
abbrev aE:=Addr->Prop
variable{B B' B1:aE}{Src:Hp->aE->Prop}
noncomputable def GV(K:Qa)(a:Addr)(xs:List V):Prop:=∃(o:Obj) (its:Array Value) (n:Nat),K.lookup a=some o/\o.cls=.type "tuple"/\o.data=.seq its n/\its.size<=sizeLine/\Vals xs its.toList
noncomputable def KQ(K:Qa)(a:Addr)(xs:List V):Prop:=∃(o:Obj) (its:Array Value) (n:Nat),K.lookup a=some o/\o.cls=.type "list"/\o.dict=none/\o.data=.seq its n/\its.size<=sizeLine/\Vals xs its.toList
noncomputable def LB(K:Qa)(H:Hp)(B:aE)(a:Addr)(xs:List V):Prop:=(¬ B a/\Rd H a (.lst xs))\/KQ K a xs
mutual
inductive Rep (K:Qa) (H:Hp) (B:aE):V->T->Prop
 |aw:Rep K H B .aw .aw
 |bl (b:Bool):Rep K H B (.bl b) (.bl b)
 |int (i:Int):Rep K H B (.int i) (.int i)
 |str (x:Str):Rep K H B (.str x) (.str x)
 |tup {a:Addr} {vs:List V} {ts:List T} (n:¬ B a) (h:H a=some (.tup vs)) (r:ak K H B vs ts):Rep K H B (.ref a) (.tup ts)
 |dk {a:Addr} {vs:List V} {ts:List T} (h:GV K a vs) (r:ak K H B vs ts):Rep K H B (.ref a) (.dk ts)
 |lst {a:Addr} {vs:List V} {ts:List T} (n:¬ B a) (h:H a=some (.lst vs)) (r:ak K H B vs ts):Rep K H B (.ref a) (.lst ts)
 |dU {a:Addr} {vs:List V} {ts:List T} (h:LB K H B a vs) (r:ak K H B vs ts):Rep K H B (.ref a) (.dU ts)
 |dB {a:Addr} {lo hi:Int} (n:¬ B a) (h:H a=some (.dB lo hi)):Rep K H B (.ref a) (.dB lo hi)
 |n9 {a:Addr} {ks:List Key} {vs:List V} {ts:List T} (n:¬ B a) (h:Rd H a (.dK (ks.zip vs))) (l:ks.length=vs.length) (r:ak K H B vs ts):Rep K H B (.ref a) (.n9 ks ts)
 |exc {a:Addr} {c:Value} (n:¬ B a) (h:H a=some (.ext (kl a c none))):Rep K H B (.ref a) (.exc c none)
 |AV {a d:Addr} {c:Value} {x:Str} {i:Int} (n:¬ B a) (h:H a=some (.ext (kl a c (some d)))) (m:¬ B d) (g:H d=some (.xd [(x,.int i)])):Rep K H B (.ref a) (.exc c (some (x,i)))
inductive ak (K:Qa) (H:Hp) (B:aE):List V->List T->Prop
 |nil:ak K H B [] []
 |cons {v:V} {t:T} {vs:List V} {ts:List T} (h:Rep K H B v t) (r:ak K H B vs ts):ak K H B (v::vs) (t::ts)
end
noncomputable def Fr(B:aE)(H:Hp)(B':aE)(H':Hp):Prop:=∀ b o,H b=some o->¬ B b->H' b=some o/\¬ B' b
theorem Fr.refl:Fr B H B H:=fun _ _ h n=>⟨h,n⟩
theorem Fr.trans{B2:aE}{H2:Hp}(a:Fr B H B1 H1)(b:Fr B1 H1 B2 H2):Fr B H B2 H2:=fun c o h n=>let ⟨h1,n1⟩:=a c o h n;b c o h1 n1
theorem Fr.same(s:ba H H'):Fr B H B H':=fun b o h n=>⟨s b o h,n⟩
theorem Fr.less(s:∀ b,B' b->B b):Fr B H B' H:=fun b o h n=>⟨h,fun z=>n (s b z)⟩
theorem Fr.set(h:B a):Fr B H B (upd H a o):=fun b u e n=>⟨by rw[af (by rintro rfl;exact n h)];exact e,n⟩
theorem ba.new(h:H p=none):ba H (upd H p o):=fun b u e=>by rw[af (ao e h)];exact e
theorem Fr.more(h:H p=none):Fr B H (fun b=>b=p\/B b) (upd H p o):=fun b u e n=>⟨ba.new h b u e,fun z=>z.elim (ao e h) n⟩
theorem Rd.fr{u:HO}(f:Fr B H B' H')(n:¬ B a)(h:Rd H a u):¬ B' a/\Rd H' a u:=by
 rcases h with h|⟨o,h⟩
 ·exact⟨(f a _ h n).2,.inl (f a _ h n).1⟩
 ·exact⟨(f a _ h n).2,.inr ⟨o,(f a _ h n).1⟩⟩
section
variable {K:Qa} {H H':Hp} {B B':aE}
theorem LB.fr(f:Fr B H B' H')(h:LB K H B a xs):LB K H' B' a xs:=h.elim (fun z=>.inl (z.2.fr f z.1)) .inr
theorem LB.sq(h:LB K H B a xs):bz K H a xs:=h.elim (fun z=>.inl z.2) .inr
mutual
theorem Rep.fr(f:Fr B H B' H'):∀{v:V} {t:T},Rep K H B v t->Rep K H' B' v t
 |_,_,.aw=>.aw
 |_,_,.bl b=>.bl b
 |_,_,.int i=>.int i
 |_,_,.str x=>.str x
 |_,_,.tup n h r=>.tup (f _ _ h n).2 (f _ _ h n).1 (ak.fr f r)
 |_,_,.dk h r=>.dk h (ak.fr f r)
 |_,_,.lst n h r=>.lst (f _ _ h n).2 (f _ _ h n).1 (ak.fr f r)
 |_,_,.dU h r=>.dU (h.fr f) (ak.fr f r)
 |_,_,.dB n h=>.dB (f _ _ h n).2 (f _ _ h n).1
 |_,_,.n9 n h l r=>.n9 (Rd.fr f n h).1 (Rd.fr f n h).2 l (ak.fr f r)
 |_,_,.exc n h=>.exc (f _ _ h n).2 (f _ _ h n).1
 |_,_,.AV n h m g=>.AV (f _ _ h n).2 (f _ _ h n).1 (f _ _ g m).2 (f _ _ g m).1
theorem ak.fr(f:Fr B H B' H'):∀{vs:List V} {ts:List T},ak K H B vs ts->ak K H' B' vs ts
 |_,_,.nil=>.nil
 |_,_,.cons h r=>.cons (Rep.fr f h) (ak.fr f r)
end
theorem ak.length:∀{vs:List V} {ts:List T},ak K H B vs ts->vs.length=ts.length
 |_,_,.nil=>rfl
 |_,_,.cons _ r=>LF (·+1) (ak.length r)
theorem ak.get:∀{vs:List V} {ts:List T} {i:Nat} {t:T},ak K H B vs ts->ts[i]?=some t->∃ v,vs[i]?=some v/\Rep K H B v t
 |_,_,_,_,.nil,e=>by simp at e
 |_,_,0,_,.cons h _,e=>by simp at e;subst e;exact⟨_,rfl,h⟩
 |_,_,i+1,_,.cons _ r,e=>by
  obtain⟨v,e1,h⟩:=ak.get r (by simpa using e)
  exact⟨v,by simpa using e1,h⟩
theorem ak.append:∀{vs ws:List V} {ts us:List T},ak K H B vs ts->ak K H B ws us->ak K H B (vs++ws) (ts++us)
 |_,_,_,_,.nil,s=>s
 |_,_,_,_,.cons h r,s=>.cons h (ak.append r s)
theorem ak.take:∀{vs:List V} {ts:List T} (n:Nat),ak K H B vs ts->ak K H B (vs.take n) (ts.take n)
 |_,_,0,_=>.nil
 |_,_,_+1,.nil=>.nil
 |_,_,n+1,.cons h r=>.cons h (ak.take n r)
theorem ak.drop:∀{vs:List V} {ts:List T} (n:Nat),ak K H B vs ts->ak K H B (vs.drop n) (ts.drop n)
 |_,_,0,r=>r
 |_,_,_+1,.nil=>.nil
 |_,_,n+1,.cons _ r=>ak.drop n r
theorem ak.set:∀{vs:List V} {ts:List T} {v:V} {t:T} (i:Nat),Rep K H B v t->ak K H B vs ts->ak K H B (vs.set i v) (ts.set i t)
 |_,_,_,_,_,_,.nil=>.nil
 |_,_,_,_,0,h,.cons _ r=>.cons h r
 |_,_,_,_,i+1,h,.cons q r=>.cons q (ak.set i h r)
theorem ak.rep(r:ak K H B vs ts):∀ n:Nat,ak K H B (List.replicate n vs).flatten (List.replicate n ts).flatten
 |0=>.nil
 |n+1=>by rw[LC,LC,LX,LX];exact r.append (ak.rep r n)
theorem ak.erase:∀{vs:List V} {ts:List T} (i:Nat),ak K H B vs ts->ak K H B (vs.eraseIdx i) (ts.eraseIdx i)
 |_,_,_,.nil=>.nil
 |_,_,0,.cons _ r=>r
 |_,_,i+1,.cons h r=>.cons h (ak.erase i r)
theorem ak.b9{i:Int}{t:T}(r:ak K H B vs ts)(e:L2.b9 ts i=some t):∃ v,L2.b9 vs i=some v/\Rep K H B v t:=by
 unfold L2.b9 at e ⊢;rw[r.length]
 cases q:ji ts.length i with
 |none=>rw[q] at e;cases e
 |some j=>rw[q] at e;exact r.get e
end
noncomputable def bf:T->Bool
 |.aw|.bl _|.int _|.str _=>true
 |_=>false
theorem Rep.flat{v:V}{t:T}(h:Rep K H B v t)(f:bf t=true):Rep K H' B' v t:=by
 cases h with
 |aw=>exact .aw
 |bl b=>exact .bl b
 |int i=>exact .int i
 |str x=>exact .str x
 |tup=>cases f
 |dk=>cases f
 |lst=>cases f
 |dU=>cases f
 |dB=>cases f
 |n9=>cases f
 |exc=>cases f
 |AV=>cases f
theorem ak.flat:∀{vs:List V} {ts:List T},ak K H B vs ts->ts.all bf=true->ak K H' B' vs ts
 |_,_,.nil,_=>.nil
 |_,_,.cons h r,f=>by
  rw[L_,LS] at f;exact .cons (h.flat f.1) (ak.flat r f.2)
noncomputable def Bx(K:Qa)(H:Hp)(B:aE)(a:Addr)(c:T):Prop:=match c with
 |.lst ts=>∃ vs,H a=some (.lst vs)/\ak K H B vs ts
 |.n9 ks ts=>∃ vs,H a=some (.dK (ks.zip vs))/\ks.length=vs.length/\ak K H B vs ts
 |_=>False
theorem Bx.fq(h:Bx K H B a c):∃ o,H a=some o:=by
 unfold Bx at h
 split at h
 ·obtain⟨vs,e,_⟩:=h;exact⟨_,e⟩
 ·obtain⟨vs,e,_⟩:=h;exact⟨_,e⟩
 ·exact h.elim
theorem Bx.of(h:Bx K H B a c)(e:H' a=H a)(f:Fr B H B' H'):Bx K H' B' a c:=by
 unfold Bx at h ⊢
 split at h
 ·obtain⟨vs,q,r⟩:=h;exact⟨vs,e.trans q,r.fr f⟩
 ·obtain⟨vs,q,l,r⟩:=h;exact⟨vs,e.trans q,l,r.fr f⟩
 ·exact h.elim
theorem Bx.is(h:Bx K H B a c):(∃ ts vs,c=.lst ts/\H a=some (.lst vs)/\ak K H B vs ts)\/∃ ks ts vs,c=.n9 ks ts/\H a=some (.dK (ks.zip vs))/\ks.length=vs.length/\ak K H B vs ts:=by
 unfold Bx at h
 split at h
 ·obtain⟨vs,q,r⟩:=h;exact .inl ⟨_,vs,rfl,q,r⟩
 ·obtain⟨vs,q,l,r⟩:=h;exact .inr ⟨_,_,vs,rfl,q,l,r⟩
 ·exact h.elim
theorem Bx.rep(h:Bx K H B a c)(n:¬ B a):Rep K H B (.ref a) c:=by
 rcases h.is with ⟨ts,vs,rfl,e,r⟩|⟨ks,ts,vs,rfl,e,l,r⟩
 ·exact .lst n e r
 ·exact .n9 n (.inl e) l r
inductive Sl where
 |un|tr (t:T)|bx (c:T)|pb (c:T)
abbrev Mu:=List Sl
variable{μ μ' μ1:Mu}{dr:Mu->Mu}
inductive R where
 |tr (t:T)|br (i:Nat)|fr (c:T)
structure Fx where
 K:Qa
 H0:Hp
 P:Nat->Option Addr
 Bc:aE
 bh:∀ b,Bc b->∃ o,H0 b=some o
 G:Addr->Option (List V)
variable{F:Fx}
noncomputable def iC(F:Fx)(ad:Nat->Addr)(B:aE)(H:Hp)(i:Nat)(s:Sl)(x:Option (Option V)):Prop:=match s with
 |.un=>True
 |.tr t=>∃ v,x=some (some v)/\Rep F.K H B v t
 |.bx c=>x=some (some (.ref (ad i)))/\B (ad i)/\F.H0 (ad i)=none/\F.P i=none/\Bx F.K H B (ad i) c
 |.pb c=>x=some (some (.ref (ad i)))/\B (ad i)/\F.P i=some (ad i)/\Bx F.K H B (ad i) c
noncomputable def Sl.box:Sl->Option T
 |.bx c=>some c
 |.pb c=>some c
 |_=>none
structure Rl (F:Fx) (ad:Nat->Addr) (B:aE) (σ:St) (H:Hp) (μ:Mu):Prop where
 len:μ.length=σ.length
 slot:∀ i s,μ[i]?=some s->iC F ad B H i s σ[i]?
 inj:∀ i j s u c d,μ[i]?=some s->μ[j]?=some u->s.box=some c->u.box=some d->ad i=ad j->i=j
 par:∀ i a,F.P i=some a->(∃ c,μ[i]?=some (.pb c))/\ad i=a
 bc:∀ b,F.Bc b->B b
 fq:∀ b,B b->∃ o,H b=some o
 old:∀ b o,F.H0 b=some o->(∀ i,F.P i≠some b)->H b=some o
 gh:∀ a vs,F.G a=some vs->H a=some (.lst vs)/\B a/\∀(i:Nat) (s:Sl) (c:T),μ[i]?=some s->s.box=some c->ad i≠a
theorem iC.boxed{s:Sl}{x:Option (Option V)}(h:iC F ad B H i s x)(e:s.box=some c):x=some (some (.ref (ad i)))/\B (ad i)/\Bx F.K H B (ad i) c/\(F.P i=some (ad i)\/F.H0 (ad i)=none):=by
 unfold iC at h
 split at h
 ·cases e
 ·cases e
 ·cases e;exact⟨h.1,h.2.1,h.2.2.2.2,.inr h.2.2.1⟩
 ·cases e;exact⟨h.1,h.2.1,h.2.2.2,.inl h.2.2.1⟩
noncomputable def Hv(F:Fx)(ad:Nat->Addr)(B:aE)(H:Hp)(μ:Mu)(v:V)(r:R):Prop:=match r with
 |.tr t=>Rep F.K H B v t
 |.br i=>v=.ref (ad i)/\∃ s c,μ[i]?=some s/\s.box=some c
 |.fr _=>False
noncomputable def more(B:aE)(a:Addr):aE:=fun b=>b=a\/B b
noncomputable def Vr(F:Fx)(ad:Nat->Addr)(B:aE)(σ:St)(H:Hp)(μ:Mu)(v:V)(r:R):Prop:=match r with
 |.fr c=>Rl F ad B σ H μ/\∃ a,v=.ref a/\¬ B a/\F.H0 a=none/\Rl F ad (more B a) σ H μ/\Bx F.K H (more B a) a c
 |r=>Rl F ad B σ H μ/\Hv F ad B H μ v r
noncomputable def R.d:R->R
 |.fr c=>.tr c
 |r=>r
section
variable {F:Fx} {ad:Nat->Addr} {B B':aE} {σ:St} {H H':Hp} {μ:Mu} {v:V} {r:R}
theorem Rl.BL(h:Rl F ad B σ H μ)(e:H p=none):F.H0 p=none:=by
 cases q:F.H0 p with
 |none=>rfl
 |some o =>
  by_cases z:∃ i,F.P i=some p
  ·obtain⟨i,z⟩:=z;obtain⟨⟨c,hc⟩,ha⟩:=h.par i p z;have:=(h.slot i _ hc).boxed (c:=c) rfl;obtain⟨o',e'⟩:=h.fq _ this.2.1;rw[ha,e] at e';cases e'
  ·have:=h.old p o q fun i zi=>z ⟨i,zi⟩;rw[e] at this;cases this
theorem Rl.kj(h:Rl F ad B σ H μ)(e:H p=none):¬ B p:=fun z=>by
 obtain⟨o,q⟩:=h.fq p z;rw[e] at q;cases q
theorem Rl.fr(h:Rl F ad B σ H μ)(s:ba H H')(hB:∀ b,B b->B' b)(hT:∀ b,B' b->∃ o,H' b=some o)(f:Fr B H B' H'):Rl F ad B' σ H' μ:=by
 refine⟨h.len,fun i s' e=>?_,h.inj,h.par,fun b z=>hB b (h.bc b z),hT,fun b o e n=>s b o (h.old b o e n),fun a vs e=>let ⟨g1,g2,g3⟩:=h.gh a vs e;⟨s a _ g1,hB a g2,g3⟩⟩
 have k:=h.slot i s' e;unfold iC at k ⊢
 split at k
 ·trivial
 ·obtain⟨v,e1,r⟩:=k;exact⟨v,e1,r.fr f⟩
 ·obtain⟨e1,b,z,p,x⟩:=k;obtain⟨o,q⟩:=x.fq;exact⟨e1,hB _ b,z,p,x.of ((s _ _ q).trans q.symm) f⟩
 ·obtain⟨e1,b,p,x⟩:=k;obtain⟨o,q⟩:=x.fq;exact⟨e1,hB _ b,p,x.of ((s _ _ q).trans q.symm) f⟩
theorem Rl.same(h:Rl F ad B σ H μ)(s:ba H H'):Rl F ad B σ H' μ:=h.fr s (fun _ z=>z) (fun b z=>let ⟨o,e⟩:=h.fq b z;⟨o,s b o e⟩) (Fr.same s)
theorem Rl.new(h:Rl F ad B σ H μ)(e:H p=none):Rl F ad (more B p) σ (upd H p o) μ:=
 h.fr (ba.new e) (fun _ z=>.inr z) (fun b z=>z.elim (fun q=>by subst q;exact⟨o,ah⟩) fun q=>let ⟨u,w⟩:=h.fq b q;⟨u,ba.new e b u w⟩) (Fr.more e)
theorem Rl.less(h:Rl F ad B σ H μ)(s:∀ b,B' b->B b)(hb:∀ b,F.Bc b->B' b)(own:∀ i s' c,μ[i]?=some s'->s'.box=some c->B' (ad i))(hg:∀ a vs,F.G a=some vs->B' a):Rl F ad B' σ H μ:=by
 refine⟨h.len,fun i s' e=>?_,h.inj,h.par,hb,fun b z=>h.fq b (s b z),h.old,fun a vs e=>let ⟨g1,g2,g3⟩:=h.gh a vs e;⟨g1,hg a vs e,g3⟩⟩
 have k:=h.slot i s' e;unfold iC at k ⊢
 split at k
 ·trivial
 ·obtain⟨v,e1,r⟩:=k;exact⟨v,e1,r.fr (Fr.less s)⟩
 ·obtain⟨e1,b,z,p,x⟩:=k;exact⟨e1,own i _ _ e rfl,z,p,x.of rfl (Fr.less s)⟩
 ·obtain⟨e1,b,p,x⟩:=k;exact⟨e1,own i _ _ e rfl,p,x.of rfl (Fr.less s)⟩
theorem Vr.rl(h:Vr F ad B σ H μ v r):Rl F ad B σ H μ:=by
 cases r with
 |tr t=>exact h.1
 |br i=>exact h.1
 |fr c=>exact h.1
theorem Vr.hv(h:Vr F ad B σ H μ v r):Hv F ad B H μ v r.d:=by
 cases r with
 |tr t=>exact h.2
 |br i=>exact h.2
 |fr c =>
  obtain⟨_,a,rfl,n,_,_,x⟩:=h;exact (x.of rfl (Fr.less fun _ z=>.inr z)).rep n
noncomputable def Kp(μ μ':Mu):Prop:=∀ i:Nat,((μ[i]?).bind Sl.box).isSome=((μ'[i]?).bind Sl.box).isSome
theorem Kp.refl(μ:Mu):Kp μ μ:=fun i=>rfl
theorem Kp.trans{μ2:Mu}(a:Kp μ μ1)(b:Kp μ1 μ2):Kp μ μ2:=fun i=>(a i).trans (b i)
theorem Kp.symm(a:Kp μ μ1):Kp μ1 μ:=fun i=>(a i).symm
theorem Kp.fwd(k:Kp μ μ'):∀(i:Nat) (s:Sl) (c:T),μ[i]?=some s->s.box=some c->∃(s':Sl) (c':T),μ'[i]?=some s'/\s'.box=some c':=fun i s c e b=>by
 have h:=k i;rw[e] at h;have h1:(s.box).isSome=((μ'[i]?).bind Sl.box).isSome:=h;rw[b] at h1
 cases q:μ'[i]? with
 |none=>rw[q] at h1;cases h1
 |some s' =>
  rw[q] at h1;have h2:true=(s'.box).isSome:=h1
  cases q2:s'.box with
  |none=>rw[q2] at h2;cases h2
  |some c'=>exact⟨s',c',rfl,q2⟩
theorem Kp.set{s s':Sl}{d:T}(e:μ[i]?=some s)(b:s.box=some c)(b':s'.box=some d):Kp μ (μ.set i s'):=fun j=>by
 have hi:i<μ.length:=(Li.mp e).1;by_cases z:i=j
 ·subst z;rw[Mc hi,e];show (s.box).isSome=(s'.box).isSome;rw[b,b'];rfl
 ·rw[Mw z]
theorem Hv.fr(h:Hv F ad B H μ v r)(f:Fr B H B' H')(k:Kp μ μ'):Hv F ad B' H' μ' v r:=by
 cases r with
 |tr t=>exact Rep.fr f h
 |br i=>obtain⟨e,s,c,h1,h2⟩:=h;exact⟨e,k.fwd i s c h1 h2⟩
 |fr c=>exact h.elim
noncomputable def cont(μ:Mu):R->Option T
 |.tr t=>some t
 |.br i=>(μ[i]?).bind Sl.box
 |.fr c=>some c
inductive Vw (K:Qa) (H:Hp) (B:aE):V->T->Prop
 |aw:Vw K H B .aw .aw
 |bl (b:Bool):Vw K H B (.bl b) (.bl b)
 |int (i:Int):Vw K H B (.int i) (.int i)
 |str (x:Str):Vw K H B (.str x) (.str x)
 |tup {a:Addr} {vs:List V} {ts:List T} (h:H a=some (.tup vs)) (r:ak K H B vs ts):Vw K H B (.ref a) (.tup ts)
 |dk {a:Addr} {vs:List V} {ts:List T} (h:GV K a vs) (r:ak K H B vs ts):Vw K H B (.ref a) (.dk ts)
 |lst {a:Addr} {vs:List V} {ts:List T} (h:H a=some (.lst vs)) (r:ak K H B vs ts):Vw K H B (.ref a) (.lst ts)
 |dU {a:Addr} {vs:List V} {ts:List T} (h:bz K H a vs) (r:ak K H B vs ts):Vw K H B (.ref a) (.dU ts)
 |dB {a:Addr} {lo hi:Int} (h:H a=some (.dB lo hi)):Vw K H B (.ref a) (.dB lo hi)
 |n9 {a:Addr} {ks:List Key} {vs:List V} {ts:List T} (h:Rd H a (.dK (ks.zip vs))) (l:ks.length=vs.length) (r:ak K H B vs ts):Vw K H B (.ref a) (.n9 ks ts)
 |exc {a:Addr} {c:Value} (h:H a=some (.ext (kl a c none))):Vw K H B (.ref a) (.exc c none)
 |AV {a d:Addr} {c:Value} {x:Str} {i:Int} (h:H a=some (.ext (kl a c (some d)))) (g:H d=some (.xd [(x,.int i)])):Vw K H B (.ref a) (.exc c (some (x,i)))
theorem Rep.vw{t:T}(h:Rep K H B v t):Vw K H B v t:=by
 cases h with
 |aw=>exact .aw
 |bl b=>exact .bl b
 |int i=>exact .int i
 |str x=>exact .str x
 |tup n h r=>exact .tup h r
 |dk h r=>exact .dk h r
 |lst n h r=>exact .lst h r
 |dU h r=>exact .dU h.sq r
 |dB n h=>exact .dB h
 |n9 n h l r=>exact .n9 h l r
 |exc n h=>exact .exc h
 |AV n h m g=>exact .AV h g
theorem Hv.vw{t:T}(l:Rl F ad B σ H μ)(h:Hv F ad B H μ v r)(e:cont μ r=some t):Vw F.K H B v t:=by
 cases r with
 |tr u=>cases e;exact Rep.vw h
 |br i =>
  obtain⟨rfl,s,c,h1,h2⟩:=h;have e2:(μ[i]?).bind Sl.box=some t:=e;rw[h1] at e2;have e':s.box=some t:=e2;rcases ((l.slot i s h1).boxed e').2.2.1.is with ⟨ts,vs,rfl,q,rr⟩|⟨ks,ts,vs,rfl,q,ll,rr⟩
  ·exact .lst q rr
  ·exact .n9 (.inl q) ll rr
 |fr c=>exact h.elim
noncomputable def Sl.put:Sl->T->Sl
 |.bx _,c=>.bx c
 |.pb _,c=>.pb c
 |s,_=>s
theorem Sl.gI{s:Sl}{d:T}(e:s.box=some c):(s.put d).box=some d:=by
 cases s<;>first|rfl|cases e
theorem Rl.put{s:Sl}(l:Rl F ad B σ H μ)(e:μ[i]?=some s)(hb:s.box=some c)(r:ak F.K H B vs ts):Rl F ad B σ (upd H (ad i) (.lst vs)) (μ.set i (s.put (.lst ts))):=by
 have k0:=(l.slot i s e).boxed hb;have hi:i<μ.length:=(Li.mp e).1;have f:Fr B H B (upd H (ad i) (.lst vs)):=Fr.set k0.2.1;have get:∀ j,(μ.set i (s.put (.lst ts)))[j]?=if j=i then some (s.put (.lst ts)) else μ[j]?:=fun j=>by
  rw[NQ];by_cases z:i=j
  ·subst z;simp[hi]
  ·rw[K_ z,K_ (fun q=>z q.symm)]
 refine⟨by rw[Mm];exact l.len,fun j s' e'=>?_,fun j k s1 s2 c1 c2 e1 e2 b1 b2 q=>?_,fun j a p=>?_,l.bc,fun b z=>?_,fun b o e' n=>?_,fun a ws ga=>?_⟩
 ·rw[get] at e';by_cases z:j=i
  ·subst z;rw[Lg rfl] at e';cases e';have k:=l.slot j s e
   cases s with
   |un=>cases hb
   |tr t=>cases hb
   |bx d=>exact⟨k.1,k.2.1,k.2.2.1,k.2.2.2.1,vs,ah,r.fr f⟩
   |pb d=>exact⟨k.1,k.2.1,k.2.2.1,vs,ah,r.fr f⟩
  ·rw[K_ z] at e';have k:=l.slot j s' e';have ne:∀ d,s'.box=some d->ad j≠ad i:=fun d hd q=>z (l.inj j i s' s d c e' e hd hb q);unfold iC at k ⊢
   split at k
   ·trivial
   ·obtain⟨v,e1,r1⟩:=k;exact⟨v,e1,r1.fr f⟩
   ·obtain⟨e1,b,z0,p,x⟩:=k;exact⟨e1,b,z0,p,x.of (af (ne _ rfl)) f⟩
   ·obtain⟨e1,b,p,x⟩:=k;exact⟨e1,b,p,x.of (af (ne _ rfl)) f⟩
 ·rw[get] at e1 e2;have h1:∃ u d,μ[j]?=some u/\u.box=some d:=by
   by_cases z:j=i
   ·subst z;exact⟨s,c,e,hb⟩
   ·rw[K_ z] at e1;exact⟨_,_,e1,b1⟩
  have h2:∃ u d,μ[k]?=some u/\u.box=some d:=by
   by_cases z:k=i
   ·subst z;exact⟨s,c,e,hb⟩
   ·rw[K_ z] at e2;exact⟨_,_,e2,b2⟩
  obtain⟨u1,d1,g1,g2⟩:=h1;obtain⟨u2,d2,g3,g4⟩:=h2;exact l.inj j k u1 u2 d1 d2 g1 g3 g2 g4 q
 ·obtain⟨⟨d,hd⟩,ha⟩:=l.par j a p;refine⟨?_,ha⟩;rw[get];by_cases z:j=i
  ·subst z;rw[e] at hd;cases hd;rw[Lg rfl];exact⟨_,rfl⟩
  ·rw[K_ z];exact⟨d,hd⟩
 ·by_cases z':b=ad i
  ·subst z';exact⟨_,ah⟩
  ·rw[af z'];exact l.fq b z
 ·have ne:b≠ad i:=by
   rintro rfl;rcases k0.2.2.2 with z|z
   ·exact n i z
   ·rw[z] at e';cases e'
  rw[af ne];exact l.old b o e' n
 ·obtain⟨g1,g2,g3⟩:=l.gh a ws ga;refine⟨by rw[af (fun z=>g3 i s c e hb z.symm)];exact g1,g2,fun j s' d e' b'=>?_⟩
  rw[get] at e';by_cases z:j=i
  ·subst z;exact g3 j s c e hb
  ·rw[K_ z] at e';exact g3 j s' d e' b'
theorem Rl.DO{t:T}(l:Rl F ad B σ H μ)(hp:∀ c,μ[i]?≠some (.pb c))(h:Rep F.K H B v t):Rl F ad B (σ.set i (some v)) H (μ.set i (.tr t)):=by
 have get:∀ j,i<μ.length->(μ.set i (.tr t))[j]?=if j=i then some (.tr t) else μ[j]?:=fun j hi=>by
  rw[NQ];by_cases z:i=j
  ·subst z;simp[hi]
  ·rw[K_ z,K_ (fun q=>z q.symm)]
 by_cases hi:i<μ.length
 ·refine⟨by rw[Mm,Mm];exact l.len,fun j s' e'=>?_,fun j k s1 s2 c1 c2 e1 e2 b1 b2 q=>?_,fun j a p=>?_,l.bc,l.fq,l.old,fun a ws ga=>?_⟩
  ·rw[get j hi] at e';by_cases z:j=i
   ·subst z;rw[Lg rfl] at e';cases e';exact⟨v,by rw[Mc (by rw[<- l.len];exact hi)],h⟩
   ·rw[K_ z] at e';rw[Mw (Ne.symm z)];exact l.slot j s' e'
  ·rw[get j hi] at e1;rw[get k hi] at e2;by_cases z:j=i
   ·rw[Lg z] at e1;cases e1;cases b1
   ·by_cases z2:k=i
    ·rw[Lg z2] at e2;cases e2;cases b2
    ·rw[K_ z] at e1;rw[K_ z2] at e2;exact l.inj j k _ _ _ _ e1 e2 b1 b2 q
  ·obtain⟨⟨d,hd⟩,ha⟩:=l.par j a p;refine⟨⟨d,?_⟩,ha⟩;rw[get j hi];by_cases z:j=i
   ·subst z;exact absurd hd (hp d)
   ·rw[K_ z];exact hd
  ·obtain⟨g1,g2,g3⟩:=l.gh a ws ga;refine⟨g1,g2,fun j s' d e' b'=>?_⟩;rw[get j hi] at e';by_cases z:j=i
   ·rw[Lg z] at e';cases e';cases b'
   ·rw[K_ z] at e';exact g3 j s' d e' b'
 ·have hs:σ.length<=i:=by rw[<- l.len];lia
  rw[Ng (show μ.length<=i by lia),Ng hs]
  exact l
theorem Rl.setB(l:Rl F ad (more B a) σ H μ)(hp:∀ c,μ[i]?≠some (.pb c))(h0:F.H0 a=none)(n:¬ B a)(own:∀ j s c,μ[j]?=some s->s.box=some c->B (ad j))(gB:∀ b vs,F.G b=some vs->B b)(x:Bx F.K H (more B a) a c):
  Rl F (fun j=>if j=i then a else ad j) (more B a) (σ.set i (some (.ref a))) H (μ.set i (.bx c)):=by
 have get:∀ j,i<μ.length->(μ.set i (.bx c))[j]?=if j=i then some (.bx c) else μ[j]?:=fun j hi=>by
  rw[NQ];by_cases z:i=j
  ·subst z;simp[hi]
  ·rw[K_ z,K_ (fun q=>z q.symm)]
 have pi:F.P i=none:=by
  cases q:F.P i with
  |none=>rfl
  |some b =>
   obtain⟨⟨d,hd⟩,_⟩:=l.par i b q;exact absurd hd (hp d)
 by_cases hi:i<μ.length
 ·refine⟨by rw[Mm,Mm];exact l.len,fun j s' e'=>?_,fun j k s1 s2 c1 c2 e1 e2 b1 b2 q=>?_,fun j a' p=>?_,l.bc,l.fq,l.old,fun b ws ga=>?_⟩
  ·rw[get j hi] at e';by_cases z:j=i
   ·subst z;rw[Lg rfl] at e';cases e';show _/\_;simp only[Lg];exact⟨by rw[Mc (by rw[<- l.len];exact hi)],.inl rfl,h0,pi,x⟩
   ·rw[K_ z] at e';rw[Mw (Ne.symm z)];have k:=l.slot j s' e';unfold iC at k ⊢;simp only[K_ z];exact k
  ·rw[get j hi] at e1;rw[get k hi] at e2;by_cases z:j=i
   ·by_cases z2:k=i
    ·rw[z,z2]
    ·rw[Lg z,K_ z2] at q;rw[K_ z2] at e2;exact absurd (own k _ _ e2 b2) (by rw[<- q];exact n)
   ·by_cases z2:k=i
    ·rw[Lg z2,K_ z] at q;rw[K_ z] at e1;exact absurd (own j _ _ e1 b1) (by rw[q];exact n)
    ·rw[K_ z] at e1;rw[K_ z2] at e2;rw[K_ z,K_ z2] at q;exact l.inj j k _ _ _ _ e1 e2 b1 b2 q
  ·obtain⟨⟨d,hd⟩,ha⟩:=l.par j a' p;have z:j≠i:=by rintro rfl;exact hp d hd
   rw[get j hi,K_ z];exact⟨⟨d,hd⟩,by simp only[K_ z];exact ha⟩
  ·obtain⟨g1,g2,g3⟩:=l.gh b ws ga;refine⟨g1,g2,fun j s' d e' b'=>?_⟩;rw[get j hi] at e';by_cases z:j=i
   ·simp only[Lg z];rintro rfl;exact n (gB _ ws ga)
   ·rw[K_ z] at e';simp only[K_ z];exact g3 j s' d e' b'
 ·have hs:σ.length<=i:=by rw[<- l.len];lia
  rw[Ng (show μ.length<=i by lia),Ng hs]
  have ne:∀ j s,μ[j]?=some s->j≠i:=fun j s e q=>by
   have:=(Li.mp e).1;lia
  refine⟨l.len,fun j s' e'=>?_,fun j k s1 s2 c1 c2 e1 e2 b1 b2 q=>?_,fun j a' p=>?_,l.bc,l.fq,l.old,fun b ws ga=>?_⟩
  ·have k:=l.slot j s' e';unfold iC at k ⊢;simp only[K_ (ne j s' e')];exact k
  ·simp only[K_ (ne j _ e1),K_ (ne k _ e2)] at q;exact l.inj j k _ _ _ _ e1 e2 b1 b2 q
  ·obtain⟨⟨d,hd⟩,ha⟩:=l.par j a' p;exact⟨⟨d,hd⟩,by simp only[K_ (ne j _ hd)];exact ha⟩
  ·obtain⟨g1,g2,g3⟩:=l.gh b ws ga;refine⟨g1,g2,fun j s' d e' b'=>?_⟩;simp only[K_ (ne j _ e')];exact g3 j s' d e' b'
theorem Rl.gB(l:Rl F ad B σ H μ):∀ b vs,F.G b=some vs->B b:=fun b vs e=>(l.gh b vs e).2.1
theorem Rl.own(l:Rl F ad B σ H μ):∀ j s c,μ[j]?=some s->s.box=some c->B (ad j):=fun j s c e b=>((l.slot j s e).boxed b).2.1
theorem Rl.freeze(l:Rl F ad B σ H μ)(e:μ[i]?=some (.bx c))(hc:¬ F.Bc (ad i)):Rl F ad (fun b=>B b/\b≠ad i) σ H (μ.set i (.tr c))/\Rep F.K H (fun b=>B b/\b≠ad i) (.ref (ad i)) c:=by
 have k0:=l.slot i _ e;have hi:i<μ.length:=(Li.mp e).1;have rp:Rep F.K H (fun b=>B b/\b≠ad i) (.ref (ad i)) c:=((k0.2.2.2.2).of rfl (Fr.less fun _ z=>z.1)).rep (fun z=>z.2 rfl);have get:∀ j,(μ.set i (.tr c))[j]?=if j=i then some (.tr c) else μ[j]?:=fun j=>by
  rw[NQ];by_cases z:i=j
  ·subst z;simp[hi]
  ·rw[K_ z,K_ (fun q=>z q.symm)]
 have pi:F.P i=none:=k0.2.2.2.1;refine⟨⟨by rw[Mm];exact l.len,fun j s' e'=>?_,fun j k s1 s2 c1 c2 e1 e2 b1 b2 q=>?_,fun j a p=>?_,fun b z=>⟨l.bc b z,by rintro rfl;exact hc z⟩,fun b z=>l.fq b z.1,l.old,fun a ws ga=>?_⟩,rp⟩
 ·rw[get] at e';by_cases z:j=i
  ·subst z;rw[Lg rfl] at e';cases e';exact⟨_,k0.1,rp⟩
  ·rw[K_ z] at e';have k:=l.slot j s' e';have ne:∀ d,s'.box=some d->ad j≠ad i:=fun d hd q=>z (l.inj j i s' _ d c e' e hd rfl q);unfold iC at k ⊢
   split at k
   ·trivial
   ·obtain⟨v,e1,r1⟩:=k;exact⟨v,e1,r1.fr (Fr.less fun _ z=>z.1)⟩
   ·obtain⟨e1,b,z0,p,x⟩:=k;exact⟨e1,⟨b,ne _ rfl⟩,z0,p,x.of rfl (Fr.less fun _ z=>z.1)⟩
   ·obtain⟨e1,b,p,x⟩:=k;exact⟨e1,⟨b,ne _ rfl⟩,p,x.of rfl (Fr.less fun _ z=>z.1)⟩
 ·rw[get] at e1 e2;by_cases z:j=i
  ·rw[Lg z] at e1;cases e1;cases b1
  ·by_cases z2:k=i
   ·rw[Lg z2] at e2;cases e2;cases b2
   ·rw[K_ z] at e1;rw[K_ z2] at e2;exact l.inj j k _ _ _ _ e1 e2 b1 b2 q
 ·obtain⟨⟨d,hd⟩,ha⟩:=l.par j a p;refine⟨⟨d,?_⟩,ha⟩;rw[get];by_cases z:j=i
  ·subst z;rw[pi] at p;cases p
  ·rw[K_ z];exact hd
 ·obtain⟨g1,g2,g3⟩:=l.gh a ws ga;refine⟨g1,⟨g2,(g3 i _ c e rfl).symm⟩,fun j s' d e' b'=>?_⟩;rw[get] at e';by_cases z:j=i
  ·rw[Lg z] at e';cases e';cases b'
  ·rw[K_ z] at e';exact g3 j s' d e' b'
end
abbrev UE:=Mu->(R->Mu->Prop)->Prop
variable{ue:UE}
abbrev UT:=Mu->(Bool->Mu->Prop)->Prop
abbrev UA:=Mu->(List R->Mu->Prop)->Prop
variable{us:UA}
abbrev UO:=Mu->(Option Int->Mu->Prop)->Prop
abbrev U2:=R->R->Mu->(R->Mu->Prop)->Prop
variable{u:U2}
abbrev UC:=List R->Mu->(R->Mu->Prop)->Prop
structure Ed where
 nx:Mu->Prop
 rt:R->Mu->Prop
 bk:Mu->Prop:=fun _=>False
 ct:Mu->Prop:=fun _=>False
abbrev US:=Ed->Mu->Prop
noncomputable def Bv(B:aE)(v:V):R->aE
 |.fr _=>(match v with|.ref a=>more B a|_=>B)
 |_=>B
theorem Fr.d{v:V}{r:R}(f:Fr B H (Bv B v r) H'):Fr B H B H':=fun b o h n=>⟨(f b o h n).1,n⟩
noncomputable def RE(K:Qa)(te:TE)(ue:UE):Prop:=∀(F:Fx) (ad:Nat->Addr) (B:aE) (σ:St) (H:Hp) (μ:Mu) (Q:VK) (Qt:R->Mu->Prop),F.K=K->Rl F ad B σ H μ->ue μ Qt ->
 (∀ v H' r μ',Vr F ad B σ H' μ' v r->Fr B H (Bv B v r) H'->Kp μ μ'->Qt r μ'->Q v H')->te σ H Q
noncomputable def RT(K:Qa)(tt:TT)(ut:UT):Prop:=∀(F:Fx) (ad:Nat->Addr) (B:aE) (σ:St) (H:Hp) (μ:Mu) (Q:Bool->Hp->Prop) (Qt:Bool->Mu->Prop),F.K=K->Rl F ad B σ H μ->ut μ Qt ->
 (∀ b H' μ',Rl F ad B σ H' μ'->Fr B H B H'->Kp μ μ'->Qt b μ'->Q b H')->tt σ H Q
noncomputable def RA(K:Qa)(ta:TA)(ua:UA):Prop:=∀(F:Fx) (ad:Nat->Addr) (B:aE) (σ:St) (H:Hp) (μ:Mu) (Q:List V->Hp->Prop) (Qt:List R->Mu->Prop),F.K=K->Rl F ad B σ H μ->ua μ Qt ->
 (∀ vs H' rs μ',Rl F ad B σ H' μ'->Paired (Hv F ad B H' μ') vs rs->Fr B H B H'->Kp μ μ'->Qt rs μ'->Q vs H')->ta σ H Q
noncomputable def RO(K:Qa)(tt:TO)(ut:UO):Prop:=∀(F:Fx) (ad:Nat->Addr) (B:aE) (σ:St) (H:Hp) (μ:Mu) (Q:Option Int->Hp->Prop) (Qt:Option Int->Mu->Prop),F.K=K->Rl F ad B σ H μ->ut μ Qt ->
 (∀ b H' μ',Rl F ad B σ H' μ'->Fr B H B H'->Kp μ μ'->Qt b μ'->Q b H')->tt σ H Q
noncomputable def ke(K:Qa)(r:R2)(u:U2):Prop:=∀(F:Fx) (ad:Nat->Addr) (B:aE) (σ:St) (H:Hp) (μ:Mu) (Q:VK) (Qt:R->Mu->Prop) (x y:V) (r1 r2:R),F.K=K->Rl F ad B σ H μ->Hv F ad B H μ x r1->Hv F ad B H μ y r2->u r1 r2 μ Qt ->
 (∀ v H' r μ',Vr F ad B σ H' μ' v r->Fr B H (Bv B v r) H'->Kp μ μ'->Qt r μ'->Q v H')->r x y H Q
noncomputable def RC(K:Qa)(r:List V->Hp->VK->Prop)(u:UC):Prop:=∀(F:Fx) (ad:Nat->Addr) (B:aE) (σ:St) (H:Hp) (μ:Mu) (Q:VK) (Qt:R->Mu->Prop) (xs:List V) (rs:List R),F.K=K->Rl F ad B σ H μ->Paired (Hv F ad B H μ) xs rs->u rs μ Qt ->
 (∀ v H' r μ',Vr F ad B σ H' μ' v r->Fr B H (Bv B v r) H'->Kp μ μ'->Qt r μ'->Q v H')->r xs H Q
section
variable {F:Fx} {ad:Nat->Addr} {B:aE} {σ:St} {H:Hp} {μ:Mu} {Q:VK} {Qt:R->Mu->Prop}
theorem Vr.flat{v:V}{t:T}(l:Rl F ad B σ H μ)(r:Rep F.K H B v t):Vr F ad B σ H μ v (.tr t):=⟨l,r⟩
theorem Vr.gr(l:Rl F ad B σ H μ)(r:ak F.K H B vs ts)(e:H p=none):Vr F ad B σ (upd H p (.lst vs)) μ (.ref p) (.fr (.lst ts)):=
 ⟨l.same (ba.new e),p,rfl,l.kj e,l.BL e,l.new e,vs,ah,r.fr (Fr.more e)⟩
theorem Vr.uj(l:Rl F ad B σ H μ)(r:ak F.K H B vs ts)(e:H p=none):Vr F ad B σ (upd H p (.tup vs)) μ (.ref p) (.tr (.tup ts)):=
 ⟨l.same (ba.new e),.tup (l.kj e) ah (r.fr (Fr.same (ba.new e)))⟩
end
structure YE (X:Cx) (e:Expr) (u:UE):Prop where
 ex:∃ t,QE X e t/\RE X.K t u
structure YT (X:Cx) (e:Expr) (u:UT):Prop where
 ex:∃ t,QT X e t/\RT X.K t u
structure YW (X:Cx) (e:Expr) (u:UT):Prop where
 ex:∃ t,QW X e t/\RT X.K t u
structure YA (X:Cx) (es:List Expr) (u:UA):Prop where
 ex:∃ t,QA X es t/\RA X.K t u
structure YO (X:Cx) (e:Option Expr) (u:UO):Prop where
 ex:∃ t,QO X e t/\RO X.K t u
structure Al (X:Cx) (es:List Expr) (u:UT):Prop where
 ex:∃ t,Fy X es t/\RT X.K t u
namespace Y
noncomputable def uC(t:T):UE:=fun μ Q=>Q (.tr t) μ
noncomputable def mI(i:Nat):UE:=fun μ Q=>match μ[i]? with
 |some (.tr t)=>Q (.tr t) μ
 |some (.bx _)=>Q (.br i) μ
 |some (.pb _)=>Q (.br i) μ
 |_=>False
noncomputable def vN(u:U2)(ua ub:UE):UE:=fun μ Q=>ua μ fun r1 μ1=>ub μ1 fun r2 μ2=>u r1.d r2.d μ2 Q
section
variable {X:Cx} {a b c e o:Expr} {es rest:List Expr} {ua ub uc ue uo:UE} {uA uB:UT} {us:UA} {pos p p2:Pos} {x:Str}
theorem w8{v:V}{t:T}(h:∀ H B,Rep K H B v t):RE K (tC v) (uC t):=fun F ad B σ H μ Q Qt hK l q k=>k v H (.tr t) μ ⟨l,show Rep F.K H B v t from hK ▸ h H B⟩ Fr.refl (Kp.refl μ) q
theorem int{i:Int}:YE X (.Constant (.int i) j pos) (uC (.int i)):=⟨_,Z.int,w8 fun _ _=>.int i⟩
theorem bl{i:Bool}:YE X (.Constant (.bool i) j pos) (uC (.bl i)):=⟨_,Z.bl,w8 fun _ _=>.bl i⟩
theorem aw:YE X (.Constant .none j pos) (uC .aw):=⟨_,Z.aw,w8 fun _ _=>.aw⟩
theorem str{i:Str}:YE X (.Constant (.str i) j pos) (uC (.str i)):=⟨_,Z.str,w8 fun _ _=>.str i⟩
theorem v(i:Nat)(hN:autoParam (X.N[i]?=some x) ℜ0)(hv:autoParam (EC X.env.scope x) ℜ4)(hd:autoParam ((x ==("__debug__":Str))=false) ℜ1)
  (hcd:autoParam ((x ==("__classdict__":Str))=false) ℜ1):YE X (.Name x pos) (mI i):=by
 refine⟨_,Z.v i hN hv hd hcd,fun F ad B σ H μ Q Qt hK l q k=>?_⟩;unfold mI at q
 split at q
 ·rename_i t e;obtain⟨v,e1,r⟩:=l.slot i _ e;exact⟨v,e1,k v H (.tr t) μ ⟨l,r⟩ Fr.refl (Kp.refl μ) q⟩
 ·rename_i t e;have r:=l.slot i _ e;exact⟨_,r.1,k _ H (.br i) μ ⟨l,rfl,_,_,e,rfl⟩ Fr.refl (Kp.refl μ) q⟩
 ·rename_i t e;have r:=l.slot i _ e;exact⟨_,r.1,k _ H (.br i) μ ⟨l,rfl,_,_,e,rfl⟩ Fr.refl (Kp.refl μ) q⟩
 ·exact q.elim
theorem glob{w:V}{u:Value}{t:T}(hg:Gl X x)(hm:X.mg x=some u)(r:RelV w u)(h:∀ H B,Rep X.K H B w t)(hd:autoParam ((x ==("__debug__":Str))=false) ℜ1):YE X (.Name x pos) (uC t):=⟨_,Z.glob hg hm r hd,w8 h⟩
theorem tL{r:R2}{ta tb:TE}(h:ke K r u)(ha:RE K ta ua)(hb:RE K tb ub):RE K (vI r ta tb) (vN u ua ub):=fun F ad B σ H μ Q Qt hK l q k =>
 ha F ad B σ H μ _ _ hK l q fun x H1 r1 μ1 v1 f1 k1 q1=>hb F ad B σ H1 μ1 _ _ hK v1.rl q1 fun y H2 r2 μ2 v2 f2 k2 q2 =>
  h F ad B σ H2 μ2 _ _ x y r1.d r2.d hK v2.rl (v1.hv.fr f2.d k2) v2.hv q2 fun v H' r μ' v3 f3 k3 q3=>k v H' r μ' v3 ((f1.d.trans f2.d).trans f3) ((k1.trans k2).trans k3) q3
theorem op{o:Operator}{r:R2}(ho:d7 X (binaryOp o) r)(h:ke X.K r u)(ha:YE X a ua)(hb:YE X b ub):YE X (.BinOp a o b pos) (vN u ua ub):=by
 obtain⟨ta,qa,ra⟩:=ha;obtain⟨tb,qb,rb⟩:=hb;exact⟨_,Z.op ho qa qb,tL h ra rb⟩
theorem cmp{o:CmpOp}{r:R2}(ho:d7 X (compareOp o) r)(h:ke X.K r u)(ha:YE X a ua)(hb:YE X b ub)(hm:autoParam (behindInMarks o b=false) ℜ0):YE X (.Compare a [o] [b] pos) (vN u ua ub):=by
 obtain⟨ta,qa,ra⟩:=ha;obtain⟨tb,qb,rb⟩:=hb;exact⟨_,Z.cmp ho qa qb hm,tL h ra rb⟩
theorem ix{r:R2}(hr:rD X r)(h:ke X.K r u)(ha:YE X a ua)(hb:YE X b ub)(hs:autoParam (Z.sim b=true) ℜ0):YE X (.Subscript a b pos) (vN u ua ub):=by
 obtain⟨ta,qa,ra⟩:=ha;obtain⟨tb,qb,rb⟩:=hb;exact⟨_,Z.ix hr qa qb hs,tL h ra rb⟩
noncomputable def lM(ue:UE):UT:=fun μ Q=>ue μ fun r μ'=>match r with
 |.tr (.bl b)=>Q b μ'
 |_=>False
theorem BK{t:TE}(h:RE K t ue):RT K (ym t) (lM ue):=fun F ad B σ H μ Q Qt hK l q k =>
 h F ad B σ H μ _ _ hK l q fun v H' r μ' v1 f k1 q1=>by
  split at q1
  ·rename_i b;have rp:=v1.2;cases rp;exact⟨b,rfl,k b H' μ' v1.rl f.d k1 q1⟩
  ·exact q1.elim
theorem bD{o:CmpOp}{r:R2}(ho:d7 X (compareOp o) r)(h:ke X.K r u)(ha:YE X a ua)(hb:YE X b ub)(hm:autoParam (behindInMarks o b=false) ℜ0):YT X (.Compare a [o] [b] pos) (lM (vN u ua ub)):=by
 obtain⟨ta,qa,ra⟩:=ha;obtain⟨tb,qb,rb⟩:=hb;exact⟨_,Z.bD ho qa qb hm,BK (tL h ra rb)⟩
noncomputable def AN(ut:UT):UT:=fun μ Q=>ut μ fun b μ'=>Q (!b) μ'
theorem uF(ha:YT X a uA):YT X (.UnaryOp .Not a pos) (AN uA):=by
 obtain⟨ta,qa,ra⟩:=ha;exact⟨_,Z.uF qa,fun F ad B σ H μ Q Qt hK l q k=>ra F ad B σ H μ _ _ hK l q fun b H' μ' l' f k1 q1=>k _ H' μ' l' f k1 q1⟩
theorem tw(h:YW X e uA):YT X e uA:=by
 obtain⟨t,q,r⟩:=h;exact⟨t,Z.tw q,r⟩
theorem nK(ha:YT X a uA):YW X (.BoolOp .And [a] pos) uA:=by obtain⟨t,q,r⟩:=ha;exact⟨t,Z.nK q,r⟩
theorem yE(ha:YT X a uA):YW X (.BoolOp .Or [a] pos) uA:=by obtain⟨t,q,r⟩:=ha;exact⟨t,Z.yE q,r⟩
noncomputable def xw(u w:UT):UT:=fun μ Q=>u μ fun b μ'=>if b=true then w μ' Q else Q false μ'
noncomputable def Gs(u w:UT):UT:=fun μ Q=>u μ fun b μ'=>if b=true then Q true μ' else w μ' Q
theorem DZ{t u:TT}(ha:RT K t uA)(hb:RT K u uB):RT K (DH t u) (xw uA uB):=fun F ad B σ H μ Q Qt hK l q k=>ha F ad B σ H μ _ _ hK l q fun b H' μ' l' f k1 q1=>by
 cases b with
 |true=>rw[Lg rfl] at q1 ⊢;exact hb F ad B σ H' μ' _ _ hK l' q1 fun b2 H2 μ2 l2 f2 k2 q2=>k b2 H2 μ2 l2 (f.trans f2) (k1.trans k2) q2
 |false=>rw[K_ Lm] at q1 ⊢;exact k _ H' μ' l' f k1 q1
theorem G4{t u:TT}(ha:RT K t uA)(hb:RT K u uB):RT K (JA t u) (Gs uA uB):=fun F ad B σ H μ Q Qt hK l q k=>ha F ad B σ H μ _ _ hK l q fun b H' μ' l' f k1 q1=>by
 cases b with
 |false=>rw[K_ Lm] at q1 ⊢;exact hb F ad B σ H' μ' _ _ hK l' q1 fun b2 H2 μ2 l2 f2 k2 q2=>k b2 H2 μ2 l2 (f.trans f2) (k1.trans k2) q2
 |true=>rw[Lg rfl] at q1 ⊢;exact k _ H' μ' l' f k1 q1
theorem xA(ha:YT X a uA)(hb:YW X (.BoolOp .And (b::rest) pos) uB):YW X (.BoolOp .And (a::b::rest) pos) (xw uA uB):=by
 obtain⟨t,q,r⟩:=ha;obtain⟨t',q',r'⟩:=hb;exact⟨_,Z.xA q q',DZ r r'⟩
theorem GL(ha:YT X a uA)(hb:YW X (.BoolOp .Or (b::rest) pos) uB):YW X (.BoolOp .Or (a::b::rest) pos) (Gs uA uB):=by
 obtain⟨t,q,r⟩:=ha;obtain⟨t',q',r'⟩:=hb;exact⟨_,Z.GL q q',G4 r r'⟩
noncomputable def nJ(ue:UE):UT:=fun μ Q=>ue μ fun r μ'=>match r with
 |.tr (.bl b)=>Q b μ'
 |.tr (.int i)=>Q (i != 0) μ'
 |_=>False
theorem Dq(K:Qa)(hK:X.K=K)(ha:YE X a ua)(he:autoParam (Z.Ia a=true) ℜ0):YT X a (nJ ua):=by
 obtain⟨t,q,r⟩:=ha;refine⟨_,Z.Dq K hK q he,fun F ad B σ H μ Q Qt hK l q k=>r F ad B σ H μ _ _ hK l q fun v H' r1 μ' v1 f k1 q1=>?_⟩
 split at q1
 ·have rp:=v1.2;cases rp;exact⟨_,(Ap.Jc ..).symm ▸ rfl,k _ H' μ' v1.rl f.d k1 q1⟩
 ·have rp:=v1.2;cases rp;exact⟨_,(Ap.Jp ..).symm ▸ rfl,k _ H' μ' v1.rl f.d k1 q1⟩
 ·exact q1.elim
noncomputable def Hb(uc:UT)(ua ub:UE):UE:=fun μ Q=>uc μ fun b μ'=>if b=true then ua μ' Q else ub μ' Q
theorem FP(hc:YT X c uA)(ha:YE X a ua)(hb:YE X b ub):YE X (.IfExp c a b pos) (Hb uA ua ub):=by
 obtain⟨tc,qc,rc⟩:=hc;obtain⟨t,q,r⟩:=ha;obtain⟨t',q',r'⟩:=hb;refine⟨_,Z.FP qc q q',fun F ad B σ H μ Q Qt hK l q k=>rc F ad B σ H μ _ _ hK l q fun b H' μ' l1 f k1 q1=>?_⟩
 cases b with
 |true=>rw[Lg rfl] at q1 ⊢;exact r F ad B σ H' μ' _ _ hK l1 q1 fun v2 H2 r2 μ2 v3 f2 k2 q2=>k v2 H2 r2 μ2 v3 (f.trans f2) (k1.trans k2) q2
 |false=>rw[K_ Lm] at q1 ⊢;exact r' F ad B σ H' μ' _ _ hK l1 q1 fun v2 H2 r2 μ2 v3 f2 k2 q2=>k v2 H2 r2 μ2 v3 (f.trans f2) (k1.trans k2) q2
noncomputable def zy(ue:UE):UE:=fun μ Q=>ue μ fun r μ'=>match r with
 |.tr (.int i)=>Q (.tr (.int (-i))) μ'
 |_=>False
theorem neg(ha:YE X a ua):YE X (.UnaryOp .USub a pos) (zy ua):=by
 obtain⟨t,q,r⟩:=ha;refine⟨_,Z.un D5 q,fun F ad B σ H μ Q Qt hK l q k=>r F ad B σ H μ _ _ hK l q fun v H' r1 μ' v1 f k1 q1=>?_⟩
 split at q1
 ·have rp:=v1.2;cases rp;exact⟨_,rfl,k _ H' _ μ' (Vr.flat v1.rl (.int _)) f.d k1 q1⟩
 ·exact q1.elim
noncomputable def ve:UA:=fun μ Q=>Q [] μ
noncomputable def o_(ue:UE)(us:UA):UA:=fun μ Q=>ue μ fun r μ1=>us μ1 fun rs μ2=>Q (r.d::rs) μ2
noncomputable def uK(ts:List T):UA:=fun μ Q=>Q (ts.map R.tr) μ
theorem nil:YA X [] ve:=⟨_,Z.nil,fun F ad B σ H μ Q Qt hK l q k=>k [] H [] μ l .nil Fr.refl (Kp.refl μ) q⟩
theorem cons(ha:YE X e ue)(hr:YA X es us)(h:autoParam (bR e=true) ℜ0):YA X (e::es) (o_ ue us):=by
 obtain⟨t,q,r⟩:=ha;obtain⟨t',q',r'⟩:=hr;exact⟨_,Z.cons q q' h,fun F ad B σ H μ Q Qt hK l q k=>r F ad B σ H μ _ _ hK l q fun v H' r1 μ' v1 f k1 q1=>r' F ad B σ H' μ' _ _ hK v1.rl q1 fun vs H2 rs μ2 l2 ps f2 k2 q2 =>
  k (v::vs) H2 (r1.d::rs) μ2 l2 (.cons (v1.hv.fr f2 k2) ps) (f.d.trans f2) (k1.trans k2) q2⟩
noncomputable def wH:V->Option T
 |.aw=>some .aw
 |.bl b=>some (.bl b)
 |.int i=>some (.int i)
 |.str x=>some (.str x)
 |_=>none
theorem x_{v:V}{t:T}(h:wH v=some t):Rep K H B v t:=by
 unfold wH at h
 split at h
 ·cases h;exact .aw
 ·cases h;exact .bl _
 ·cases h;exact .int _
 ·cases h;exact .str _
 ·cases h
theorem consts(h:kG es=some vs)(h2:vs.map wH=ts.map some):YA X es (uK ts):=by
 refine⟨_,Z.consts h,fun F ad B σ H μ Q Qt hK l q k=>k vs H _ μ l ?_ Fr.refl (Kp.refl μ) q⟩;clear h q k
 induction vs generalizing ts with
 |nil=>cases ts with
  |nil=>exact .nil
  |cons t ts=>cases h2
 |cons v vs ih=>cases ts with
  |nil=>cases h2
  |cons t ts =>
   rw[Lz,Lz] at h2
   injection h2 with e1 e2
   exact .cons (x_ e1) (ih e2)
noncomputable def trees:List R->Option (List T)
 |[]=>some []
 |.tr t::rs=>(trees rs).map (t::·)
 |_=>none
theorem nu:∀{vs:List V} {rs:List R} {ts:List T},Paired (Hv F ad B H μ) vs rs->trees rs=some ts->ak F.K H B vs ts
 |_,_,_,.nil,e=>by cases e;exact .nil
 |_,r::rs,ts,.cons h p,e=>by
  cases r with
  |tr t =>
   unfold trees at e
   cases q:trees rs with
   |none=>rw[q] at e;cases e
   |some us=>rw[q] at e;cases e;exact .cons h (nu p q)
  |br i=>cases e
  |fr c=>cases e
noncomputable def BJ(us:UA):UE:=fun μ Q=>us μ fun rs μ'=>match trees rs with
 |some ts=>ts.length<=sizeLine/\Q (.tr (.tup ts)) μ'
 |none=>False
noncomputable def AD(us:UA):UE:=fun μ Q=>us μ fun rs μ'=>match trees rs with
 |some ts=>ts.length<=sizeLine/\Q (.fr (.lst ts)) μ'
 |none=>False
theorem tup(h:YA X es us):YE X (.Tuple es k pos) (BJ us):=by
 obtain⟨t,q,r⟩:=h;refine⟨_,Z.tup q,fun F ad B σ H μ Q Qt hK l q k=>r F ad B σ H μ _ _ hK l q fun vs H' rs μ' l1 ps f k1 q1=>?_⟩
 split at q1
 ·rename_i ts e;have rp:=nu ps e;exact⟨by rw[rp.length];exact q1.1,fun p hp=>k _ _ _ μ' (Vr.uj l1 rp hp) (f.trans (Fr.same (ba.new hp))) k1 q1.2⟩
 ·exact q1.elim
theorem lst(h:YA X es us):YE X (.List es pos) (AD us):=by
 obtain⟨t,q,r⟩:=h;refine⟨_,Z.lst q,fun F ad B σ H μ Q Qt hK l q k=>r F ad B σ H μ _ _ hK l q fun vs H' rs μ' l1 ps f k1 q1=>?_⟩
 split at q1
 ·rename_i ts e;have rp:=nu ps e;exact⟨by rw[rp.length];exact q1.1,fun p hp=>k _ _ _ μ' (Vr.gr l1 rp hp) (f.trans (Fr.more hp)) k1 q1.2⟩
 ·exact q1.elim
noncomputable def Df(u:UC)(us:UA):UE:=fun μ Q=>us μ fun rs μ'=>u rs μ' Q
theorem xU{u:UC}{t:TA}(h:RC K r u)(ha:RA K t us):RE K (vO r t) (Df u us):=fun F ad B σ H μ Q Qt hK l q k =>
 ha F ad B σ H μ _ _ hK l q fun vs H' rs μ' l1 ps f k1 q1=>h F ad B σ H' μ' _ _ vs rs hK l1 ps q1 fun v H2 r2 μ2 v2 f2 k2 q2=>k v H2 r2 μ2 v2 (f.trans f2) (k1.trans k2) q2
theorem cb{id:String}{u:UC}(hc:aF X (.builtin id) r)(h:RC X.K r u)(hg:Gl X x)(hm:X.mg x=none)(hv:bootBuiltins x=some (.builtin id))(ha:YA X (e::es) us)(h1:autoParam (bR e=true) ℜ0)(h2:autoParam (es.all bR=true) ℜ0)(hn:autoParam (x≠"__name__") ℜ1)(hdb:autoParam ((x ==("__debug__":Str))=false) ℜ1):
  YE X (.Call (.Name x p) (e::es) [] pos) (Df u us):=by
 obtain⟨t,q,rr⟩:=ha;exact⟨_,Z.cb hc hg hm hv q h1 h2 hn hdb,xU h rr⟩
theorem ct{T:String}{u:UC}(hc:aF X (.type T) r)(h:RC X.K r u)(hg:Gl X x)(hm:X.mg x=none)(hv:bootBuiltins x=some (.type T))(ha:YA X (e::es) us)(h1:autoParam (bR e=true) ℜ0)(h2:autoParam (es.all bR=true) ℜ0)(hn:autoParam (x≠"__name__") ℜ1)(hdb:autoParam ((x ==("__debug__":Str))=false) ℜ1):
  YE X (.Call (.Name x p) (e::es) [] pos) (Df u us):=by
 obtain⟨t,q,rr⟩:=ha;exact⟨_,Z.ct hc hg hm hv q h1 h2 hn hdb,xU h rr⟩
noncomputable def iP:UO:=fun μ Q=>Q none μ
noncomputable def rK(ue:UE):UO:=fun μ Q=>ue μ fun r μ'=>match r with
 |.tr (.int i)=>Q (some i) μ'
 |_=>False
theorem EF:YO X none iP:=⟨_,Z.EF,fun F ad B σ H μ Q Qt hK l q k=>k none H μ l Fr.refl (Kp.refl μ) q⟩
theorem DR(he:YE X e ue):YO X (some e) (rK ue):=by
 obtain⟨t,q,r⟩:=he;refine⟨_,Z.DR q,fun F ad B σ H μ Q Qt hK l q k=>r F ad B σ H μ _ _ hK l q fun v H' r1 μ' v1 f k1 q1=>?_⟩
 split at q1
 ·have rp:=v1.2;cases rp;exact⟨_,rfl,k _ H' μ' v1.rl f.d k1 q1⟩
 ·exact q1.elim
end
noncomputable def uR(f:T->T->Mu->(R->Mu->Prop)->Prop):U2:=fun r1 r2 μ Q=>match cont μ r1,cont μ r2 with
 |some t,some u=>f t u μ Q
 |_,_=>False
theorem fR{r:R2}{f:T->T->Mu->(R->Mu->Prop)->Prop}
  (h:∀(F:Fx) (ad:Nat->Addr) (B:aE) (σ:St) (H:Hp) (μ:Mu) (Q:VK) (Qt:R->Mu->Prop) (x y:V) (t u:T),F.K=K->Rl F ad B σ H μ->Vw F.K H B x t->Vw F.K H B y u->f t u μ Qt ->
   (∀ v H' r,Vr F ad B σ H' μ v r->Fr B H (Bv B v r) H'->Qt r μ->Q v H')->r x y H Q):ke K r (uR f):=by
 intro F ad B σ H μ Q Qt x y r1 r2 hK l h1 h2 q k;unfold uR at q
 split at q
 ·rename_i t u e1 e2;exact h F ad B σ H μ Q Qt x y t u hK l (h1.vw l e1) (h2.vw l e2) q fun v H' r v1 s q1=>k v H' r μ v1 s (Kp.refl μ) q1
 ·exact q.elim
noncomputable def yU(C:Int->Int->Prop)(g:Int->Int->Int):T->T->Mu->(R->Mu->Prop)->Prop:=fun t u μ Q=>match t,u with
 |.int i,.int j=>C i j/\Q (.tr (.int (g i j))) μ
 |_,_=>False
theorem bV{C:Int->Int->Prop}{g:Int->Int->Int}:ke K (rI C fun i j=>.int (g i j)) (uR (yU C g)):=fR fun F ad B σ H μ Q Qt x y t u hK l v1 v2 q k=>by
 unfold yU at q
 split at q
 ·cases v1;cases v2
  exact⟨_,_,rfl,rfl,q.1,k _ H _ (Vr.flat l (.int _)) Fr.refl q.2⟩
 ·exact q.elim
theorem cw{g:Int->Int->Int}:ke K (zR fun i j=>.int (g i j)) (uR (yU (fun _ _=>True) g)):=fR fun F ad B σ H μ Q Qt x y t u hK l v1 v2 q k=>by
 unfold yU at q
 split at q
 ·cases v1;cases v2
  exact⟨_,_,rfl,rfl,k _ H _ (Vr.flat l (.int _)) Fr.refl q.2⟩
 ·exact q.elim
noncomputable def IV(g:Int->Int->Bool):T->T->Mu->(R->Mu->Prop)->Prop:=fun t u μ Q=>match t,u with
 |.int i,.int j=>Q (.tr (.bl (g i j))) μ
 |_,_=>False
theorem eO{g:Int->Int->Bool}:ke K (zR fun i j=>.bl (g i j)) (uR (IV g)):=fR fun F ad B σ H μ Q Qt x y t u hK l v1 v2 q k=>by
 unfold IV at q
 split at q
 ·cases v1;cases v2
  exact⟨_,_,rfl,rfl,k _ H _ (Vr.flat l (.bl _)) Fr.refl q⟩
 ·exact q.elim
noncomputable def C1(K:Qa):R2:=fun x y H Q=>∃ a b xs ys,x=.ref a/\y=.ref b/\aV K H a xs/\aV K H b ys/\xs.length+ys.length<=sizeLine /\
 (xs=[]->Q (.ref b) H)/\(xs≠[]->ys=[]->Q (.ref a) H)/\(xs≠[]->ys≠[]->∀ p,H p=none->Q (.ref p) (upd H p (.tup (xs++ys))))
theorem zf{A:Around}{t:Addr}{ws:List Value}(ht:IsTup s.heap t ([]:List Value).toArray)(hb:IsTup s.heap b ws.toArray)(h0:Q (.ref b) s):wpAny (model prog w) A (binaryOp .Add (.ref t) (.ref b)) Q E s:=by
 obtain⟨⟨cls,dd,data,sl⟩,ho,hc,n,hd⟩:=id ht;obtain⟨⟨cls2,dd2,data2,sl2⟩,ho2,hc2,n2,hd2⟩:=id hb;simp only at hc hd hc2 hd2;subst hc hd hc2 hd2;exact concat_meets ⟨_,ho,rfl⟩ ⟨_,ho2,rfl⟩ noFill_tuple_add seq_tuple_add PySem.F.slot_tuple_add PySem.F.entry_tuple_add (PySem.F.args_tuple_add_2 _ _)
   (tuple_addW0 t b _ ws.toArray n n2 dd dd2 sl sl2 (by simp)) ⟨ho,ho2,h0⟩
theorem AZ:d7 X (binaryOp .Add) (C1 X.K):=by
 intro pins s σ H x y v u Q I rx ry h;obtain⟨a,b,xs,ys,rfl,rfl,ha,hb,hz,q0,q1,q2⟩:=h;by_cases hx:xs=[]
 ·subst hx
  cases rx;cases ry
  obtain⟨its,r1,p1,_⟩:=I.tuple ha;obtain⟨its2,r2,p2,_⟩:=I.tuple hb;cases r1;exact zf p1 p2 ⟨.ref b,H,I,rfl,q0 rfl⟩
 ·exact sk pins s σ H _ _ v u Q I rx ry ⟨a,b,xs,ys,rfl,rfl,ha,hb,hx,hz,q1 hx,q2 hx⟩
noncomputable def xC(K:Qa):R2:=fun x y H Q=>(∃ i j,x=.int i/\y=.int j/\Q (.int (i+j)) H)\/(∃ i j,x=.str i/\y=.str j/\i.length+j.length<=sizeLine/\Q (.str (i++j)) H)\/G3 x y H Q\/C1 K x y H Q
theorem aB(K:Qa)(hK:X.K=K):d7 X (binaryOp .Add) (xC K):=by subst hK;exact zk.or (jj.or (wx.or AZ))
noncomputable def aL{v:V}{t:T}(h:Hv F ad B H μ v (.tr t)):Rep F.K H B v t:=h
noncomputable def fX:U2:=fun r1 r2 μ Q=>match cont μ r1,cont μ r2 with
 |some (.int i),some (.int j)=>Q (.tr (.int (i+j))) μ
 |some (.str i),some (.str j)=>i.length+j.length<=sizeLine/\Q (.tr (.str (i++j))) μ
 |some (.lst xs),some (.lst ys)=>xs.length+ys.length<=sizeLine/\Q (.fr (.lst (xs++ys))) μ
 |some (.tup xs),some (.tup ys)=>xs.length+ys.length<=sizeLine/\Q (.tr (.tup (xs++ys))) μ
 |_,_=>False
theorem Hv.zo{v:V}{r:R}{xs:List T}(l:Rl F ad B σ H μ)(h:Hv F ad B H μ v r)(e:cont μ r=some (.tup xs)):Rep F.K H B v (.tup xs):=by
 cases r with
 |tr t=>cases e;exact h
 |br i =>
  obtain⟨rfl,s,c,h1,h2⟩:=h;have e2:(μ[i]?).bind Sl.box=some (.tup xs):=e;rw[h1] at e2;have e':s.box=some (.tup xs):=e2;rcases ((l.slot i s h1).boxed e').2.2.1.is with ⟨ts,vs,z,_⟩|⟨ks,ts,vs,z,_⟩<;>cases z
 |fr c=>exact h.elim
theorem Dy:ke K (xC K) fX:=by
 intro F ad B σ H μ Q Qt x y r1 r2 hK l h1 h2 q k;subst hK;unfold fX at q
 split at q
 ·rename_i i j e1 e2;have a:=h1.vw l e1;have b:=h2.vw l e2
  cases a;cases b
  exact .inl ⟨_,_,rfl,rfl,k _ H _ μ (Vr.flat l (.int _)) Fr.refl (Kp.refl μ) q⟩
 ·rename_i i j e1 e2;have a:=h1.vw l e1;have b:=h2.vw l e2
  cases a;cases b
  exact .inr (.inl ⟨_,_,rfl,rfl,q.1,k _ H _ μ (Vr.flat l (.str _)) Fr.refl (Kp.refl μ) q.2⟩)
 ·rename_i xs ys e1 e2;have a:=h1.vw l e1;have b:=h2.vw l e2
  cases a with
  |lst ha ra=>cases b with
   |lst hb rb=>exact .inr (.inr (.inl ⟨_,_,_,_,rfl,rfl,ha,hb,by rw[ra.length,rb.length];exact q.1,fun p hp=>k _ _ _ μ (Vr.gr l (ra.append rb) hp) (Fr.more hp) (Kp.refl μ) q.2⟩))
 ·rename_i xs ys e1 e2;have a:=Hv.zo l h1 e1;have b:=Hv.zo l h2 e2;have a':=a;have b':=b
  cases a with
  |tup na ha ra=>cases b with
   |tup nb hb rb =>
    refine .inr (.inr (.inr ⟨_,_,_,_,rfl,rfl,aV.of ha,aV.of hb,by rw[ra.length,rb.length];exact q.1,fun z=>?_,fun z1 z2=>?_,fun z1 z2 p hp=>k _ _ _ μ (Vr.uj l (ra.append rb) hp) (Fr.same (ba.new hp)) (Kp.refl μ) q.2⟩))
    ·subst z;cases ra;exact k _ H _ μ (Vr.flat l b') Fr.refl (Kp.refl μ) q.2
    ·subst z2;cases rb;have q2:=q.2;rw[L3] at q2;exact k _ H _ μ (Vr.flat l a') Fr.refl (Kp.refl μ) q2
 ·exact q.elim
noncomputable def rS:U2:=fun r1 r2 μ Q=>match cont μ r1,cont μ r2 with
 |some (.int i),some (.int j)=>nL i j/\Q (.tr (.int (i*j))) μ
 |some (.lst xs),some (.int k)=>-(2^63)<=k/\k<2^63/\xs.length*k.toNat<=sizeLine/\Q (.fr (.lst (List.replicate k.toNat xs).flatten)) μ
 |_,_=>False
theorem yB:ke K ES rS:=by
 intro F ad B σ H μ Q Qt x y r1 r2 hK l h1 h2 q k;unfold rS at q
 split at q
 ·rename_i i j e1 e2;have a:=h1.vw l e1;have b:=h2.vw l e2
  cases a;cases b
  exact⟨q.1,k _ H _ μ (Vr.flat l (.int _)) Fr.refl (Kp.refl μ) q.2⟩
 ·rename_i xs j e1 e2;have a:=h1.vw l e1;have b:=h2.vw l e2;cases b
  cases a with
  |lst ha ra=>exact⟨_,_,_,rfl,rfl,ha,q.1,q.2.1,by rw[ra.length];exact q.2.2.1,fun p hp=>k _ _ _ μ (Vr.gr l (ra.rep _) hp) (Fr.more hp) (Kp.refl μ) q.2.2.2⟩
 ·exact q.elim
noncomputable def rC:U2:=fun r1 r2 μ Q=>match cont μ r1,cont μ r2 with
 |some (.lst xs),some (.int i)=>(match b9 xs i with|some t=>Q (.tr t) μ|none=>False)
 |some (.tup xs),some (.int i)=>(match b9 xs i with|some t=>Q (.tr t) μ|none=>False)
 |some (.dk xs),some (.int i)=>(match b9 xs i with|some t=>Q (.tr t) μ|none=>False)
 |some (.str z),some (.int i)=>z.length<=sizeLine/\(match b9 z.cps.toList i with|some c=>Q (.tr (.str ⟨#[c]⟩)) μ|none=>False)
 |_,_=>False
theorem bw(K:Qa)(hK:X.K=K):rD X (H_ K):=by subst hK;exact xu
theorem Gb:ke K (H_ K) rC:=by
 intro F ad B σ H μ Q Qt x y r1 r2 hK l h1 h2 q k;subst hK;unfold rC at q
 split at q
 ·rename_i xs j e1 e2;have a:=h1.vw l e1;have b:=h2.vw l e2;cases b
  split at q
  ·rename_i t e3
   cases a with
   |lst ha ra =>
    obtain⟨v,e4,rv⟩:=ra.b9 e3;exact .inl ⟨_,_,_,v,rfl,rfl,bz.of ha,e4,k _ H _ μ (Vr.flat l rv) Fr.refl (Kp.refl μ) q⟩
  ·exact q.elim
 ·rename_i xs j e1 e2;have a:=h1.vw l e1;have b:=h2.vw l e2;cases b
  split at q
  ·rename_i t e3
   cases a with
   |tup ha ra =>
    obtain⟨v,e4,rv⟩:=ra.b9 e3;exact .inr (.inl ⟨_,_,_,v,rfl,rfl,aV.of ha,e4,k _ H _ μ (Vr.flat l rv) Fr.refl (Kp.refl μ) q⟩)
  ·exact q.elim
 ·rename_i xs j e1 e2;have a:=h1.vw l e1;have b:=h2.vw l e2;cases b
  split at q
  ·rename_i t e3
   cases a with
   |dk ha ra =>
    obtain⟨v,e4,rv⟩:=ra.b9 e3;exact .inr (.inl ⟨_,_,_,v,rfl,rfl,.inr ha,e4,k _ H _ μ (Vr.flat l rv) Fr.refl (Kp.refl μ) q⟩)
  ·exact q.elim
 ·rename_i xs j e1 e2;have a:=h1.vw l e1;have b:=h2.vw l e2;cases b;cases a;obtain⟨q0,q⟩:=q
  split at q
  ·rename_i t e3;exact .inr (.inr ⟨_,_,_,rfl,rfl,q0,e3,k _ H _ μ (Vr.flat l (.str _)) Fr.refl (Kp.refl μ) q⟩)
  ·exact q.elim
 ·exact q.elim
noncomputable def nS(neg:Bool):T->T->Mu->(R->Mu->Prop)->Prop:=fun t u μ Q=>match u with
 |.aw=>Q (.tr (.bl (match t with|.aw=>!neg|_=>neg))) μ
 |_=>False
theorem qA:ke K (fun x y H Q=>y=.aw/\Q (.bl (decide (x=.aw))) H) (uR (nS false)):=fR fun F ad B σ H μ Q Qt x y t u hK l v1 v2 q k=>by
 unfold nS at q
 split at q
 ·cases v2;refine⟨rfl,?_⟩
  cases v1<;>exact k _ H _ (Vr.flat l (.bl _)) Fr.refl q
 ·exact q.elim
theorem m8:ke K (fun x y H Q=>y=.aw/\Q (.bl (!decide (x=.aw))) H) (uR (nS true)):=fR fun F ad B σ H μ Q Qt x y t u hK l v1 v2 q k=>by
 unfold nS at q
 split at q
 ·cases v2;refine⟨rfl,?_⟩
  cases v1<;>exact k _ H _ (Vr.flat l (.bl _)) Fr.refl q
 ·exact q.elim
noncomputable def Jg:T->T->Bool
 |.aw,.aw=>true
 |.bl a,.bl b=>a == b
 |.bl a,.int b=>(if a then 1 else 0) == b
 |.int a,.bl b=>a ==(if b then 1 else 0)
 |.int a,.int b=>a == b
 |.str a,.str b=>a == b
 |_,_=>false
noncomputable def Bg(xs ys:List T):Bool:=xs.length == ys.length && (List.range (min xs.length ys.length)).all fun j=>match xs[j]?,ys[j]? with
 |some x,some y=>Jg x y
 |_,_=>true
theorem Co{x y:V}{t u:T}(h1:Rep K H B x t)(h2:Rep K H B y u)(f1:bf t=true)(f2:bf u=true):d8 x=true/\d8 y=true/\vH x y=Jg t u:=by
 cases h1<;>first | (cases f1;done) | (cases h2<;>first | (cases f2;done)|exact⟨rfl,rfl,rfl⟩)
noncomputable def F_(K:Qa)(neg:Bool):R2:=fun x y H Q=>∃ a b xs ys,x=.ref a/\y=.ref b/\((bz K H a xs/\bz K H b ys)\/(aV K H a xs/\aV K H b ys))/\xs.all d8=true/\ys.all d8=true /\
 ∀ c,c=(xs.length == ys.length && (List.range (min xs.length ys.length)).all fun j=>match xs[j]?,ys[j]? with|some x,some y=>vH x y|_,_=>true)->Q (.bl (if neg then !c else c)) H
theorem Fo(hu:X.A.units<cLine):d7 X (compareOp .Eq) (F_ X.K false):=by
 intro pins s σ H x y v u Q I rx ry h;obtain⟨a,b,xs,ys,rfl,rfl,hq,fx,fy,q⟩:=h
 cases rx;cases ry
 have item:∀(its its2:List Value),Vals xs its->Vals ys its2->∀ j (h1:j<its.toArray.size) (h2:j<its2.toArray.size),SeqAt.EqAt X.A.in1 s its.toArray[j] its2.toArray[j] (match xs[j]?,ys[j]? with|some x,some y=>vH x y|_,_=>true):=fun its its2 r1 r2 j h1 h2=>by
  have l1:=r1.length;have l2:=r2.length;rw[Lh] at h1 h2;obtain⟨u1,e1,g1⟩:=r1.get (i:=j) (x:=xs[j]) (KY (by lia))
  obtain⟨u2,e2,g2⟩:=r2.get (i:=j) (x:=ys[j]) (KY (by lia))
  rw[KY (show j<xs.length by lia),KY (show j<ys.length by lia)]
  have z1:its.toArray[j]=u1:=by
   rw[KY h1] at e1;simpa using e1
  have z2:its2.toArray[j]=u2:=by
   rw[KY h2] at e2;simpa using e2
  rw[z1,z2];exact xT g1 g2 (MM.mp fx _ (LL _)) (MM.mp fy _ (LL _))
 rcases hq with ⟨ha,hb⟩|⟨ha,hb⟩
 ·obtain⟨its,r1,p1,_⟩:=I.list ha;obtain⟨its2,r2,p2,_⟩:=I.list hb;have l1:=r1.length;have l2:=r2.length;by_cases e:xs.length=ys.length
  ·refine SeqAt.eq_listAt p1.isList p2.isList (by rw[Lh,Lh];lia) hu (item its its2 r1 r2) ⟨.bl _,H,I,rfl,q _ ?_⟩
   rw[Lh,<- l1,<- e,OY,N5,Bool.true_and]
  ·refine SeqAt.eq_list_lengthsAt p1.isList p2.isList (by rw[Lh,Lh,bne_iff_ne];lia) hu ⟨.bl _,H,I,rfl,q _ ?_⟩
   rw[MK.mpr e,Bool.false_and]
 ·obtain⟨its,r1,p1,_⟩:=I.tuple ha;obtain⟨its2,r2,p2,_⟩:=I.tuple hb;have l1:=r1.length;have l2:=r2.length;refine SeqAt.eq_tupleAt p1 p2 hu (item its its2 r1 r2) ⟨.bl _,H,I,rfl,q _ ?_⟩;rw[Lh,Lh,<- l1,<- l2,Bool.and_comm];rfl
theorem er:∀{xs:List V} {ts:List T},ak K H B xs ts->ts.all bf=true->xs.all d8=true
 |_,_,.nil,_=>rfl
 |_,_,.cons h r,f=>by
  rw[L_,LS] at f ⊢;refine⟨?_,er r f.2⟩;have f1:=f.1
  cases h<;>first|rfl|cases f1
theorem zg{us:List T}(h1:ak K H B xs ts)(h2:ak K H B ys us)(f1:ts.all bf=true)(f2:us.all bf=true):
  Bg ts us=(xs.length == ys.length && (List.range (min xs.length ys.length)).all fun j=>match xs[j]?,ys[j]? with|some x,some y=>vH x y|_,_=>true):=by
 unfold Bg;have l1:=h1.length;have l2:=h2.length;rw[l1,l2];congr 1;refine List.all_congr rfl ?_ |>.symm;intro j
 cases a1:ts[j]? with
 |none =>
  have:xs[j]?=none:=Mf.mpr (by have:=Mf.mp a1;lia)
  rw[this]
 |some t =>
  obtain⟨v1,e1,r1⟩:=h1.get a1;rw[e1]
  cases a2:us[j]? with
  |none =>
   have:ys[j]?=none:=Mf.mpr (by have:=Mf.mp a2;lia)
   rw[this]
  |some u =>
   obtain⟨v2,e2,r2⟩:=h2.get a2;rw[e2];exact (Co r1 r2 (MM.mp f1 _ (Mx a1)) (MM.mp f2 _ (Mx a2))).2.2
noncomputable def HB(K:Qa):R2:=fun x y H Q=>Kl x y H Q\/F_ K false x y H Q
theorem bP(K:Qa)(hK:X.K=K)(hu:X.A.units<cLine):d7 X (compareOp .Eq) (HB K):=by subst hK;exact He.or (Fo hu)
noncomputable def GA(neg:Bool):T->T->Mu->(R->Mu->Prop)->Prop:=fun t u μ Q=>match t,u with
 |.int i,.int j=>Q (.tr (.bl (if neg then !decide (i=j) else decide (i=j)))) μ
 |.str i,.str j=>Q (.tr (.bl (if neg then !decide (i=j) else decide (i=j)))) μ
 |.bl i,.bl j=>Q (.tr (.bl (if neg then !decide (i=j) else decide (i=j)))) μ
 |.lst xs,.lst ys=>neg=false/\xs.all bf=true/\ys.all bf=true/\Q (.tr (.bl (Bg xs ys))) μ
 |.tup xs,.tup ys=>neg=false/\xs.all bf=true/\ys.all bf=true/\Q (.tr (.bl (Bg xs ys))) μ
 |_,_=>False
theorem dV[DecidableEq α]{f:α->V}(hf:∀ a b,f a=f b->a=b)(a b:α):decide (f a=f b)=decide (a=b):=by
 rw[OZ];exact⟨hf a b,fun h=>by rw[h]⟩
theorem cZ:ke K (HB K) (uR (GA false)):=fR fun F ad B σ H μ Q Qt x y t u hK l v1 v2 q k=>by
 subst hK;unfold GA at q
 split at q
 ·cases v1;cases v2
  refine .inl ⟨rfl,?_⟩;rw[dV (f:=V.int) (fun a b h=>by injection h)]
  exact k _ H _ (Vr.flat l (.bl _)) Fr.refl q
 ·cases v1;cases v2
  refine .inl ⟨rfl,?_⟩;rw[dV (f:=V.str) (fun a b h=>by injection h)]
  exact k _ H _ (Vr.flat l (.bl _)) Fr.refl q
 ·cases v1;cases v2
  refine .inl ⟨rfl,?_⟩;rw[dV (f:=V.bl) (fun a b h=>by injection h)]
  exact k _ H _ (Vr.flat l (.bl _)) Fr.refl q
 ·cases v1 with
  |lst ha ra=>cases v2 with
   |lst hb rb=>exact .inr ⟨_,_,_,_,rfl,rfl,.inl ⟨bz.of ha,bz.of hb⟩,er ra q.2.1,er rb q.2.2.1,fun c hc=>by
     rw[<- zg ra rb q.2.1 q.2.2.1] at hc;subst hc;exact k _ H _ (Vr.flat l (.bl _)) Fr.refl q.2.2.2⟩
 ·cases v1 with
  |tup ha ra=>cases v2 with
   |tup hb rb=>exact .inr ⟨_,_,_,_,rfl,rfl,.inr ⟨aV.of ha,aV.of hb⟩,er ra q.2.1,er rb q.2.2.1,fun c hc=>by
     rw[<- zg ra rb q.2.1 q.2.2.1] at hc;subst hc;exact k _ H _ (Vr.flat l (.bl _)) Fr.refl q.2.2.2⟩
 ·exact q.elim
noncomputable def vK(f:T->Mu->(R->Mu->Prop)->Prop):UC:=fun rs μ Q=>match rs with
 |[r]=>(match cont μ r with|some t=>f t μ Q|none=>False)
 |_=>False
theorem jt{f:T->Mu->(R->Mu->Prop)->Prop}
  (h:∀(F:Fx) (ad:Nat->Addr) (B:aE) (σ:St) (H:Hp) (μ:Mu) (Q:VK) (Qt:R->Mu->Prop) (x:V) (t:T),F.K=K->Rl F ad B σ H μ->Vw F.K H B x t->f t μ Qt ->
   (∀ v H' r,Vr F ad B σ H' μ v r->Fr B H (Bv B v r) H'->Qt r μ->Q v H')->r [x] H Q):RC K r (vK f):=by
 intro F ad B σ H μ Q Qt xs rs hK l p q k;unfold vK at q
 split at q
 ·split at q
  ·rename_i r0 _ t e
   cases p with
   |cons h1 p=>cases p;exact h F ad B σ H μ Q Qt _ t hK l (h1.vw l e) q fun v H' r v1 s q1=>k v H' r μ v1 s (Kp.refl μ) q1
  ·exact q.elim
 ·exact q.elim
noncomputable def oZ:T->Mu->(R->Mu->Prop)->Prop:=fun t μ Q=>match t with
 |.lst xs=>Q (.tr (.int xs.length)) μ
 |.tup xs=>Q (.tr (.int xs.length)) μ
 |.dU xs=>Q (.tr (.int xs.length)) μ
 |.dk xs=>Q (.tr (.int xs.length)) μ
 |.str z=>z.length<=sizeLine/\Q (.tr (.int z.length)) μ
 |_=>False
noncomputable def xP(K:Qa):List V->Hp->VK->Prop:=fun xs H Q=>(∃ p ys,xs=[.ref p]/\(bz K H p ys\/aV K H p ys)/\Q (.int ys.length) H)\/(∃ z,xs=[.str z]/\z.length<=sizeLine/\Q (.int z.length) H)
theorem az(K:Qa)(hK:X.K=K):aF X (.builtin "len") (xP K):=by subst hK;exact nh.or n6
theorem DU:RC K (xP K) (vK oZ):=jt fun F ad B σ H μ Q Qt x t hK l v1 q k=>by
 subst hK;unfold oZ at q
 split at q
 ·cases v1 with
  |lst ha ra=>exact .inl ⟨_,_,rfl,.inl (bz.of ha),by rw[ra.length];exact k _ H _ (Vr.flat l (.int _)) Fr.refl q⟩
 ·cases v1 with
  |tup ha ra=>exact .inl ⟨_,_,rfl,.inr (aV.of ha),by rw[ra.length];exact k _ H _ (Vr.flat l (.int _)) Fr.refl q⟩
 ·cases v1 with
  |dU ha ra=>exact .inl ⟨_,_,rfl,.inl ha,by rw[ra.length];exact k _ H _ (Vr.flat l (.int _)) Fr.refl q⟩
 ·cases v1 with
  |dk ha ra=>exact .inl ⟨_,_,rfl,.inr (.inr ha),by rw[ra.length];exact k _ H _ (Vr.flat l (.int _)) Fr.refl q⟩
 ·cases v1;exact .inr ⟨_,rfl,q.1,k _ H _ (Vr.flat l (.int _)) Fr.refl q.2⟩
 ·exact q.elim
noncomputable def dO:UC:=fun rs μ Q=>match rs with
 |[r]=>(match cont μ r with
  |some (.lst xs)=>Q (.tr (.tup xs)) μ
  |some (.tup xs)=>Q (.tr (.tup xs)) μ
  |_=>False)
 |_=>False
noncomputable def C9(K:Qa):List V->Hp->VK->Prop:=fun xs H Q=>∃ p ys,xs=[.ref p]/\((bz K H p ys/\∀ l,H l=none->Q (.ref l) (upd H l (.tup ys)))\/(aV K H p ys/\Q (.ref p) H))
theorem bY(K:Qa)(hK:X.K=K):aF X (.type "tuple") (C9 K):=by subst hK;exact cK
theorem cU:RC K (C9 K) dO:=by
 intro F ad B σ H μ Q Qt xs rs hK l p q k;subst hK;unfold dO at q
 split at q
 ·cases p with
  |cons h1 p =>
   cases p
   split at q
   ·rename_i e;have v1:=h1.vw l e
    cases v1 with
    |lst ha ra=>exact⟨_,_,rfl,.inl ⟨bz.of ha,fun p hp=>k _ _ _ μ (Vr.uj l ra hp) (Fr.same (ba.new hp)) (Kp.refl μ) q⟩⟩
   ·rename_i e;have rp:=Hv.zo l h1 e;have rp':=rp
    cases rp with
    |tup na ha ra=>exact⟨_,_,rfl,.inr ⟨aV.of ha,k _ H _ μ (Vr.flat l rp') Fr.refl (Kp.refl μ) q⟩⟩
   ·exact q.elim
 ·exact q.elim
noncomputable def pz:T->Mu->(R->Mu->Prop)->Prop:=fun t μ Q=>match t with
 |.lst xs=>Q (.fr (.lst xs)) μ
 |.tup xs=>Q (.fr (.lst xs)) μ
 |.dU xs=>Q (.fr (.lst xs)) μ
 |.dB lo hi=>(hi-lo).toNat<=65536/\-(2^62)<=lo/\lo<2^62/\-(2^62)<=hi/\hi<2^62/\Q (.fr (.lst ((List.range (hi-lo).toNat).map fun k=>T.int (lo+(k:Nat))))) μ
 |_=>False
noncomputable def zl(K:Qa):List V->Hp->VK->Prop:=fun xs H Q=>(∃ p ys,xs=[.ref p]/\(bz K H p ys\/aV K H p ys)/\∀ l,H l=none->Q (.ref l) (upd H l (.lst ys))) \/
 (∃ p lo hi,xs=[.ref p]/\H p=some (.dB lo hi)/\(hi-lo).toNat<=65536/\-(2^62)<=lo/\lo<2^62/\-(2^62)<=hi/\hi<2^62/\∀ l,H l=none->Q (.ref l) (upd H l (.lst ((List.range (hi-lo).toNat).map fun k=>V.int (lo+(k:Nat))))))
theorem dQ{lo:Int}:∀(n:Nat) (acc:List Value) (k:Nat),acc.length=n->(∀ j v,acc[j]?=some v->∃ t,v=Value.int (lo+((k+j:Nat):Int)) t)->Vals ((List.range' k n).map fun k=>V.int (lo+(k:Nat))) acc
 |0,acc,k,h,_=>by cases acc with|nil=>exact .nil|cons a b=>cases h
 |n+1,[],k,h,_=>by cases h
 |n+1,a::acc,k,h,g=>by
  rw[Me,Lz];refine .cons ?_ (dQ n acc (k+1) (by simpa using h) fun j v e=>?_)
  ·obtain⟨t,e⟩:=g 0 a rfl;exact⟨t,by simpa using e⟩
  ·obtain⟨t,e2⟩:=g (j+1) v (by simpa using e)
   exact⟨t,by rw[e2];congr 2;lia⟩
theorem qR(hc:X.calm=true):aF X (.type "list") (fun xs H Q=>∃ p lo hi,xs=[.ref p]/\H p=some (.dB lo hi)/\(hi-lo).toNat<=65536/\-(2^62)<=lo/\lo<2^62/\-(2^62)<=hi/\hi<2^62/\∀ l,H l=none->Q (.ref l) (upd H l (.lst ((List.range (hi-lo).toNat).map fun k=>V.int (lo+(k:Nat)))))):=by
 intro pins s σ H xs us Q I r h;obtain⟨p,lo,hi,rfl,hp,hn,h1,h2,h3,h4,q⟩:=h;obtain⟨u,rfl,rx⟩:=vals1 r;cases rx;obtain⟨t,u,v,e⟩:=I.aD p _ hp;have hn2:Builtin.Range.rangeSize lo hi 1=((hi-lo).toNat:Nat):=by rw[PL];split<;>lia
 refine call_list_range (n:=(hi-lo).toNat) (I.ok.hd hc) e (small_one h1 h2 h3 h4) hn2 (by lia) fun h' tk acc c' hk hS hI=>?_
 have hv:Vals ((List.range (hi-lo).toNat).map fun k=>V.int (lo+(k:Nat))) acc.toList:=by
  rw[Mp];refine dQ _ _ 0 (by simpa using hI.1) fun j v e=>?_
  obtain⟨t,e2⟩:=hI.2 j v (by simpa using e)
  exact⟨t,by rw[e2];simp⟩
 refine⟨.ref s.heap.objs.size,_,I.laid (t':=tk) hk (Lf _) (show aU X.prog X.w _ h' _ (.lst _) from⟨?_,acc.toList,c',hv,by simpa using hS⟩),rfl,q _ (I.aD.fresh (Lf _))⟩
 rw[Ld,L7];exact Lr hn (by decide)
theorem q_(K:Qa)(hK:X.K=K)(hc:X.calm=true):aF X (.type "list") (zl K):=by subst hK;exact mx.or (qR hc)
theorem jy{lo:Int}:∀ l:List Nat,ak K H B (l.map fun k=>V.int (lo+(k:Nat))) (l.map fun k=>T.int (lo+(k:Nat)))
 |[]=>.nil
 |k::l=>.cons (.int _) (jy l)
theorem Ak:RC K (zl K) (vK pz):=jt fun F ad B σ H μ Q Qt x t hK l v1 q k=>by
 subst hK;unfold pz at q
 split at q
 ·cases v1 with
  |lst ha ra=>exact .inl ⟨_,_,rfl,.inl (bz.of ha),fun p hp=>k _ _ _ (Vr.gr l ra hp) (Fr.more hp) q⟩
 ·cases v1 with
  |tup ha ra=>exact .inl ⟨_,_,rfl,.inr (aV.of ha),fun p hp=>k _ _ _ (Vr.gr l ra hp) (Fr.more hp) q⟩
 ·cases v1 with
  |dU ha ra=>exact .inl ⟨_,_,rfl,.inl ha,fun p hp=>k _ _ _ (Vr.gr l ra hp) (Fr.more hp) q⟩
 ·cases v1 with
  |dB ha=>exact .inr ⟨_,_,_,rfl,ha,q.1,q.2.1,q.2.2.1,q.2.2.2.1,q.2.2.2.2.1,fun p hp=>k _ _ _ (Vr.gr l (jy _) hp) (Fr.more hp) q.2.2.2.2.2⟩
 ·exact q.elim
noncomputable def qL:UC:=fun rs μ Q=>match rs with
 |[.tr (.int j)]=>Q (.tr (.dB 0 j)) μ
 |[.tr (.int i),.tr (.int j)]=>Q (.tr (.dB i j)) μ
 |_=>False
noncomputable def sV:List V->Hp->VK->Prop:=fun xs H Q=>(∃ j,xs=[.int j]/\∀ p,H p=none->Q (.ref p) (upd H p (.dB 0 j)))\/(∃ i j,xs=[.int i,.int j]/\∀ p,H p=none->Q (.ref p) (upd H p (.dB i j)))
theorem pw:aF X (.type "range") sV:=by
 intro pins s σ H xs us Q I r h;rcases h with ⟨j,rfl,q⟩|⟨i,j,rfl,q⟩
 ·obtain⟨u,rfl,t,rfl⟩:=vals1 r;refine call_range_1 ?_;exact⟨.ref s.heap.objs.size,_,I.laid (o:=.dB 0 j) (fun b ob q=>KU _ q) (Lf _) (show aU X.prog X.w _ _ _ (.dB 0 j) from⟨_,_,_,Lo _ rfl⟩),rfl,q _ (I.aD.fresh (Lf _))⟩
 ·obtain⟨u,w',rfl,⟨t,rfl⟩,⟨t',rfl⟩⟩:=vals2 r;refine call_range_2 ?_;exact⟨.ref s.heap.objs.size,_,I.laid (o:=.dB i j) (fun b ob q=>KU _ q) (Lf _) (show aU X.prog X.w _ _ _ (.dB i j) from⟨_,_,_,Lo _ rfl⟩),rfl,q _ (I.aD.fresh (Lf _))⟩
theorem wG:RC K sV qL:=by
 intro F ad B σ H μ Q Qt xs rs hK l p q k;have fin:∀ lo hi p,H p=none->Vr F ad B σ (upd H p (.dB lo hi)) μ (.ref p) (.tr (.dB lo hi)):=fun lo hi p hp=>⟨l.same (ba.new hp),.dB (l.kj hp) ah⟩;unfold qL at q
 split at q
 ·cases p with
  |cons h1 p=>cases p;cases aL h1;exact .inl ⟨_,rfl,fun p hp=>k _ _ _ μ (fin _ _ p hp) (Fr.same (ba.new hp)) (Kp.refl μ) q⟩
 ·cases p with
  |cons h1 p=>cases p with
   |cons h2 p=>cases p;cases aL h1;cases aL h2;exact .inr ⟨_,_,rfl,fun p hp=>k _ _ _ μ (fin _ _ p hp) (Fr.same (ba.new hp)) (Kp.refl μ) q⟩
 ·exact q.elim
noncomputable def Eb(g:Int->Int->Int):UC:=fun rs μ Q=>match rs with
 |[.tr (.int i),.tr (.int j)]=>Q (.tr (.int (g i j))) μ
 |_=>False
theorem CF{g:Int->Int->Int}(h:∀ i j H Q,Q (.int (g i j)) H->r [.int i,.int j] H Q):RC K r (Eb g):=by
 intro F ad B σ H μ Q Qt xs rs hK l p q k;unfold Eb at q
 split at q
 ·cases p with
  |cons h1 p=>cases p with
   |cons h2 p=>cases p;cases aL h1;cases aL h2;exact h _ _ _ _ (k _ H _ μ (Vr.flat l (.int _)) Fr.refl (Kp.refl μ) q)
 ·exact q.elim
theorem Fb:RC K Hh (Eb fun i j=>if j > i then j else i):=CF fun i j H Q q=>q
theorem xo:RC K FV (Eb fun i j=>if j<i then j else i):=CF fun i j H Q q=>q
noncomputable def wg:UC:=fun rs μ Q=>match rs with
 |[.tr (.int i)]=>Q (.tr (.int i)) μ
 |[.tr (.bl k)]=>Q (.tr (.int (if k=true then 1 else 0))) μ
 |_=>False
theorem D0:RC K HS wg:=by
 intro F ad B σ H μ Q Qt xs rs hK l p q k;unfold wg at q
 split at q
 ·cases p with
  |cons h1 p=>cases p;cases aL h1;exact k _ H _ μ (Vr.flat l (.int _)) Fr.refl (Kp.refl μ) q
 ·cases p with
  |cons h1 p=>cases p;cases aL h1;exact k _ H _ μ (Vr.flat l (.int _)) Fr.refl (Kp.refl μ) q
 ·exact q.elim
noncomputable def zZ:T->String->Option Bool
 |.aw,c=>some (kC "NoneType" c)
 |.bl _,c=>some (kC "bool" c)
 |.int _,c=>some (kC "int" c)
 |.str _,c=>some (kC "str" c)
 |.lst _,c=>some (kC "list" c)
 |.tup _,c=>some (kC "tuple" c)
 |_,_=>none
noncomputable def pf(ue:UE)(c:String):UE:=fun μ Q=>ue μ fun r μ'=>match cont μ' r with
 |some t=>(match zZ t c with|some b=>Q (.tr (.bl b)) μ'|none=>False)
 |none=>False
theorem Vw.ty{v:V}{t:T}{c:String}{b:Bool}(h:Vw K H B v t)(e:zZ t c=some b):∃ s,CQ H v=some s/\kC s c=b:=by
 cases h with
 |aw=>cases e;exact⟨_,rfl,rfl⟩
 |bl=>cases e;exact⟨_,rfl,rfl⟩
 |int=>cases e;exact⟨_,rfl,rfl⟩
 |str=>cases e;exact⟨_,rfl,rfl⟩
 |tup h r=>cases e;exact⟨_,by unfold CQ;simp only[h],rfl⟩
 |lst h r=>cases e;exact⟨_,by unfold CQ;simp only[h],rfl⟩
 |dU=>cases e
 |dB=>cases e
 |n9=>cases e
 |exc=>cases e
 |AV=>cases e
 |dk=>cases e
theorem Vr.vw{v:V}{r:R}{t:T}(h:Vr F ad B σ H μ v r)(e:cont μ r=some t):Vw F.K H B v t:=by
 have e':cont μ r.d=some t:=by cases r<;>exact e
 exact h.hv.vw h.rl e'
section
variable {X:Cx} {a b c e o:Expr} {es rest:List Expr} {ua ub uc ue uo:UE} {uA uB:UT} {us:UA} {pos p p2 p3:Pos} {x:Str}
theorem KL{C:String}(K:Qa)(hK:X.K=K)(hg:Gl X "isinstance")(hm:X.mg "isinstance"=none)(ha:YE X a ua)(hgc:Gl X x)(hmc:X.mg x=none)(hvc:bootBuiltins x=some (.type C))(hc:autoParam (C∈["bool","int","str","list","tuple","dict"]) ℜ1)(h1:autoParam (bR a=true) ℜ0)
  (hnx:autoParam (x≠"__name__") ℜ1) (hdx:autoParam ((x ==("__debug__":Str))=false) ℜ1):YE X (.Call (.Name "isinstance" p) [a,.Name x p3] [] pos) (pf ua C):=by
 obtain⟨t,q,r⟩:=ha;refine⟨_,Z.cb (Z.G_ K hK) hg hm PyProof.Rows.boot_isinstance (Z.cons q (Z.cons (Z.K7 hgc hmc hvc hnx hdx) Z.nil) h1) h1,fun F ad B σ H μ Q Qt hK l q k=>r F ad B σ H μ _ _ hK l q fun v H' r1 μ' v1 f k1 q1=>?_⟩;show L2.pf K [v,.ty C] H' Q;refine⟨hc,?_⟩
 split at q1
 ·rename_i t e
  split at q1
  ·rename_i b e2;obtain⟨s,e3,e4⟩:=Vw.ty (Vr.vw v1 e) e2;rw[e3];subst e4;exact k _ H' (.tr (.bl _)) μ' (Vr.flat v1.rl (.bl _)) f.d k1 q1
  ·exact q1.elim
 ·exact q1.elim
noncomputable def bM(xs:List α)(lo hi:Option Int):List α:=(xs.drop (HT.bg xs.length 0 lo)).take (HT.bg xs.length xs.length hi-HT.bg xs.length 0 lo)
theorem ak.cut(r:ak K H B vs ts)(lo hi:Option Int):ak K H B (n4 vs lo hi) (bM ts lo hi):=by
 unfold n4 bM;rw[r.length];exact (r.drop _).take _
noncomputable def GB(K:Qa):V->Option Int->Option Int->Hp->VK->Prop:=fun x lo hi H Q=>∃ a xs,x=.ref a/\aV K H a xs/\HT.bg xs.length 0 lo=0/\HT.bg xs.length xs.length hi=xs.length/\Q (.ref a) H
theorem gn{A:Around}{t sl:Addr}{vl vu:Value}{lo hi:Option Int}(ht:IsTup s.heap t items)(hs:s.heap.IsSliceOf sl vl vu .none)(pl:IsPart vl lo)(pu:IsPart vu hi)
  (h1:HT.bg items.size 0 lo=0) (h2:HT.bg items.size items.size hi=items.size) (h:Q (.ref t) s):wpAny (model prog w) A (getItem (.ref t) (.ref sl)) Q E s:=by
 obtain⟨os,hos,hcs,hds⟩:=id hs;have hTs:s.TypeIs (.ref sl) "slice":=⟨os,hos,hcs⟩;unfold getItem
 try with_reducible refine LV ?_
 first|refine KR (Lk ?_)|skip
 refine KR (wpAny_sequenceKey ht.typeIs (by decide) ?_)
 refine KR (LY (name:=Str.ofString "__getitem__") ht.typeIs ME
  (Mo ME ht.typeIs entry_tuple_getitem ?_ (args_tuple_getitem _ _)))
 show wpAny _ _ (Builtin.Tuple.tupleItemsOf (.ref t) >>= _) _ _ s;refine KR (tupleItemsOf_ ht ?_);refine KR (PX hTs ?_);rw[Lg (by decide)]
 refine KR (HT.e8 hs pl pu ?_);show wpAny _ _ (if (((HT.bg items.size 0 lo:Nat):Int) == 0 && (1:Int) == 1 && (HT.bg items.size items.size hi-HT.bg items.size 0 lo) == items.size)=true then _ else _) _ _ s
 rw[Lg (by rw[h1,h2];simp)]
 unfold Builtin.Tuple.tupleIsExact;refine KR ?_;refine KR (PX ht.typeIs (Lk ?_));rw[Lg (by decide)]
 exact KR (OQ (Lk ⟨_,rfl,Lk h⟩))
theorem D7:vM X (GB X.K):=by
 intro pins s σ H x v vl vu lo hi sl Q I rx hs pl pu h;obtain⟨a,xs,rfl,hx,h1,h2,q⟩:=h;cases rx;obtain⟨its,r,ht,hz⟩:=I.tuple hx;have hlen:its.toArray.size=xs.length:=by rw[Lh];exact r.length.symm
 exact⟨"tuple",_,ME.lookup,ht.typeIs,gn ht hs pl pu (by rw[hlen];exact h1) (by rw[hlen];exact h2) ⟨.ref a,H,I,rfl,q⟩⟩
noncomputable def G9(K:Qa):V->Option Int->Option Int->Hp->VK->Prop:=fun x lo hi H Q=>G6 K x lo hi H Q\/Be K x lo hi H Q\/GB K x lo hi H Q
theorem IT(K:Qa)(hK:X.K=K):vM X (G9 K):=by subst hK;exact zV.or (Dw.or D7)
noncomputable def Jx(ue:UE)(ul uh:UO):UE:=fun μ Q=>ue μ fun r μ1=>ul μ1 fun lo μ2=>uh μ2 fun hi μ3=>match cont μ3 r.d with
 |some (.lst xs)=>Q (.fr (.lst (bM xs lo hi))) μ3
 |some (.dU xs)=>Q (.fr (.lst (bM xs lo hi))) μ3
 |some (.tup xs)=>Q (.tr (.tup (bM xs lo hi))) μ3
 |_=>False
end
end Y
structure qk (F:Fx) (B:aE) (H:Hp) (D:Ends) (E:Ed):Prop where
 nx:∀ ad' B' σ' H' μ',Rl F ad' B' σ' H' μ'->Fr B H B' H'->E.nx μ'->D.nx σ' H'
 rt:∀ ad' B' σ' H' μ' v r,Vr F ad' B' σ' H' μ' v r->E.rt r μ'->D.rt v H'
 bk:∀ ad' B' σ' H' μ',Rl F ad' B' σ' H' μ'->Fr B H B' H'->E.bk μ'->D.bk σ' H'
 ct:∀ ad' B' σ' H' μ',Rl F ad' B' σ' H' μ'->Fr B H B' H'->E.ct μ'->D.ct σ' H'
theorem qk.step{E:Ed}(h:qk F B H D E)(f:Fr B H B1 H1):qk F B1 H1 D E:=
 ⟨fun ad' B' σ' H' μ' l g q=>h.nx ad' B' σ' H' μ' l (f.trans g) q,h.rt,fun ad' B' σ' H' μ' l g q=>h.bk ad' B' σ' H' μ' l (f.trans g) q,fun ad' B' σ' H' μ' l g q=>h.ct ad' B' σ' H' μ' l (f.trans g) q⟩
noncomputable def RS(K:Qa)(ts:TS)(us:US):Prop:=∀(F:Fx) (D:Ends) (E:Ed) (ad:Nat->Addr) (B:aE) (σ:St) (H:Hp) (μ:Mu),F.K=K->Rl F ad B σ H μ->us E μ->qk F B H D E->ts D σ H
abbrev UG:=R->Mu->(Mu->Prop)->Prop
abbrev rX:=List T->Mu->(Mu->Prop)->Prop
noncomputable def RG(K:Qa)(g:TG)(ug:UG):Prop:=∀(F:Fx) (ad:Nat->Addr) (B:aE) (σ:St) (H:Hp) (μ:Mu) (v:V) (r:R) (B0:aE) (H0:Hp) (Q:St->Hp->Prop) (Qt:Mu->Prop),F.K=K->Vr F ad B σ H μ v r->Fr B0 H0 (Bv B v r) H->ug r μ Qt ->
 (∀ ad' B' σ' H' μ',Rl F ad' B' σ' H' μ'->Fr B0 H0 B' H'->Qt μ'->Q σ' H')->g v σ H Q
noncomputable def KC(K:Qa)(g:rF)(ug:rX):Prop:=∀(F:Fx) (ad:Nat->Addr) (B:aE) (σ:St) (H:Hp) (μ:Mu) (vs:List V) (ts:List T) (B0:aE) (H0:Hp) (Q:St->Hp->Prop) (Qt:Mu->Prop),F.K=K->Rl F ad B σ H μ->ak F.K H B vs ts->Fr B0 H0 B H->ug ts μ Qt ->
 (∀ ad' B' σ' H' μ',Rl F ad' B' σ' H' μ'->Fr B0 H0 B' H'->Qt μ'->Q σ' H')->g vs σ H Q
structure YG (X:Cx) (e:Expr) (u:UG):Prop where
 ex:∃ t,QG X e t/\RG X.K t u
structure GK (X:Cx) (es:List Expr) (u:rX):Prop where
 ex:∃ t,HD X es t/\KC X.K t u
structure YS (X:Cx) (st:Stmt) (u:US):Prop where
 ex:∃ t,QS X st t/\RS X.K t u
structure YB (X:Cx) (sts:List Stmt) (u:US):Prop where
 ex:∃ t,QB X sts t/\RS X.K t u
namespace Y
noncomputable def vG(μ:Mu)(i:Nat):Prop:=match μ[i]? with
 |some (.pb _)=>False
 |_=>True
theorem ng(h:vG μ i):∀ c,μ[i]?≠some (.pb c):=fun c e=>by unfold vG at h;rw[e] at h;exact h
noncomputable def gN(i:Nat):UG:=fun r μ Q=>match r with
 |.tr t=>vG μ i/\Q (μ.set i (.tr t))
 |.fr c=>vG μ i/\Q (μ.set i (.bx c))
 |.br _=>False
section
variable {X:Cx} {a b c e o tg:Expr} {es rest:List Expr} {ua ub uc ue uo:UE} {uA uB:UT} {us:UA} {pos pos' p p2 p3:Pos} {x:Str} {st:Stmt} {sts xs ys:List Stmt} {u w:US}
theorem iH:RG K (bC i) (gN i):=fun F ad B σ H μ v r B0 H0 Q Qt hK h f q k=>by
 cases r with
 |tr t=>exact k ad B _ H _ (h.1.DO (ng q.1) h.2) f q.2
 |br i=>exact q.elim
 |fr c =>
  obtain⟨l,a,rfl,n,h0,l2,x⟩:=h;exact k _ _ _ H _ (l2.setB (ng q.1) h0 n l.own l.gB x) f q.2
theorem ax(hN:X.N.Nodup)(hi:X.N[i]?=some x)(hx:Loc X.env.scope x)(hf:autoParam (X.fn x=true\/X.env.scope.names.lookup x=some .local) ℜ2):YG X (.Name x pos) (gN i):=⟨_,Z.ax hN hi hx hf,iH⟩
noncomputable def Ir:rX:=fun ts μ Q=>match ts with
 |[]=>Q μ
 |_=>False
noncomputable def Ip(g:UG)(gs:rX):rX:=fun ts μ Q=>match ts with
 |[]=>False
 |t::ts=>g (.tr t) μ fun μ'=>gs ts μ' Q
theorem eQ:GK X [] Ir:=⟨_,Z.eQ,fun F ad B σ H μ vs ts B0 H0 Q Qt hK l r f q k=>by
 cases r with
 |nil=>exact⟨rfl,k ad B σ H μ l f q⟩
 |cons=>exact q.elim⟩
theorem aW{g:UG}{gs:rX}(h1:YG X e g)(h2:GK X es gs)(hs:autoParam ((assignEach (e::es) X.env).map (·.2)=assign e X.env::(assignEach es X.env).map (·.2)) ℜ0):GK X (e::es) (Ip g gs):=by
 obtain⟨t,q,r⟩:=h1;obtain⟨t',q',r'⟩:=h2;refine⟨_,Z.aW q q' hs,fun F ad B σ H μ vs ts B0 H0 Q Qt hK l rs f q k=>?_⟩
 cases rs with
 |nil=>exact q.elim
 |cons h hr=>exact⟨_,_,rfl,r F ad B σ H μ _ (.tr _) B H _ _ hK ⟨l,h⟩ Fr.refl q fun ad' B' σ' H' μ' l' f' q'=>r' F ad' B' σ' H' μ' _ _ B0 H0 _ _ hK l' (hr.fr f') (f.trans f') q' k⟩
noncomputable def gT(n:Nat)(gs:rX):UG:=fun r μ Q=>match cont μ r.d with
 |some (.tup ts)=>ts.length=n/\gs ts μ Q
 |some (.lst ts)=>ts.length=n/\gs ts μ Q
 |_=>False
noncomputable def GY(K:Qa)(n:Nat)(t:rF):TG:=fun v σ H Q=>∃ a xs,v=.ref a/\(aV K H a xs\/bz K H a xs)/\xs.length=n/\t xs σ H Q
theorem lB{prog:Program}{w:World}{A:Around}{E:Value->Shared->Prop}{t:Addr}(hne:t≠it):∀(n i:Nat) (s:Shared) (Q:List Value->Shared->Prop),s.heap.IsListIter it t i->s.heap.IsList t items->i+n<=items.size ->
  (∀ h',h'.IsListIter it t (i+n)->Heap.SameBut it s.heap h'->Q ((items.toList.drop i).take n) {s with heap:=h'})->wpAny (model prog w) A (draw (.ref it) n) Q E s
 |0,i,s,Q,hit,_,_,hQ=>by
  show wpAny _ _ (pure []) Q E s;exact Lk (by simpa using hQ s.heap hit (Heap.SameBut.refl ..))
 |n+1,i,s,Q,hit,ht,hle,hQ=>by
  have hlt:i<items.size:=by lia
  show wpAny _ _ (pyNext (.ref it) >>= _) Q E s;refine KR (Pu hit ht (x:=items[i]) (by simp[hlt]) fun h₁ hit₁ hs₁=>?_)
  refine KR (LV (lB hne n (i+1) _ _ hit₁ (ht.extBut hs₁.extBut hne) (by lia) fun h₂ hit₂ hs₂=>Lk ?_))
  have hd:items.toList.drop i=items[i]::items.toList.drop (i+1):=by simp[LJ,hlt]
  have:=hQ h₂ (by rw[show i+(n+1)=i+1+n by lia];exact hit₂) (hs₁.trans hs₂)
  rw[hd,Nj] at this;exact this
theorem gP{w:World}{A:Around}{t:Addr}{Q:List Value->Shared->Prop}(hh:A.handled=none)(ht:s.heap.IsList t items)
  (hQ:∀ h',Heap.ExtBut s.heap.objs.size s.heap h'->Q items.toList {s with heap:=h'}):wpAny (model prog w) A (unpackItems (.ref t) items.size none) Q E s:=by
 have hlt:t≠s.heap.objs.size:=by obtain⟨o,ho,_⟩:=ht;exact L9 (Lq ho)
 unfold unpackItems;refine KR ?_
 ·unfold notIterableAtAll;refine KR (wpAny_specialOf ht.typeIs F.slot_list_iter.lookup ?_);refine Lk ?_;simp only[Ma,M8];refine KR (LV (MG ht ?_));refine KR (LV (lB hlt items.size 0 _ _ ⟨_,Lo _ rfl,rfl,rfl⟩ (ht.push _) (by lia) fun h₁ hit₁ hs₁=>?_))
  have hall:List.take items.size (List.drop 0 items.toList)=items.toList:=by
   rw[Nb];exact MQ (by simp)
  rw[hall];rw[K_ (by simp)]
  have ht₁:h₁.IsList t items:=(ht.push _).extBut hs₁.extBut hlt;refine KR (LV (wpAny_pyNext_list_end hh hit₁ ht₁ (by simp) fun h₂ he₂=>?_))
  simp only[Option.isSome_none,Ma,M8];refine Lk (hQ h₂ fun b o hb e=>he₂ b o hb (hs₁.extBut b o hb (KU _ e)))
theorem zQ{t:rF}(hc:X.calm=true)(h:Fw X es t)
  (hn:autoParam ((assignEach es X.env).length=n) ℜ0) (hst:autoParam ((assignEach es X.env).findIdx? (·.1)=none) ℜ0):PG X (.Tuple es k pos) (GY X.K n t):=by
 intro pins s σ H v u Q I r hw;obtain⟨a,xs,e1,hq,hl,hw⟩:=hw;rcases hq with hq|hq
 ·exact xN hc h hn hst pins s σ H v u Q I r ⟨a,xs,e1,hq,hl,hw⟩
 ·subst e1;cases r;obtain⟨its,rv,ht,hz⟩:=I.list hq;rw[assign_Tuple];refine KR (NW ?_);unfold unpack;have hsz:(assignEach es X.env).length=its.toArray.size:=by rw[hn,<- hl,rv.length];simp
  rw[hsz,hst];refine KR (LV (gP (I.ok.hd hc) ht.isList fun h' hx=>?_));have I1:Inv X pins σ H {s with heap:=h'}:=I.kept (t':=s.toks) fun b o e=>hx b o (L9 (Lq e)) e
  exact h pins _ σ H xs _ Q I1 (by simpa using rv) hw
theorem pZ(K:Qa)(hK:X.K=K){gs:rX}(hc:X.calm=true)(h:GK X es gs)(hn:autoParam ((assignEach es X.env).length=n) ℜ0)(hst:autoParam ((assignEach es X.env).findIdx? (·.1)=none) ℜ0):YG X (.Tuple es k pos) (gT n gs):=by
 obtain⟨t,q,r⟩:=h;subst hK;refine⟨_,⟨zQ hc q.h hn hst⟩,fun F ad B σ H μ v rr B0 H0 Q Qt hF h f q k=>?_⟩;have l:=h.rl;have f':Fr B0 H0 B H:=fun b o h n=>⟨(f b o h n).1,fun z=>(f b o h n).2 (by cases rr<;>first|exact z | (cases v<;>first|exact z|exact .inr z))⟩
 unfold gT at q
 split at q
 ·rename_i ts e;have w:=h.hv.vw l e;rw[hF] at w
  cases w with
  |tup ha ra=>exact⟨_,_,rfl,.inl (aV.of ha),by rw[ra.length];exact q.1,r F ad B σ H μ _ ts B0 H0 Q Qt hF l (by rw[hF];exact ra) f' q.2 k⟩
 ·rename_i ts e;have w:=h.hv.vw l e;rw[hF] at w
  cases w with
  |lst ha ra=>exact⟨_,_,rfl,.inr (bz.of ha),by rw[ra.length];exact q.1,r F ad B σ H μ _ ts B0 H0 Q Qt hF l (by rw[hF];exact ra) f' q.2 k⟩
 ·exact q.elim
theorem cW:YB X [] (fun E μ=>E.nx μ):=⟨_,Z.cW,fun F D E ad B σ H μ hK l q h=>h.nx ad B σ H μ l Fr.refl q⟩
theorem ay(h:YS X st u):YB X [st] u:=by obtain⟨t,q,r⟩:=h;exact⟨t,Z.ay q,r⟩
noncomputable def BN(u w:US):US:=fun E μ=>u {E with nx:=w E} μ
theorem ai(h:YS X st u)(h2:YB X sts w):YB X (st::sts) (BN u w):=by
 obtain⟨t,q,r⟩:=h;obtain⟨t',q',r'⟩:=h2;exact⟨_,Z.ai q q',fun F D E ad B σ H μ hK l q h=>r F {D with nx:=t' D} {E with nx:=w E} ad B σ H μ hK l q
  ⟨fun ad1 B1 σ1 H1 μ1 l1 f1 q1=>r' F D E ad1 B1 σ1 H1 μ1 hK l1 q1 (h.step f1),h.rt,h.bk,h.ct⟩⟩
noncomputable def ko(ue:UE)(g:UG):US:=fun E μ=>ue μ fun r μ'=>g r μ' E.nx
theorem hG{tg:TG}{g:UG}(he:RE K te ue)(hg:RG K tg g):RS K (j6 te tg) (ko ue g):=fun F D E ad B σ H μ hK l q h =>
 he F ad B σ H μ _ _ hK l q fun v H' r μ' v1 f k1 q1=>hg F ad B σ H' μ' v r B H _ _ hK v1 f q1 fun ad' B' σ' H2 μ2 l2 f2 q2=>h.nx ad' B' σ' H2 μ2 l2 f2 q2
theorem set(hN:X.N.Nodup)(hi:X.N[i]?=some x)(hx:Loc X.env.scope x)(he:YE X e ue)(hs:autoParam (Z.C4 e=true) ℜ0)(hf:autoParam (X.fn x=true\/X.env.scope.names.lookup x=some .local) ℜ2):
  YS X (.Assign [.Name x pos'] e pos) (ko ue (gN i)):=by
 obtain⟨t,q,r⟩:=he;exact⟨_,Z.set hN hi hx q hs hf,hG r iH⟩
theorem asg{g:UG}(he:YE X e ue)(hg:YG X tg g)(hs:autoParam (swapsWithSole [tg] e pos.line X.env=pure false) ℜ0)(hw:autoParam (swappedStores [tg] e X.env=pure none) ℜ0)
  (h1:autoParam ((assignEach [tg] X.env).map (·.2)=[assign tg X.env]) ℜ0):YS X (.Assign [tg] e pos) (ko ue g):=by
 obtain⟨t,q,r⟩:=he;obtain⟨t',q',r'⟩:=hg;exact⟨_,Z.asg q q' hs hw h1,hG r r'⟩
noncomputable def vn(ue:UE):US:=fun E μ=>ue μ E.rt
theorem ret(he:YE X e ue):YS X (.Return (some e) pos) (vn ue):=by
 obtain⟨t,q,r⟩:=he;exact⟨_,Z.ret q,fun F D E ad B σ H μ hK l q h=>r F ad B σ H μ _ _ hK l q fun v H' r1 μ' v1 f k1 q1=>h.rt ad B σ H' μ' v r1 v1 q1⟩
noncomputable def tF(ue:UE):US:=fun E μ=>ue μ fun _ μ'=>E.nx μ'
theorem expr(he:YE X e ue)(hs:autoParam (Z.C4 e=true) ℜ0):YS X (.Expr e pos) (tF ue):=by
 obtain⟨t,q,r⟩:=he;exact⟨_,Z.expr q hs,fun F D E ad B σ H μ hK l q h=>r F ad B σ H μ _ _ hK l q fun v H' r1 μ' v1 f k1 q1=>h.nx ad B σ H' μ' v1.rl f.d q1⟩
noncomputable def B6(c:UT)(u w:US):US:=fun E μ=>c μ fun b μ'=>if b=true then u E μ' else w E μ'
theorem hW(hc:YT X c uA)(ha:YB X xs u)(hb:YB X ys w):YS X (.If c xs ys pos) (B6 uA u w):=by
 obtain⟨tc,qc,rc⟩:=hc;obtain⟨t,q,r⟩:=ha;obtain⟨t',q',r'⟩:=hb;refine⟨_,Z.hW qc q q',fun F D E ad B σ H μ hK l q h=>rc F ad B σ H μ _ _ hK l q fun b H' μ' l1 f k1 q1=>?_⟩
 cases b with
 |true=>rw[Lg rfl] at q1 ⊢;exact r F D E ad B σ H' μ' hK l1 q1 (h.step f)
 |false=>rw[K_ Lm] at q1 ⊢;exact r' F D E ad B σ H' μ' hK l1 q1 (h.step f)
end
end Y
structure i8 (K:Qa) (J:It) (Src:Hp->aE->Prop) (items:List T):Prop where
 step:∀ H B i t,(∀ b,B b->∃ o,H b=some o)->Src H B->items[i]?=some t->J.go i H/\∀ x H2,J.Ar i H x H2->ba H H2/\Rep K H2 B x t
 stop:∀ H B,Src H B->J.stop items.length H
theorem i8.imp{J:It}{Src':Hp->aE->Prop}{items:List T}(h:i8 K J Src items)(f:∀ H B,Src' H B->Src H B):i8 K J Src' items:=⟨fun H B i t hb s e=>h.step H B i t hb (f H B s) e,fun H B s=>h.stop H B (f H B s)⟩
noncomputable def HY(F:Fx)(ad:Nat->Addr)(Src:Hp->aE->Prop):Option (Nat×List T)->Prop
 |none=>∀ B1 H1 B2 H2,Fr B1 H1 B2 H2->Src H1 B1->Src H2 B2
 |some (j,ls)=>(∀ B' σ' H' μ',Rl F ad B' σ' H' μ'->cont μ' (.br j)=some (.lst ls)->Src H' B')/\∀ B' H',Rep F.K H' B' (.ref (ad j)) (.lst ls)->Src H' B'
abbrev UI:=Mu->(List T->Option (Nat×List T)->Mu->Prop)->Prop
noncomputable def RI(K:Qa)(wi:TI)(ui:UI):Prop:=∀(F:Fx) (ad:Nat->Addr) (B:aE) (σ:St) (H:Hp) (μ:Mu) (R:It->Hp->Prop) (Rt:List T->Option (Nat×List T)->Mu->Prop),F.K=K->Rl F ad B σ H μ->ui μ Rt ->
 (∀ J H' μ' items gd Src,Rl F ad B σ H' μ'->Fr B H B H'->Kp μ μ'->i8 K J Src items->Src H' B->HY F ad Src gd->(∀ j ls,gd=some (j,ls)->cont μ' (.br j)=some (.lst ls))->Rt items gd μ'->R J H')->wi σ H R
structure YI (X:Cx) (tg it:Expr) (u:UI):Prop where
 ex:∃ t,QI X tg it t/\RI X.K t u
theorem vQ:i8 K (rH K a) (fun H B=>∃ vs,bz K H a vs/\ak K H B vs ts) ts:=
 ⟨fun H B i t hb ⟨vs,h,r⟩ e=>by
  obtain⟨v,e1,rv⟩:=r.get e;refine⟨⟨vs,v,h,e1⟩,fun x H2 y=>?_⟩;obtain⟨rfl,y⟩:=y;have:=y vs h;rw[e1] at this;cases this;exact⟨ba.refl _,rv⟩,fun H B ⟨vs,h,r⟩=>⟨vs,h,by rw[r.length];exact Lf _⟩⟩
theorem Dp:i8 K (vL K a) (fun H B=>∃ vs,aV K H a vs/\ak K H B vs ts) ts:=
 ⟨fun H B i t hb ⟨vs,h,r⟩ e=>by
  obtain⟨v,e1,rv⟩:=r.get e;refine⟨⟨vs,v,h,e1⟩,fun x H2 y=>?_⟩;obtain⟨rfl,y⟩:=y;have:=y vs h;rw[e1] at this;cases this;exact⟨ba.refl _,rv⟩,fun H B ⟨vs,h,r⟩=>⟨vs,h,by rw[r.length];exact Lf _⟩⟩
noncomputable def pairs(ts:List T):List T:=(List.range ts.length).map fun i=>.tup [.int (i:Nat),(ts[i]?).getD .aw]
theorem Fn:i8 K (Bi K a) (fun H B=>∃ vs,aV K H a vs/\ak K H B vs ts) (pairs ts):=by
 refine⟨fun H B i t hb ⟨vs,h,r⟩ e=>?_,fun H B ⟨vs,h,r⟩=>⟨vs,h,by rw[r.length];simp[pairs]⟩⟩
 unfold pairs at e;rw[Lw] at e;have hi:i<ts.length:=by
  rcases M5 i ts.length with z|z
  ·exact z
  ·rw[Mf.mpr (by simpa using z)] at e;cases e
 rw[ML hi] at e;have e':T.tup [.int (i:Nat),(ts[i]?).getD .aw]=t:=Option.some.inj e;have et:ts[i]?=some ts[i]:=KY hi;obtain⟨v,e1,rv⟩:=r.get et;refine⟨⟨v,vs,h,e1⟩,fun x H2 y=>?_⟩;obtain⟨p,y,hy,hp,rfl,rfl⟩:=y;have:=hy vs h;rw[e1] at this;cases this;subst e';rw[et];refine⟨ba.new hp,.tup (fun z=>?_) ah (.cons (.int _) (.cons (rv.fr (Fr.same (ba.new hp))) .nil))⟩;obtain⟨o,q⟩:=hb p z;rw[hp] at q;cases q
theorem yT{lo:Int}:i8 K (FO lo n) (fun _ _=>True) ((List.range n).map fun k=>T.int (lo+(k:Nat))):=
 ⟨fun H B i t hb _ e=>by
  rw[Lw] at e;have hi:i<n:=by
   rcases M5 i n with z|z
   ·exact z
   ·rw[Mf.mpr (by simpa using z)] at e;cases e
  rw[ML hi] at e;refine⟨hi,fun x H2 y=>?_⟩;obtain⟨rfl,rfl⟩:=y;cases e;exact⟨ba.refl _,.int _⟩,fun H B _=>by simp[FO]⟩
noncomputable def yt(K:Qa)(tl:TE):TI:=fun σ H R=>tl σ H fun x H1=>∃ a,x=V.ref a/\(((∃ xs,bz K H1 a xs)/\R (rH K a) H1)\/((∃ xs,aV K H1 a xs)/\R (vL K a) H1))
theorem xh{l:Expr}(hl:PE X l tl):PI X tg l (yt X.K tl):=by
 intro pins s σ H R I h;refine bE (hl pins s σ H _ I h) fun v s1 ⟨x,H1,I1,r1,q1⟩=>?_;obtain⟨a,rfl,q⟩:=q1;cases r1;rcases q with ⟨⟨xs,hq⟩,q⟩|⟨⟨xs,hq⟩,q⟩
 ·obtain⟨its,rv,p,hz⟩:=I1.list hq;refine MG p.isList ?_;refine⟨s1.heap.objs.size,[s1.heap.objs.size],_,_,H1,rfl,I1.kept (t':=s1.toks) fun b o e=>KU _ e,kK a _,⟨_,Lo _ rfl,rfl,rfl⟩,fun b hb=>?_,q⟩;have e:b=s1.heap.objs.size:=by simpa using hb
  subst e;exact I1.pF (Lf _) (I1.aD.fresh (Lf _))
 ·obtain⟨its,rv,p,hz⟩:=I1.tuple hq;refine Mt (show s1.heap.IsTuple a its.toArray from p) ?_;refine⟨s1.heap.objs.size,[s1.heap.objs.size],_,_,H1,rfl,I1.kept (t':=s1.toks) fun b o e=>KU _ e,jP a _,⟨_,Lo _ rfl,rfl,rfl⟩,fun b hb=>?_,q⟩;have e:b=s1.heap.objs.size:=by simpa using hb
  subst e;exact I1.pF (Lf _) (I1.aD.fresh (Lf _))
namespace Y
section
variable {X:Cx} {a b c e o tg it:Expr} {es rest:List Expr} {ua ub uc ue uo:UE} {uA uB:UT} {us:UA} {pos pos' p p2 p3:Pos} {x:Str} {st:Stmt} {sts xs ys:List Stmt} {u w:US}
noncomputable def CM(ue:UE):UI:=fun μ Rt=>ue μ fun r μ'=>match r with
 |.br j=>(match cont μ' (.br j) with|some (.lst ts)=>Rt ts (some (j,ts)) μ'|_=>False)
 |.tr (.lst ts)=>Rt ts none μ'
 |.fr (.lst ts)=>Rt ts none μ'
 |.tr (.tup ts)=>Rt ts none μ'
 |.tr (.dU ts)=>Rt ts none μ'
 |.tr (.dk ts)=>Rt ts none μ'
 |_=>False
theorem any(K:Qa)(hK:X.K=K)(he:YE X e ue):YI X tg e (CM ue):=by
 obtain⟨t,q,r⟩:=he;subst hK;refine⟨_,⟨xh q.h⟩,fun F ad B σ H μ R Rt hF l q k=>r F ad B σ H μ _ _ hF l q fun v H' r1 μ' v1 f k1 q1=>?_⟩;have hv:=v1.hv;have l1:=v1.rl;have go:∀(ts:List T) (a:Addr) (t:T),v=.ref a->Rep F.K H' B (.ref a) t->(t=.lst ts\/t=.dU ts)->Rt ts none μ'->∃ a,v=V.ref a/\(((∃ xs,bz X.K H' a xs)/\R (rH X.K a) H')\/((∃ xs,aV X.K H' a xs)/\R (vL X.K a) H')):=fun ts a t ev rp et q=>by
  have sr:∀ H B,Rep F.K H B (.ref a) t->∃ vs,bz X.K H a vs/\ak X.K H B vs ts:=fun H B h=>by
   rw[hF] at h;rcases et with rfl|rfl
   ·cases h with|lst n h r=>exact⟨_,bz.of h,r⟩
   ·cases h with|dU h r=>exact⟨_,h.sq,r⟩
  obtain⟨vs,h1,_⟩:=sr _ _ rp;exact⟨a,ev,.inl ⟨⟨vs,h1⟩,k _ H' μ' ts none (fun H B=>Rep F.K H B (.ref a) t) l1 f.d k1 (vQ.imp sr) rp (fun B1 H1 B2 H2 f h=>h.fr f) (fun j ls z=>by cases z) q⟩⟩
 have goT:∀(ts:List T) (a:Addr) (t:T),v=.ref a->Rep F.K H' B (.ref a) t->(t=.tup ts\/t=.dk ts)->Rt ts none μ'->∃ a,v=V.ref a/\(((∃ xs,bz X.K H' a xs)/\R (rH X.K a) H')\/((∃ xs,aV X.K H' a xs)/\R (vL X.K a) H')):=fun ts a t ev rp et q=>by
  have sr:∀ H B,Rep F.K H B (.ref a) t->∃ vs,aV X.K H a vs/\ak X.K H B vs ts:=fun H B h=>by
   rw[hF] at h;rcases et with rfl|rfl
   ·cases h with|tup n h r=>exact⟨_,aV.of h,r⟩
   ·cases h with|dk h r=>exact⟨_,.inr h,r⟩
  obtain⟨vs,h1,_⟩:=sr _ _ rp;exact⟨a,ev,.inr ⟨⟨vs,h1⟩,k _ H' μ' ts none (fun H B=>Rep F.K H B (.ref a) t) l1 f.d k1 (Dp.imp sr) rp (fun B1 H1 B2 H2 f h=>h.fr f) (fun j ls z=>by cases z) q⟩⟩
 split at q1
 ·rename_i j
  split at q1
  ·rename_i ts e;obtain⟨ev,s,c,e1,e2⟩:=hv;have src:∀ B' σ' H' μ',Rl F ad B' σ' H' μ'->cont μ' (.br j)=some (.lst ts)->∃ vs,bz X.K H' (ad j) vs/\ak X.K H' B' vs ts:=fun B' σ' H' μ' l e=>by
    have e3:(μ'[j]?).bind Sl.box=some (.lst ts):=e
    cases q:μ'[j]? with
    |none=>rw[q] at e3;cases e3
    |some s' =>
     rw[q] at e3;have bx:=((l.slot j s' q).boxed (c:=.lst ts) e3).2.2.1;rw[hF] at bx;obtain⟨vs,h1,h2⟩:=bx;exact⟨vs,bz.of h1,h2⟩
   obtain⟨vs,h1,h2⟩:=src _ _ _ _ l1 e;refine⟨ad j,ev,.inl ⟨⟨vs,h1⟩,k _ H' μ' ts (some (j,ts)) _ l1 f.d k1 vQ ⟨vs,h1,h2⟩ ⟨src,fun B' H' h=>?_⟩ (fun j' ls z=>by cases z;exact e) q1⟩⟩
   rw[hF] at h
   cases h with|lst n h r=>exact⟨_,bz.of h,r⟩
  ·exact q1.elim
 ·have rp:Rep F.K H' B v _:=hv
  cases rp with|lst n h r=>exact go _ _ _ rfl (.lst n h r) (.inl rfl) q1
 ·have rp:Rep F.K H' B v _:=hv
  cases rp with|lst n h r=>exact go _ _ _ rfl (.lst n h r) (.inl rfl) q1
 ·have rp:Rep F.K H' B v _:=hv
  cases rp with|tup n h r=>exact goT _ _ _ rfl (.tup n h r) (.inl rfl) q1
 ·have rp:Rep F.K H' B v _:=hv
  cases rp with|dU h r=>exact go _ _ _ rfl (.dU h r) (.inr rfl) q1
 ·have rp:Rep F.K H' B v _:=hv
  cases rp with|dk h r=>exact goT _ _ _ rfl (.dk h r) (.inr rfl) q1
 ·exact q1.elim
noncomputable def IA(us:UA):UI:=fun μ Rt=>us μ fun rs μ'=>match rs with
 |[.tr (.int j)]=>-(2^62)<=j/\j<2^62/\Rt ((List.range j.toNat).map fun k=>T.int (0+(k:Nat))) none μ'
 |_=>False
noncomputable def Il(us:UA):UI:=fun μ Rt=>us μ fun rs μ'=>match rs with
 |[.tr (.int i),.tr (.int j)]=>(-(2^62)<=i/\i<2^62/\-(2^62)<=j/\j<2^62)/\Rt ((List.range (j-i).toNat).map fun k=>T.int (i+(k:Nat))) none μ'
 |_=>False
theorem kE(hg:Gl X "range")(hm:X.mg "range"=none)(ha:YA X [a] us)(h:autoParam (bR a=true) ℜ0):YI X tg (.Call (.Name "range" p) [a] [] pos) (IA us):=by
 obtain⟨t,q,r⟩:=ha;refine⟨_,Z.kE hg hm q h,fun F ad B σ H μ R Rt hF l q k=>r F ad B σ H μ _ _ hF l q fun vs H' rs μ' l1 ps f k1 q1=>?_⟩
 split at q1
 ·cases ps with
  |cons h1 ps=>cases ps;cases aL h1;exact⟨_,rfl,q1.1,q1.2.1,k _ H' μ' _ none _ l1 f k1 yT trivial (fun _ _ _ _ _ _=>trivial) (fun j ls z=>by cases z) q1.2.2⟩
 ·exact q1.elim
theorem E3(hg:Gl X "range")(hm:X.mg "range"=none)(ha:YA X [a,b] us)(h:autoParam (bR a=true) ℜ0)(h2:autoParam (bR b=true) ℜ0):YI X tg (.Call (.Name "range" p) [a,b] [] pos) (Il us):=by
 obtain⟨t,q,r⟩:=ha;refine⟨_,Z.E3 hg hm q h h2,fun F ad B σ H μ R Rt hF l q k=>r F ad B σ H μ _ _ hF l q fun vs H' rs μ' l1 ps f k1 q1=>?_⟩
 split at q1
 ·cases ps with
  |cons h1 ps=>cases ps with
   |cons h2 ps=>cases ps;cases aL h1;cases aL h2;exact⟨_,_,rfl,q1.1,k _ H' μ' _ none _ l1 f k1 yT trivial (fun _ _ _ _ _ _=>trivial) (fun j ls z=>by cases z) q1.2⟩
 ·exact q1.elim
noncomputable def Io(us:UA):UI:=fun μ Rt=>us μ fun rs μ'=>match rs with
 |[.tr (.tup ts)]=>Rt (pairs ts) none μ'
 |_=>False
theorem enum(K:Qa)(hK:X.K=K)(hg:Gl X "enumerate")(hm:X.mg "enumerate"=none)(ha:YA X [e] us)(h1:autoParam (bR e=true) ℜ0):YI X (.Tuple es k tp) (.Call (.Name "enumerate" p) [e] [] pos) (Io us):=by
 obtain⟨t,q,r⟩:=ha;refine⟨_,Z.enum K hK hg hm q h1,fun F ad B σ H μ R Rt hF l q k=>r F ad B σ H μ _ _ hF l q fun vs H' rs μ' l1 ps f k1 q1=>?_⟩;have hF':F.K=K:=hF.trans hK
 split at q1
 ·rename_i ts
  cases ps with
  |cons h1 ps =>
   cases ps;have rp:=aL h1
   cases rp with
   |@tup a vs _ n h rr =>
    have sr:∀ H B,Rep F.K H B (.ref a) (.tup ts)->∃ vs,aV X.K H a vs/\ak X.K H B vs ts:=fun H B h=>by
     rw[hF] at h
     cases h with|tup n h r=>exact⟨_,aV.of h,r⟩
    refine⟨a,rfl,⟨vs,aV.of h⟩,?_⟩;have:=k (Bi X.K a) H' μ' (pairs ts) none (fun H B=>Rep F.K H B (.ref a) (.tup ts)) l1 f k1 (Fn.imp sr) (.tup n h rr) (fun B1 H1 B2 H2 f h=>h.fr f) (fun j ls z=>by cases z) q1
    rw[hK] at this;exact this
 ·exact q1.elim
noncomputable def fo(g:UG)(body:US)(E:Ed):List T->Mu->Prop
 |[],μ=>E.nx μ
 |t::ts,μ=>g (.tr t) μ fun μ1=>body {E with nx:=fo g body E ts,ct:=fo g body E ts,bk:=E.nx} μ1
noncomputable def vU(ui:UI)(g:UG)(body:US):US:=fun E μ=>ui μ fun items gd μ'=>match gd with
 |none=>fo g body E items μ'
 |some (j,_)=>(match μ'[j]? with
  |some (.bx c)=>fo g body E items (μ'.set j (.tr c))
  |_=>False)
theorem pB{g:TG}{ug:UG}{tb:TS}{body:US}{E:Ed}{J:It}{items:List T}{B0:aE}{H0:Hp}(hF:F.K=K)(hg:RG K g ug)(hb:RS K tb body)(it:i8 K J Src items)
  (pe:∀ B1 H1 B2 H2,Fr B1 H1 B2 H2->Src H1 B1->Src H2 B2) (hE:qk F B0 H0 D E)      (l:Rl F ad B σ H μ) (f:Fr B0 H0 B H) (sr:Src H B) (q:fo ug body E items μ) :
  ∃ W:Nat->Nat->St->Hp->Prop,(∃ m,W 0 m σ H)/\∀ i m σ H,W i m σ H ->
   (J.stop i H/\D.nx σ H)\/(J.go i H/\∃ N:St->Hp->Prop,(∀ σ' H',N σ' H'->∃ m',m'<m/\W (i+1) m' σ' H')/\∀ x H',J.Ar i H x H'->g x σ H' fun σ2 H2=>tb {D with nx:=N,ct:=N,bk:=D.nx} σ2 H2):=by
 refine⟨fun i m σ H=>m=items.length-i/\i<=items.length/\∃ ad B μ,Rl F ad B σ H μ/\Fr B0 H0 B H/\Src H B/\fo ug body E (items.drop i) μ,⟨items.length,by simp,LA _,ad,B,μ,l,f,sr,q⟩,?_⟩
 rintro i m σ H ⟨rfl,hi,ad,B,μ,l,f,sr,q⟩;by_cases hlt:i<items.length
 ·have ei:items[i]?=some items[i]:=KY hlt;rw[LJ hlt] at q;obtain⟨go,yl⟩:=it.step H B i _ l.fq sr ei;refine .inr ⟨go,fun σ' H'=>∃ ad' B' μ',Rl F ad' B' σ' H' μ'/\Fr B0 H0 B' H'/\Src H' B'/\fo ug body E (items.drop (i+1)) μ',fun σ' H' h=>⟨items.length-(i+1),by lia,rfl,hlt,h⟩,fun x H2 y=>?_⟩
  obtain⟨sm,rp⟩:=yl x H2 y;refine hg F ad B σ H2 μ x (.tr _) B H2 _ _ hF ⟨l.same sm,by show Rep F.K H2 B x _;rw[hF];exact rp⟩ Fr.refl q fun ad3 B3 σ3 H3 μ3 l3 f3 q3=>?_
  have f03:Fr B0 H0 B3 H3:=(f.trans (Fr.same sm)).trans f3;have s3:Src H3 B3:=pe _ _ _ _ ((Fr.same sm).trans f3) sr;exact hb F _ _ ad3 B3 σ3 H3 μ3 hF l3 q3 ⟨fun ad' B' σ' H' μ' l' f' q'=>⟨ad',B',μ',l',f03.trans f',pe _ _ _ _ f' s3,q'⟩,hE.rt,fun ad' B' σ' H' μ' l' f' q'=>hE.nx ad' B' σ' H' μ' l' (f03.trans f') q',fun ad' B' σ' H' μ' l' f' q'=>⟨ad',B',μ',l',f03.trans f',pe _ _ _ _ f' s3,q'⟩⟩
 ·have e:i=items.length:=by lia
  subst e;rw[N6] at q;exact .inl ⟨it.stop H B sr,hE.nx ad B σ H μ l f q⟩
theorem e_{ui:UI}{g:UG}(hp:PassesOwn (model X.prog X.w) X.A X.env X.xe)(hc:X.calm=true)(hi:YI X tg it ui)(hg:YG X tg g)(hb:YB X xs u)(hs:autoParam (∀ x,foldedSetIterable it X.env x=pure x) ℜ3):YS X (.For tg it xs [] pos) (vU ui g u):=by
 obtain⟨ti,qi,ri⟩:=hi;obtain⟨tg',qg,rg⟩:=hg;obtain⟨t,q,r⟩:=hb;refine⟨_,Z.e_ hp hc qi qg q hs,fun F D E ad B σ H μ hF l q h=>ri F ad B σ H μ _ _ hF l q fun J H' μ' items gd Src l1 f1 k1 it sr so gok q1=>?_⟩
 split at q1
 ·exact pB hF rg r it so h l1 f1 sr q1
 ·rename_i j ls
  split at q1
  ·rename_i c ej;have bx:=l1.slot j _ ej;have hc:¬ F.Bc (ad j):=fun z=>by
    obtain⟨o,e⟩:=F.bh _ z;rw[bx.2.2.1] at e;cases e
   obtain⟨l2,rp⟩:=l1.freeze ej hc;have ec:c=.lst ls:=by
    have:=gok j ls rfl;have e2:(μ'[j]?).bind Sl.box=some (.lst ls):=this;rw[ej] at e2;exact Option.some.inj e2
   subst ec;exact pB (Src:=fun H B=>Rep F.K H B (.ref (ad j)) (.lst ls)) hF rg r (it.imp fun H B h=>so.2 B H h) (fun B1 H1 B2 H2 f h=>h.fr f) h l2 (f1.trans (Fr.less fun b z=>z.1)) rp q1
  ·exact q1.elim
noncomputable def DF(c:UT)(body:US):US:=fun E μ=>∃ I:Nat->Mu->Prop,(∃ m,I m μ)/\∀ m μ,I m μ->c μ fun b μ'=>if b=true then body {E with nx:=fun μ2=>∃ m',m'<m/\I m' μ2,ct:=fun μ2=>∃ m',m'<m/\I m' μ2,bk:=E.nx} μ' else E.nx μ'
theorem jS(hp:PassesOwn (model X.prog X.w) X.A X.env X.xe)(hc:YT X c uA)(hb:YB X xs u):YS X (.While c xs [] pos) (DF uA u):=by
 obtain⟨tc,qc,rc⟩:=hc;obtain⟨t,q,r⟩:=hb;refine⟨_,Z.jS hp qc q,fun F D E ad B σ H μ hF l q h=>?_⟩;obtain⟨I,⟨m0,i0⟩,turn⟩:=q;refine⟨fun m σ' H'=>∃ ad' B' μ',Rl F ad' B' σ' H' μ'/\Fr B H B' H'/\I m μ',⟨m0,ad,B,μ,l,Fr.refl,i0⟩,?_⟩;rintro m σ1 H1 ⟨ad1,B1,μ1,l1,f1,i1⟩;refine rc F ad1 B1 σ1 H1 μ1 _ _ hF l1 (turn m μ1 i1) fun b H2 μ2 l2 f2 k2 q2=>?_
 cases b with
 |true =>
  rw[Lg rfl] at q2 ⊢;refine⟨fun σ' H'=>∃ m',m'<m/\∃ ad' B' μ',Rl F ad' B' σ' H' μ'/\Fr B H B' H'/\I m' μ',fun σ' H' h=>h,?_⟩;have hn:∀ ad' B' σ' H' μ',Rl F ad' B' σ' H' μ'->Fr B1 H2 B' H'->(∃ m',m'<m/\I m' μ')->∃ m',m'<m/\∃ ad' B' μ',Rl F ad' B' σ' H' μ'/\Fr B H B' H'/\I m' μ':=fun ad' B' σ' H' μ' l' f' ⟨m',hm,i'⟩=>⟨m',hm,ad',B',μ',l',(f1.trans f2).trans f',i'⟩;exact r F _ _ ad1 B1 σ1 H2 μ2 hF l2 q2 ⟨hn,h.rt,fun ad' B' σ' H' μ' l' f' q'=>h.nx ad' B' σ' H' μ' l' ((f1.trans f2).trans f') q',hn⟩
 |false =>
  rw[K_ Lm] at q2 ⊢;exact h.nx ad1 B1 σ1 H2 μ2 l2 (f1.trans f2) q2
end
end Y
noncomputable def qE(K:Qa)(u:UE):TE:=fun σ H Q=>∃(F:Fx) (ad:Nat->Addr) (B:aE) (μ:Mu) (Qt:R->Mu->Prop),F.K=K/\Rl F ad B σ H μ/\u μ Qt/\∀ v H' r μ',Vr F ad B σ H' μ' v r->Fr B H (Bv B v r) H'->Kp μ μ'->Qt r μ'->Q v H'
noncomputable def pU(K:Qa)(u:UT):TT:=fun σ H Q=>∃(F:Fx) (ad:Nat->Addr) (B:aE) (μ:Mu) (Qt:Bool->Mu->Prop),F.K=K/\Rl F ad B σ H μ/\u μ Qt/\∀ b H' μ',Rl F ad B σ H' μ'->Fr B H B H'->Kp μ μ'->Qt b μ'->Q b H'
theorem YE.vP{u:UE}(h:YE X e u):QE X e (qE X.K u):=⟨fun pins s σ H Q I hh=>by
 obtain⟨F,ad,B,μ,Qt,hF,l,q,k⟩:=hh;obtain⟨t,qe,r⟩:=h;exact qe.h pins s σ H Q I (r F ad B σ H μ Q Qt hF l q k)⟩
theorem Al.vP{e:List Expr}{u:UT}(h:Al X e u):Fy X e (pU X.K u):=⟨fun pins s σ H Q I hh=>by
 obtain⟨F,ad,B,μ,Qt,hF,l,q,k⟩:=hh;obtain⟨t,qe,r⟩:=h;exact qe.h pins s σ H Q I (r F ad B σ H μ Q Qt hF l q k)⟩
theorem oV{u:UE}:RE K (qE K u) u:=fun F ad B σ H μ Q Qt hF l q k=>⟨F,ad,B,μ,Qt,hF,l,q,k⟩
theorem oi{u:UT}:RT K (pU K u) u:=fun F ad B σ H μ Q Qt hF l q k=>⟨F,ad,B,μ,Qt,hF,l,q,k⟩
noncomputable def Fx.sh(F:Fx):Fx:={F with P:=fun i=>match i with|0=>none|i+1=>F.P i}
noncomputable def GI(ad:Nat->Addr):Nat->Addr:=fun i=>match i with|0=>0|i+1=>ad i
theorem Rl.push{x:V}{t:T}(l:Rl F ad B σ H μ)(h:Rep F.K H B x t):Rl F.sh (GI ad) B (some x::σ) H (.tr t::μ):=by
 refine⟨LF (·+1) l.len,fun i s e=>?_,fun i j s u c d e1 e2 b1 b2 q=>?_,fun i a p=>?_,l.bc,l.fq,fun b o e n=>l.old b o e fun i z=>n (i+1) z,fun a ws ga=>?_⟩
 ·cases i with
  |zero =>
   have e':Sl.tr t=s:=by simpa using e
   subst e';exact⟨x,rfl,h⟩
  |succ i=>exact l.slot i s (by simpa using e)
 ·cases i with
  |zero =>
   have e':Sl.tr t=s:=by simpa using e1
   subst e';cases b1
  |succ i=>cases j with
   |zero =>
    have e':Sl.tr t=u:=by simpa using e2
    subst e';cases b2
   |succ j=>exact LF (·+1) (l.inj i j s u c d (by simpa using e1) (by simpa using e2) b1 b2 q)
 ·cases i with
  |zero=>cases p
  |succ i=>obtain⟨⟨c,e⟩,z⟩:=l.par i a p;exact⟨⟨c,by simpa using e⟩,z⟩
 ·obtain⟨g1,g2,g3⟩:=l.gh a ws ga;refine⟨g1,g2,fun i s c e b=>?_⟩
  cases i with
  |zero =>
   have e':Sl.tr t=s:=by simpa using e
   subst e';cases b
  |succ i=>exact g3 i s c (by simpa using e) b
theorem Rl.Ff{y:Option V}(l:Rl F.sh (GI ad) B (y::σ) H μ):Rl F ad B σ H μ.tail:=by
 have get:∀ i,μ.tail[i]?=μ[i+1]?:=fun i=>by cases μ<;>simp
 refine⟨?_,fun i s e=>?_,fun i j s u c d e1 e2 b1 b2 q=>?_,fun i a p=>?_,l.bc,l.fq,fun b o e n=>l.old b o e fun i z=>?_,fun a ws ga=>let ⟨g1,g2,g3⟩:=l.gh a ws ga;⟨g1,g2,fun i s c e b=>g3 (i+1) s c (by rw[<- get];exact e) b⟩⟩
 ·have:=l.len;rw[List.length_tail,this];rfl
 ·rw[get] at e;exact l.slot (i+1) s e
 ·rw[get] at e1 e2;exact Nat.succ.inj (l.inj (i+1) (j+1) s u c d e1 e2 b1 b2 q)
 ·obtain⟨⟨c,e⟩,z⟩:=l.par (i+1) a p;exact⟨⟨c,by rw[get];exact e⟩,z⟩
 ·cases i with
  |zero=>cases z
  |succ i=>exact n i z
theorem Kp.tail{s:Sl}(k:Kp (s::μ) μ'):Kp μ μ'.tail:=fun i=>by
 have:=k (i+1);rw[Ph] at this;rw[this]
 cases μ'<;>simp
noncomputable def Fx.g(F:Fx)(D:Addr)(ys:List V):Fx:={F with G:=fun b=>if b=D then some ys else F.G b}
section
variable {F:Fx} {ad:Nat->Addr} {B:aE} {σ:St} {H:Hp} {μ:Mu} {D:Addr} {ys zs:List V}
theorem Rl.Jl(l:Rl F ad B σ H μ)(h:H D=some (.lst ys))(hb:B D)(n:∀(i:Nat) (s:Sl) (c:T),μ[i]?=some s->s.box=some c->ad i≠D):Rl (F.g D ys) ad B σ H μ:=by
 refine⟨l.len,l.slot,l.inj,l.par,l.bc,l.fq,l.old,fun a vs e=>?_⟩;have e':(if a=D then some ys else F.G a)=some vs:=e
 by_cases z:a=D
 ·rw[Lg z] at e';cases e';subst z;exact⟨h,hb,n⟩
 ·rw[K_ z] at e';exact l.gh a vs e'
theorem Rl.Je(l:Rl (F.g D ys) ad B σ H μ):H D=some (.lst ys)/\B D/\∀(i:Nat) (s:Sl) (c:T),μ[i]?=some s->s.box=some c->ad i≠D:=l.gh D ys (show (if D=D then some ys else F.G D)=some ys from Lg rfl)
theorem Rl.C0(l:Rl (F.g D ys) ad B σ H μ)(hg:F.G D=none):Rl F ad B σ H μ:=by
 refine⟨l.len,l.slot,l.inj,l.par,l.bc,l.fq,l.old,fun a vs e=>l.gh a vs ?_⟩;show (if a=D then some ys else F.G a)=some vs
 rw[K_ (by rintro rfl;rw[hg] at e;cases e)]
 exact e
theorem Rl.setG(l:Rl (F.g D ys) ad B σ H μ)(h0:F.H0 D=none):Rl (F.g D zs) ad B σ (upd H D (.lst zs)) μ:=by
 obtain⟨g1,g2,g3⟩:=l.Je;have f:Fr B H B (upd H D (.lst zs)):=Fr.set g2;refine⟨l.len,fun i s e=>?_,l.inj,l.par,l.bc,fun b z=>?_,fun b o e n=>?_,fun a vs e=>?_⟩
 ·have k:=l.slot i s e;unfold iC at k ⊢
  split at k
  ·trivial
  ·obtain⟨v,e1,r1⟩:=k;exact⟨v,e1,r1.fr f⟩
  ·obtain⟨e1,b,z0,p,x⟩:=k;exact⟨e1,b,z0,p,x.of (af (g3 i _ _ e rfl)) f⟩
  ·obtain⟨e1,b,p,x⟩:=k;exact⟨e1,b,p,x.of (af (g3 i _ _ e rfl)) f⟩
 ·by_cases z':b=D
  ·subst z';exact⟨_,ah⟩
  ·rw[af z'];exact l.fq b z
 ·rw[af (by rintro rfl;have e':F.H0 _=some o:=e;rw[h0] at e';cases e')]
  exact l.old b o e n
 ·have e':(if a=D then some zs else F.G a)=some vs:=e
  by_cases z:a=D
  ·rw[Lg z] at e';cases e';subst z;exact⟨ah,g2,g3⟩
  ·rw[K_ z] at e';obtain⟨a1,a2,a3⟩:=l.gh a vs (show (if a=D then some ys else F.G a)=some vs by rw[K_ z];exact e')
   exact⟨by rw[af z];exact a1,a2,a3⟩
end
namespace Y
noncomputable def FZ:Option (Nat×List T)->Mu->Prop
 |none,_=>True
 |some (j,ls),μ=>cont μ (.br j)=some (.lst ls)
noncomputable def p_(gd:Option (Nat×List T))(own:T->Mu->Option Mu)(dr:Mu->Mu)(ut:UT)(ue:UE)(Q:R->Mu->Prop):List T->List T->Mu->Prop
 |[],acc,μ=>FZ gd μ/\Q (.fr (.lst acc)) μ
 |t::r,acc,μ=>FZ gd μ/\acc.length<sizeLine/\(match own t μ with
  |none=>False
  |some μ1=>ut μ1 fun b μ2=>if b=true then ue μ2 fun rr μ3=>(match rr.d with
    |.tr t'=>p_ gd own dr ut ue Q r (acc++[t']) (dr μ3)
    |_=>False) else p_ gd own dr ut ue Q r acc (dr μ2))
noncomputable def y6(t:T)(μ:Mu):Option Mu:=some (.tr t::μ)
noncomputable def ur(t:T)(μ:Mu):Option Mu:=match t with
 |.tup [a,b]=>some (.tr a::.tr b::μ)
 |_=>none
noncomputable def FW(μ:Mu):Mu:=μ.tail
noncomputable def Ib(μ:Mu):Mu:=μ.tail.tail
noncomputable def gD(own:T->Mu->Option Mu)(dr:Mu->Mu)(ui:UI)(ut:UT)(ue:UE):UE:=fun μ Q=>ui μ fun items gd μ'=>p_ gd own dr ut ue Q items [] μ'
structure yc (K:Qa) (k:Nat) (g:TG) (own:T->Mu->Option Mu) (dr:Mu->Mu) (shF:Fx->Fx) (shA:(Nat->Addr)->Nat->Addr):Prop where
 fK:∀ F,(shF F).K=F.K
 step:∀(F:Fx) (ad:Nat->Addr) (B:aE) (σ:St) (H:Hp) (μ μ1:Mu) (x:V) (t:T) (σ':St) (Q:St->Hp->Prop),F.K=K->Rl F ad B σ H μ->Rep F.K H B x t->own t μ=some μ1->σ'.length=k->(∀ σ1,σ1.length=k->Rl (shF F) (shA ad) B (σ1++σ) H μ1->Q (σ1++σ) H)->g x (σ'++σ) H Q
 back:∀(F:Fx) (ad:Nat->Addr) (B:aE) (σ σ1:St) (H:Hp) (μ:Mu),σ1.length=k->Rl (shF F) (shA ad) B (σ1++σ) H μ->Rl F ad B σ H (dr μ)
 kp:∀(μ μ1 μ2:Mu) (t:T),own t μ=some μ1->Kp μ1 μ2->Kp μ (dr μ2)
theorem yH{α:Type _}{l:List α}(h:l.length=1):∃ y,l=[y]:=by
 rcases l with _|⟨a,_|⟨b,t⟩⟩
 ·cases h
 ·exact⟨a,rfl⟩
 ·cases h
theorem yF{α:Type _}{l:List α}(h:l.length=2):∃ y z,l=[y,z]:=by
 rcases l with _|⟨a,t⟩
 ·cases h
 ·obtain⟨b,rfl⟩:=yH (Nat.succ.inj h);exact⟨a,b,rfl⟩
theorem Hr{α:Type _}{l:List α}(h:l.length=3):∃ x y z,l=[x,y,z]:=by
 rcases l with _|⟨a,t⟩
 ·cases h
 ·obtain⟨b,c,rfl⟩:=yF (Nat.succ.inj h);exact⟨a,b,c,rfl⟩
theorem Jn{α:Type _}{l:List α}(h:l.length=4):∃ w x y z,l=[w,x,y,z]:=by
 rcases l with _|⟨a,t⟩
 ·cases h
 ·obtain⟨b,c,d,rfl⟩:=Hr (Nat.succ.inj h);exact⟨a,b,c,d,rfl⟩
theorem mj:yc K 1 (bC 0) y6 FW Fx.sh GI where
 fK:=fun F=>rfl
 step:=fun F ad B σ H μ μ1 x t σ' Q hF l r e hk h=>by
  cases e;obtain⟨y,rfl⟩:∃ y,σ'=[y]:=by
   exact yH hk
  exact h [some x] rfl (l.push r)
 back:=fun F ad B σ σ1 H μ hk l=>by
  obtain⟨y,rfl⟩:∃ y,σ1=[y]:=by
   exact yH hk
  exact l.Ff
 kp:=fun μ μ1 μ2 t e k=>by cases e;exact k.tail
theorem tJ:yc K 2 (oK K 2 (eR (bC 0) (eR (bC 1) oY))) ur Ib (fun F=>F.sh.sh) (fun ad=>GI (GI ad)) where
 fK:=fun F=>rfl
 step:=fun F ad B σ H μ μ1 x t σ' Q hF l r e hk h=>by
  unfold ur at e
  split at e
  ·rename_i a b;cases e;obtain⟨y,z,rfl⟩:∃ y z,σ'=[y,z]:=by
    exact yF hk
   cases r with
   |tup n hh rr =>
    cases rr with
    |cons r1 rr=>cases rr with
     |cons r2 rr =>
      cases rr;exact⟨_,_,rfl,aV.of hh,rfl,_,_,rfl,_,_,rfl,rfl,h [some _,some _] rfl ((l.push r2).push (F:=F.sh) r1)⟩
  ·cases e
 back:=fun F ad B σ σ1 H μ hk l=>by
  obtain⟨y,z,rfl⟩:∃ y z,σ1=[y,z]:=by
   exact yF hk
  exact (Rl.Ff (F:=F.sh) l).Ff
 kp:=fun μ μ1 μ2 t e k=>by
  unfold ur at e
  split at e
  ·cases e;exact k.tail.tail
  ·cases e
theorem fY{g:TG}{own:T->Mu->Option Mu}{shF:Fx->Fx}{shA:(Nat->Addr)->Nat->Addr}{wi:TI}{ui:UI}{ut:UT}(O:yc K k g own dr shF shA)(hi:RI K wi ui)(ht:RT K tc ut)(he:RE K te ue):RE K (jr wi k g tc te) (gD own dr ui ut ue):=by
 intro F ad B σ H μ Q Qt hF l q kk;refine hi F ad B σ H μ _ _ hF l q fun J H1 μ1 items gd Src l1 f1 k1 it sr so gk q1=>?_;intro D hD;have hnB:=l1.kj hD;have h0D:=l1.BL hD;have hGD:F.G D=none:=by
  cases q:F.G D with
  |none=>rfl
  |some vs=>have:=(l1.gh D vs q).1;rw[hD] at this;cases this
 have nbx:∀(μ':Mu),Kp μ μ'->∀(i:Nat) (s:Sl) (c:T),μ'[i]?=some s->s.box=some c->B (ad i):=fun μ' k i s c e b=>by
  obtain⟨s',c',e',b'⟩:=k.symm.fwd i s c e b;exact l.own i s' c' e' b'
 refine⟨fun i m ys σ' H'=>m=items.length-i/\i<=items.length/\∃ σ1 μ' acc,σ'=σ1++σ/\σ1.length=k/\Rl (F.g D ys) ad (more B D) σ H' μ'/\ak F.K H' (more B D) ys acc/\Fr B H (more B D) H'/\Kp μ μ'/\(gd=none->Src H' (more B D))/\p_ gd own dr ut ue Qt (items.drop i) acc μ',
  ⟨items.length,by simp,LA _,_,μ1,[],rfl,Lp,(l1.new hD).Jl ah (.inl rfl) (fun i s c e b z=>hnB (z ▸ nbx μ1 k1 i s c e b)),.nil,f1.trans (Fr.more hD),k1,fun z=>?_,q1⟩,?_⟩
 ·subst z;exact so _ _ _ _ (Fr.more hD) sr
 rintro i m ys σ' H' ⟨rfl,hi',σ1,μ',acc,rfl,hk,l2,ra,f2,k2,s2,q2⟩;have hD2:=l2.Je.1;refine⟨hD2,?_⟩;have src:FZ gd μ'->Src H' (more B D):=fun hg=>by
  cases gd with
  |none=>exact s2 rfl
  |some jl=>obtain⟨j,ls⟩:=jl;exact so.1 _ _ _ _ (l2.C0 hGD) hg
 by_cases hlt:i<items.length
 ·have ei:items[i]?=some items[i]:=KY hlt;rw[LJ hlt] at q2;obtain⟨hg,hz,q2⟩:=q2;have sr2:=src hg;obtain⟨go,yl⟩:=it.step H' (more B D) i _ l2.fq sr2 ei;refine .inr ⟨go,by rw[ra.length];exact hz,fun x H3 y=>?_⟩
  obtain⟨sm,rp⟩:=yl x H3 y
  split at q2
  ·exact q2.elim
  ·rename_i μ3 eo;have f3:Fr (more B D) H' (more B D) H3:=Fr.same sm;have hF2:(F.g D ys).K=K:=hF;refine O.step (F.g D ys) ad (more B D) σ H3 μ' μ3 x _ σ1 _ hF2 (l2.same sm) (by rw[hF2];exact rp) eo hk fun σ4 hk4 l4=>?_
   refine ht (shF (F.g D ys)) (shA ad) (more B D) _ H3 μ3 _ _ ((O.fK _).trans hF2) l4 q2 fun b H5 μ5 l5 f5 k5 q5=>?_
   cases b with
   |true =>
    rw[Lg rfl] at q5 ⊢;refine he (shF (F.g D ys)) (shA ad) (more B D) _ H5 μ5 _ _ ((O.fK _).trans hF2) l5 q5 fun v H6 r6 μ6 v6 f6 k6 q6=>?_;have l6:=O.back (F.g D ys) ad (more B D) σ σ4 H6 μ6 hk4 v6.rl;refine⟨l6.Je.1,?_⟩;have hv:=v6.hv
    split at q6
    ·rename_i t' e6;rw[e6] at hv;have rv:Rep F.K H6 (more B D) v t':=by have:=hv;unfold Hv at this;rw[O.fK] at this;exact this
     have fa:=(f3.trans f5).trans f6.d;have fs:Fr (more B D) H6 (more B D) (upd H6 D (.lst (ys++[v]))):=Fr.set (.inl rfl);refine⟨items.length-(i+1),by lia,rfl,hlt,σ4,dr μ6,acc++[t'],rfl,hk4,l6.setG h0D,((ra.fr fa).append (.cons rv .nil)).fr fs,(f2.trans fa).trans fs,k2.trans (O.kp μ' μ3 μ6 _ eo (k5.trans k6)),fun z=>?_,q6⟩
     subst z;exact so _ _ _ _ (fa.trans fs) (s2 rfl)
    ·exact q6.elim
   |false =>
    rw[K_ Lm] at q5 ⊢;have l6:=O.back (F.g D ys) ad (more B D) σ σ4 H5 μ5 hk4 l5;have fa:=f3.trans f5;refine⟨items.length-(i+1),by lia,rfl,hlt,σ4,dr μ5,acc,rfl,hk4,l6,ra.fr fa,f2.trans fa,k2.trans (O.kp μ' μ3 μ5 _ eo k5),fun z=>?_,q5⟩
    subst z;exact so _ _ _ _ fa (s2 rfl)
 ·have e:i=items.length:=by lia
  subst e;rw[N6] at q2;obtain⟨hg,q2⟩:=q2;have l3:=l2.C0 hGD;refine .inl ⟨it.stop H' (more B D) (src hg),kk (.ref D) H' (.fr (.lst acc)) μ' ⟨l3.less (fun b z=>.inr z) l.bc (nbx μ' k2) (fun a vs ga=>?_),D,rfl,hnB,h0D,l3,ys,hD2,ra⟩ f2 k2 q2⟩;exact l.gB a vs ga
section
variable {X:Cx} {elt tg iter:Expr} {ifs:List Expr} {ue:UE} {ut:UT} {ui:UI} {pos pos' p2:Pos} {x:Str} {osc scope:Scope} {ON own N:List Str}
theorem ie(S:bF osc ON scope own N)(hosc:X.env.scope=osc)(hON:X.N=ON)(hc:X.calm=true)(ho:own.length=1)(hi:YI X tg iter ui)
  (hg:∀ C s H fp,QG (av X scope N C s H fp) tg (bC 0)) (ht:∀ C s H fp,Al (av X scope N C s H fp) ifs ut) (he:∀ C s H fp,YE (av X scope N C s H fp) elt ue) (hs:autoParam (∀ x,foldedSetIterable iter X.env x=pure x) ℜ3) :
  YE X (.ListComp elt [⟨tg,iter,ifs,0⟩] scope pos) (gD y6 FW ui ut ue):=by
 obtain⟨t,q,r⟩:=hi;have h:=Z.comp (pos:=pos) (tc:=pU X.K ut) (te:=qE X.K ue) S hosc hON hc q hg (fun C s H fp=>(ht C s H fp).vP) (fun C s H fp=>(he C s H fp).vP) hs;rw[ho] at h;exact⟨_,h,fY mj r oi oV⟩
theorem C8(K:Qa)(hK:X.K=K)(S:bF osc ON scope own N)(hosc:X.env.scope=osc)(hON:X.N=ON)(hc:X.calm=true)(ho:own.length=2)(hi:YI X tg iter ui)
  (hg:∀ C s H fp,QG (av X scope N C s H fp) tg (oK K 2 (eR (bC 0) (eR (bC 1) oY)))) (ht:∀ C s H fp,Al (av X scope N C s H fp) ifs ut) (he:∀ C s H fp,YE (av X scope N C s H fp) elt ue) (hs:autoParam (∀ x,foldedSetIterable iter X.env x=pure x) ℜ3) :
  YE X (.ListComp elt [⟨tg,iter,ifs,0⟩] scope pos) (gD ur Ib ui ut ue):=by
 obtain⟨t,q,r⟩:=hi;subst hK;have h:=Z.comp (pos:=pos) (tc:=pU X.K ut) (te:=qE X.K ue) S hosc hON hc q hg (fun C s H fp=>(ht C s H fp).vP) (fun C s H fp=>(he C s H fp).vP) hs;rw[ho] at h;exact⟨_,h,fY tJ r oi oV⟩
theorem CJ(hN:X.N.Nodup)(hj:X.N[j]?=some x)(hx:Loc X.env.scope x)(S:bF osc ON scope own N)(hosc:X.env.scope=osc)(hON:X.N=ON)(hc:X.calm=true)(ho:own.length=1)(hi:YI X tg iter ui)
  (hg:∀ C s H fp,QG (av X scope N C s H fp) tg (bC 0)) (ht:∀ C s H fp,Al (av X scope N C s H fp) ifs ut) (he:∀ C s H fp,YE (av X scope N C s H fp) elt ue)
  (hsw:autoParam (swapsWith (.ListComp elt [⟨tg,iter,ifs,0⟩] scope p2) (some (.Name x pos')) pos.line X.env=pure true) ℜ0)
  (hf:autoParam (X.fn x=true\/X.env.scope.names.lookup x=some .local) ℜ2) (hs:autoParam (∀ x,foldedSetIterable iter X.env x=pure x) ℜ3) :
  YS X (.Assign [.Name x pos'] (.ListComp elt [⟨tg,iter,ifs,0⟩] scope p2) pos) (ko (gD y6 FW ui ut ue) (gN j)):=by
 obtain⟨t,q,r⟩:=hi;have h:=Z.setC (tc:=pU X.K ut) (te:=qE X.K ue) hN hj hx S hosc hON hc q hg (fun C s H fp=>(ht C s H fp).vP) (fun C s H fp=>(he C s H fp).vP) hsw hf hs;rw[ho] at h;exact⟨_,h,hG (fY mj r oi oV) iH⟩
theorem mZ:Al X [] (fun μ Q=>Q true μ):=⟨_,Z.mZ,fun F ad B σ H μ Q Qt hK l q k=>k true H μ l Fr.refl (Kp.refl μ) q⟩
theorem JF{c:Expr}(h:YT X c ut):Al X [c] ut:=by obtain⟨t,q,r⟩:=h;exact⟨t,Z.JF q,r⟩
end
end Y
noncomputable def cB(μ:Mu)(j:Nat)(c:T):Mu:=match μ[j]? with
 |some s=>μ.set j (s.put c)
 |none=>μ
namespace Y
section
variable {X:Cx} {a b c e o tg it i:Expr} {es rest:List Expr} {ua ub uc ue uo ui:UE} {uA uB:UT} {us:UA} {pos pos' p p2 p3 apos:Pos} {x:Str} {st:Stmt} {sts xs ys:List Stmt} {u w:US}
noncomputable def gS(uo ui:UE):UG:=fun r μ Q=>match r.d with
 |.tr t=>uo μ fun ro μ1=>ui μ1 fun ri μ2=>(match ro,ri with
  |.br j,.tr (.int k)=>(match (μ2[j]?).bind Sl.box with
   |some (.lst ts)=>(match ji ts.length k with
    |some n=>Q (cB μ2 j (.lst (ts.set n t)))
    |none=>False)
   |_=>False)
  |_,_=>False)
 |_=>False
theorem qm(ho:YE X o uo)(hi:YE X i ui)
  (ha:autoParam (∀ v,assign (.Subscript o i pos) X.env v=(do
   let ov <- holding [v] (eval o X.env)
   let iv <- holding [v,ov] (eval i X.env)
   standAt pos
   holding [v,ov,iv] (setItem ov iv v)
   release [v,ov,iv] [])) ℜ3):YG X (.Subscript o i pos) (gS uo ui):=by
 obtain⟨t,q,r⟩:=ho;obtain⟨t',q',r'⟩:=hi;refine⟨_,Z.qm q q' ha,fun F ad B σ H μ v rr B0 H0 Q Qt hF h f q k=>?_⟩;unfold gS at q;have f0:Fr B0 H0 B H:=fun b o h n=>⟨(f b o h n).1,fun z=>(f b o h n).2 (by cases rr<;>first|exact z | (cases v<;>first|exact z|exact .inr z))⟩
 have hv:=h.hv
 split at q
 ·rename_i t0 e0;rw[e0] at hv;refine r F ad B σ H μ _ _ hF h.rl q fun ov H1 r1 μ1 v1 f1 k1 q1=>r' F ad B σ H1 μ1 _ _ hF v1.rl q1 fun iv H2 r2 μ2 v2 f2 k2 q2=>?_
  split at q2
  ·rename_i j kk;have rp:=v2.2;cases rp;obtain⟨rfl,_⟩:=(v1.hv.fr f2.d k2)
   split at q2
   ·rename_i ts e
    split at q2
    ·rename_i n en
     cases ej:μ2[j]? with
     |none=>rw[ej] at e;cases e
     |some s =>
      rw[ej] at e;have e':s.box=some (.lst ts):=e;have l2:=v2.rl;obtain⟨vs,hl,rs⟩:=((l2.slot j s ej).boxed e').2.2.1;have rv:Rep F.K H2 B v t0:=(show Rep F.K H B v t0 from hv).fr (f1.d.trans f2.d);have l3:=l2.put ej e' (rs.set n rv);show wQ (.ref (ad j)) (.int kk) v H2 _;rw[Ap.setRef,hl];simp only;rw[rs.length,en];simp only;unfold cB at q2;rw[ej] at q2;exact k ad B σ _ _ l3 ((f0.trans (f1.d.trans f2.d)).trans (Fr.set ((l2.slot j s ej).boxed e').2.1)) q2
    ·exact q2.elim
   ·exact q2.elim
  ·exact q2.elim
 ·exact q.elim
abbrev UM:=Nat->List R->Mu->(R->Mu->Prop)->Prop
noncomputable def Ih:Option T->Prop->Prop
 |some (.lst _),p=>p
 |_,_=>False
noncomputable def Ie(um:UM)(uo:UE)(us:UA):UE:=fun μ Q=>uo μ fun ro μ1=>match ro with
 |.br j=>Ih ((μ1[j]?).bind Sl.box) (us μ1 fun rs μ2=>um j rs μ2 Q)
 |_=>False
noncomputable def RM(K:Qa)(r:V->List V->Hp->VK->Prop)(um:UM):Prop:=∀(F:Fx) (ad:Nat->Addr) (B:aE) (σ:St) (H:Hp) (μ:Mu) (Q:VK) (Qt:R->Mu->Prop) (j:Nat) (s:Sl) (c:T) (xs:List V) (rs:List R),F.K=K->Rl F ad B σ H μ->μ[j]?=some s->s.box=some c->Paired (Hv F ad B H μ) xs rs->um j rs μ Qt ->
 (∀ v H' r μ',Vr F ad B σ H' μ' v r->Fr B H (Bv B v r) H'->Kp μ μ'->Qt r μ'->Q v H')->r (.ref (ad j)) xs H Q
theorem bm(K:Qa)(hK:X.K=K){id:String}{r:V->List V->Hp->VK->Prop}{um:UM}(slot:Slot "list" name id)(hty:typeOf (.builtin id)=pure (.type "method_descriptor"))(hm:uS X id r)(hr:RM X.K r um)(ho:YE X o uo)(ha:YA X (e::es) us)
  (hbase:autoParam (attributeBase o name X.env (eval o X.env)=eval o X.env) ℜ0) (hline:autoParam ((apos.endLine == pos.line)=true) ℜ0) (h:autoParam ((e::es).all bR=true) ℜ0) (hl:autoParam ((e::es).length<30) ℜ1):YE X (.Call (.Attribute o name apos) (e::es) [] pos) (Ie um uo us):=by
 obtain⟨t,q,rr⟩:=ho;obtain⟨t',q',r'⟩:=ha;refine⟨_,Z.bm K hK PySem.F.plainAttrs_list slot hty hm q q' hbase hline h hl,fun F ad B σ H μ Q Qt hF l q k=>rr F ad B σ H μ _ _ hF l q fun v H1 r1 μ1 v1 f1 k1 q1=>?_⟩
 split at q1
 ·rename_i j;obtain⟨l1,rfl,s,c,e1,e2⟩:=v1;rw[e1] at q1;have q1':Ih s.box _:=q1;rw[e2] at q1';rcases ((l1.slot j s e1).boxed e2).2.2.1.is with ⟨ts,vs,rfl,hl,_⟩|⟨_,_,_,rfl,_⟩
  case inr=>exact q1'.elim
  have q1:=(show us μ1 _ from q1');refine⟨.inl ⟨rfl,vs,bz.of hl⟩,?_⟩;refine r' F ad B σ H1 μ1 _ _ hF l1 q1 fun xs H2 rs μ2 l2 ps f2 k2 q2=>?_;obtain⟨s',c',e3,e4⟩:=k2.fwd j s _ e1 e2;exact hr F ad B σ H2 μ2 _ _ j s' c' xs rs hF l2 e3 e4 ps q2 fun v H3 r3 μ3 v3 f3 k3 q3=>k v H3 r3 μ3 v3 ((f1.d.trans f2).trans f3) ((k1.trans k2).trans k3) q3
 ·exact q1.elim
noncomputable def fW:UM:=fun j rs μ Q=>match rs with
 |[.tr t]=>(match (μ[j]?).bind Sl.box with
  |some (.lst ts)=>ts.length<sizeLine/\Q (.tr .aw) (cB μ j (.lst (ts++[t])))
  |_=>False)
 |_=>False
theorem cF:RM K sf fW:=by
 intro F ad B σ H μ Q Qt j s c xs rs hF l e b ps q k;unfold fW at q
 split at q
 ·cases ps with
  |cons h ps =>
   cases ps;rw[e] at q;have q':(match s.box with|some (.lst ts)=>ts.length<sizeLine/\Qt (.tr .aw) (cB μ j (.lst (ts++[_])))|_=>False):=q
   rw[b] at q';rcases ((l.slot j s e).boxed b).2.2.1.is with ⟨ts,vs,rfl,hl,rv⟩|⟨_,_,_,rfl,_⟩
   case inr=>exact q'.elim
   simp only at q';refine⟨_,_,_,rfl,rfl,hl,by rw[rv.length];exact q'.1,?_⟩
   have l3:=l.put e b (rv.append (.cons (aL h) .nil));have q2:=q'.2;unfold cB at q2;rw[e] at q2;exact k _ _ (.tr .aw) _ (Vr.flat l3 .aw) (Fr.set ((l.slot j s e).boxed b).2.1) (Kp.set e b (Sl.gI b)) q2
 ·exact q.elim
end
end Y
noncomputable def kv:List Bool->List V->List Addr
 |true::md,.ref a::vs=>a::kv md vs
 |_::md,_::vs=>kv md vs
 |_,_=>[]
noncomputable def fO(K:Qa)(H:Hp)(B:aE):List Bool->List V->List T->Prop
 |[],[],[]=>True
 |false::md,v::vs,t::ts=>Rep K H B v t/\fO K H B md vs ts
 |true::md,v::vs,t::ts=>(∃ a,v=.ref a/\B a/\Bx K H B a t)/\fO K H B md vs ts
 |_,_,_=>False
abbrev dX:=List T->(R->List T->Prop)->Prop
variable{tsp:dX}
noncomputable def GW(K:Qa)(H H':Hp)(B:aE)(as:List Addr)(v:V)(outs:List T):R->Prop
 |.tr t=>Rep K H' B v t/\Paired (Bx K H' B) as outs
 |.fr c=>∃ a,v=.ref a/\H a=none/\¬ B a/\Bx K H' (more B a) a c/\Paired (Bx K H' (more B a)) as outs
 |.br _=>False
noncomputable def spT(K:Qa)(md:List Bool)(tsp:dX):Sp:=fun vs H Q _=>∃(B:aE) (args:List T) (Qt:R->List T->Prop),fO K H B md vs args/\(∀ b,B b->∃ o,H b=some o)/\(kv md vs).Nodup/\tsp args Qt /\
 ∀ v H' r outs,Qt r outs->(∀ b o,H b=some o->b∉kv md vs->H' b=some o)->GW K H H' B (kv md vs) v outs r->Q v H'
theorem fO.len:∀{md:List Bool} {vs:List V} {ts:List T},fO K H B md vs ts->vs.length=md.length/\ts.length=md.length
 |[],[],[],_=>⟨rfl,rfl⟩
 |false::md,v::vs,t::ts,h=>⟨LF (·+1) (fO.len h.2).1,LF (·+1) (fO.len h.2).2⟩
 |true::md,v::vs,t::ts,h=>⟨LF (·+1) (fO.len h.2).1,LF (·+1) (fO.len h.2).2⟩
theorem fO.get:∀{md:List Bool} {vs:List V} {ts:List T} {i:Nat} {b:Bool},fO K H B md vs ts->md[i]?=some b->∃ v t,vs[i]?=some v/\ts[i]?=some t/\(if b=true then ∃ a,v=.ref a/\B a/\Bx K H B a t else Rep K H B v t)
 |[],[],[],i,b,_,e=>by simp at e
 |c::md,[],_,_,_,h,_=>by cases c<;>exact h.elim
 |c::md,v::vs,[],_,_,h,_=>by cases c<;>exact h.elim
 |c::md,v::vs,t::ts,0,b,h,e=>by
  have e':c=b:=by simpa using e
  subst e'
  cases c with
  |false=>exact⟨v,t,rfl,rfl,by rw[K_ Lm];exact h.1⟩
  |true=>exact⟨v,t,rfl,rfl,by rw[Lg rfl];exact h.1⟩
 |c::md,v::vs,t::ts,i+1,b,h,e=>by
  have h2:fO K H B md vs ts:=by cases c<;>exact h.2
  obtain⟨v',t',e1,e2,q⟩:=fO.get h2 (show md[i]?=some b by simpa using e)
  exact⟨v',t',by simpa using e1,by simpa using e2,q⟩
theorem fu:∀{md:List Bool} {vs:List V} {i:Nat} {a:Addr},md[i]?=some true->vs[i]?=some (.ref a)->a∈kv md vs
 |[],_,_,_,e,_=>by simp at e
 |c::md,[],_,_,_,e=>by simp at e
 |c::md,v::vs,0,a,e1,e2=>by
  have e1':c=true:=by simpa using e1
  have e2':v=.ref a:=by simpa using e2
  subst e1' e2';exact Lj
 |c::md,v::vs,i+1,a,e1,e2=>by
  have:=fu (md:=md) (vs:=vs) (i:=i) (a:=a) (by simpa using e1) (by simpa using e2)
  cases c with
  |false=>exact this
  |true=>cases v<;>first|exact Le _ this|exact this
theorem t8:∀{md:List Bool} {vs:List V} {i j:Nat} {a:Addr},(kv md vs).Nodup->md[i]?=some true->md[j]?=some true->vs[i]?=some (.ref a)->vs[j]?=some (.ref a)->i=j
 |[],_,_,_,_,_,e,_,_,_=>by simp at e
 |c::md,[],_,_,_,_,_,_,e,_=>by simp at e
 |c::md,v::vs,i,j,a,nd,e1,e2,e3,e4=>by
  have tl:(kv md vs).Nodup:=by
   cases c with
   |false=>exact nd
   |true=>cases v<;>first|exact (LP.mp nd).2|exact nd
  cases i with
  |zero =>
   have e1':c=true:=by simpa using e1
   have e3':v=.ref a:=by simpa using e3
   subst e1' e3'
   cases j with
   |zero=>rfl
   |succ j=>exact absurd (fu (md:=md) (vs:=vs) (i:=j) (a:=a) (by simpa using e2) (by simpa using e4)) (LP.mp nd).1
  |succ i=>cases j with
   |zero =>
    have e1':c=true:=by simpa using e2
    have e3':v=.ref a:=by simpa using e4
    subst e1' e3';exact absurd (fu (md:=md) (vs:=vs) (i:=i) (a:=a) (by simpa using e1) (by simpa using e3)) (LP.mp nd).1
   |succ j=>exact LF (·+1) (t8 tl (by simpa using e1) (by simpa using e2) (by simpa using e3) (by simpa using e4))
noncomputable def bJ:List Bool->Nat->Mu->List T
 |[],_,_=>[]
 |true::md,i,μ=>(match μ[i]? with
  |some (.pb c)=>c::bJ md (i+1) μ
  |_=>bJ md (i+1) μ)
 |false::md,i,μ=>bJ md (i+1) μ
theorem mD{P:Addr->T->Prop}:∀{md:List Bool} {vs:List V} {i:Nat},vs.length=md.length->(∀ n,md[n]?=some true->∃ a c,vs[n]?=some (.ref a)/\μ[i+n]?=some (.pb c)/\P a c)->Paired P (kv md vs) (bJ md i μ)
 :=by
  intro md
  induction md with
  |nil =>
    intro vs i hl h
    cases vs with
    |nil=>exact .nil
    |cons v vs=>cases hl
  |cons b md ih =>
    intro vs i hl h
    cases vs with
    |nil=>cases hl
    |cons v vs =>
      have rest:=ih (vs:=vs) (i:=i+1) (Nat.succ.inj hl) fun n e=>by
        obtain⟨a,c,e1,e2,p⟩:=h (n+1) e;exact⟨a,c,e1,by rw[PN,PU 1 n];exact e2,p⟩
      cases b with
      |false=>exact rest
      |true =>
        obtain⟨a,c,e1,e2,p⟩:=h 0 rfl;have e1':v=.ref a:=Option.some.inj e1;subst e1';rw[Nat.add_zero] at e2;show Paired P (a::kv md vs) (match μ[i]? with|some (.pb c)=>c::bJ md (i+1) μ|_=>bJ md (i+1) μ)
        rw[e2];exact .cons p rest
noncomputable def startM:List Bool->List T->Nat->Mu
 |b::md,t::ts,n=>(if b=true then .pb t else .tr t)::startM md ts (n-1)
 |_,_,n=>List.replicate n .un
noncomputable def vd(md:List Bool)(Qt:R->List T->Prop):Ed where
 nx:=fun μ=>Qt (.tr .aw) (bJ md 0 μ)
 rt:=fun r μ=>match r with
  |.tr t=>Qt (.tr t) (bJ md 0 μ)
  |.fr c=>Qt (.fr c) (bJ md 0 μ)
  |.br i=>(match μ[i]? with
   |some (.bx c)=>Qt (.fr c) (bJ md 0 μ)
   |_=>False)
theorem jT:∀{md:List Bool} {ts:List T} {n:Nat},ts.length=md.length->md.length<=n->(startM md ts n).length=n
 |[],[],n,_,_=>Lp
 |b::md,t::ts,n,h,hn=>by
  cases n with
  |zero=>simp at hn
  |succ n=>exact LF (·+1) (jT (by simpa using h) (by simpa using hn))
theorem fQ:∀{md:List Bool} {ts:List T} {n i:Nat} {s:Sl},(startM md ts n)[i]?=some s->s=.un\/∃ b t,md[i]?=some b/\ts[i]?=some t/\s=(if b=true then .pb t else .tr t)
 |[],ts,n,i,s,e=>by
  have e':(List.replicate n Sl.un)[i]?=some s:=by cases ts<;>exact e
  rw[Mz] at e'
  split at e'
  ·exact .inl (Option.some.inj e').symm
  ·cases e'
 |b::md,[],n,i,s,e=>by
  have e':(List.replicate n Sl.un)[i]?=some s:=e;rw[Mz] at e'
  split at e'
  ·exact .inl (Option.some.inj e').symm
  ·cases e'
 |b::md,t::ts,n,0,s,e=>.inr ⟨b,t,rfl,rfl,by have e':some (if b=true then Sl.pb t else .tr t)=some s:=e;exact (Option.some.inj e').symm⟩
 |b::md,t::ts,n,i+1,s,e=>by
  rcases fQ (md:=md) (ts:=ts) (n:=n-1) (i:=i) (s:=s) (by simpa[startM] using e) with h|⟨b',t',h1,h2,h3⟩
  ·exact .inl h
  ·exact .inr ⟨b',t',by simpa using h1,by simpa using h2,h3⟩
theorem lr:∀{md:List Bool} {ts:List T} {n i:Nat} {b:Bool} {t:T},md[i]?=some b->ts[i]?=some t->(startM md ts n)[i]?=some (if b=true then .pb t else .tr t)
 |[],_,_,_,_,_,e,_=>by simp at e
 |b::md,[],_,_,_,_,_,e=>by simp at e
 |b::md,t::ts,n,0,b',t',e1,e2=>by
  have e1':b=b':=by simpa using e1
  have e2':t=t':=by simpa using e2
  subst e1' e2';rfl
 |b::md,t::ts,n,i+1,b',t',e1,e2=>by
  have:=lr (md:=md) (ts:=ts) (n:=n-1) (i:=i) (b:=b') (t:=t') (by simpa using e1) (by simpa using e2)
  simpa[startM] using this
noncomputable def me(vs:List V)(i:Nat):Addr:=match vs[i]? with
 |some (.ref a)=>a
 |_=>0
noncomputable def FY(md:List Bool)(vs:List V)(i:Nat):Option Addr:=match md[i]?,vs[i]? with
 |some true,some (.ref a)=>some a
 |_,_=>none
theorem fN(h:FY md vs i=some a):md[i]?=some true/\vs[i]?=some (.ref a):=by
 unfold FY at h
 split at h
 ·rename_i e1 e2;cases h;exact⟨e1,e2⟩
 ·cases h
theorem m7(h1:md[i]?=some true)(h2:vs[i]?=some (.ref a)):FY md vs i=some a:=by
 unfold FY;rw[h1,h2]
noncomputable def kA(K:Qa)(H:Hp)(md:List Bool)(vs:List V)(B:aE)(bh:∀ b,B b->∃ o,H b=some o):Fx:=⟨K,H,FY md vs,B,bh,fun _=>none⟩
theorem iY(ag:fO K H B md vs args)(bh:∀ b,B b->∃ o,H b=some o)(nd:(kv md vs).Nodup)(hN:md.length<=N.length):
  Rl (kA K H md vs B bh) (me vs) B (start N vs) H (startM md args N.length):=by
 obtain⟨l1,l2⟩:=ag.len;have sget:∀ i v,vs[i]?=some v->(start N vs)[i]?=some (some v):=fun i v e=>by
  have hi:=(Li.mp e).1;unfold start;rw[MD (by simpa using hi),Lw,e];rfl
 refine⟨?_,fun i s e=>?_,fun i j s u c d e1 e2 b1 b2 q=>?_,fun i a p=>?_,fun b z=>z,bh,fun b o e n=>e,fun a ws ga=>by cases ga⟩
 ·rw[jT l2 hN];unfold start;rw[KW,Ld,Lp];lia
 ·rcases fQ e with rfl|⟨b,t,h1,h2,rfl⟩
  ·trivial
  ·obtain⟨v,t',e1,e2,q⟩:=ag.get h1;rw[h2] at e2;cases e2
   cases b with
   |false =>
    rw[K_ Lm] at q;rw[K_ Lm];exact⟨v,sget i v e1,q⟩
   |true =>
    rw[Lg rfl] at q;rw[Lg rfl];obtain⟨a,rfl,hb,x⟩:=q;have ea:me vs i=a:=by unfold me;rw[e1]
    show _/\_/\_/\_;rw[ea];exact⟨sget i _ e1,hb,m7 h1 e1,x⟩
 ·have one:∀{i:Nat} {s:Sl} {c:T},(startM md args N.length)[i]?=some s->s.box=some c->md[i]?=some true/\∃ a,vs[i]?=some (.ref a)/\me vs i=a:=fun {i s c} e b=>by
   rcases fQ e with rfl|⟨b',t,h1,h2,rfl⟩
   ·cases b
   ·cases b' with
    |false=>rw[K_ Lm] at b;cases b
    |true =>
     obtain⟨v,t',e1,e2,q⟩:=ag.get h1;rw[Lg rfl] at q;obtain⟨a,rfl,_⟩:=q;exact⟨h1,a,e1,by unfold me;rw[e1]⟩
  obtain⟨m1,a1,v1,z1⟩:=one e1 b1;obtain⟨m2,a2,v2,z2⟩:=one e2 b2;rw[z1,z2] at q;subst q;exact t8 nd m1 m2 v1 v2
 ·obtain⟨h1,h2⟩:=fN p;obtain⟨v,t',e1,e2,q⟩:=ag.get h1;refine⟨⟨t',?_⟩,by unfold me;rw[h2]⟩
  have:=lr (n:=N.length) h1 e2;rw[Lg rfl] at this;exact this
theorem HasFn.i4{st:Stmt}{N ps:List Str}(F:HasFn K mg x st ps)(S:aj N ps (aa st))(md:List Bool)(hm:md.length=ps.length)(hN:md.length<=N.length)
  (hbody:∀(args:List T) (Qt:R->List T->Prop),args.length=ps.length->tsp args Qt->∀(f:Addr) (cdv:Value) (A:Around) (outer:List Env) (s:Shared) (H:Hp) (E:XK),aQ k (A.deeper (envOfC x (aa st) s.heap.objs.size f cdv)) ->
   ∃ us,YB (gy aT P w K mg base N x (aa st) f cdv A outer s H E).z_ (aS st) us/\us (vd md Qt) (startM md args N.length)):ae P w K mg base aT (k+1) x ps (spT K md tsp):=by
 refine F.Ks S (fun vs H Q E h=>?_) (fun f cdv A outer s H vs Q E hr h=>?_)
 ·obtain⟨B,args,Qt,ag,_⟩:=h;rw[ag.len.1,hm]
 ·obtain⟨B,args,Qt,ag,bh,nd,ht,fin⟩:=h;obtain⟨us,⟨t,q,r⟩,hu⟩:=hbody args Qt (by rw[ag.len.2,hm]) ht f cdv A outer s H E hr
  refine⟨t,q,?_⟩;have l0:=iY (N:=N) ag bh nd hN;have outs:∀ ad' B' σ' H' μ' (B2:aE),Rl (kA K H md vs B bh) ad' B' σ' H' μ'->(∀ b,B2 b->B' b)->Paired (Bx K H' B2) (kv md vs) (bJ md 0 μ'):=fun ad' B' σ' H' μ' B2 l hB=>by
   refine mD (ag.len.1) fun n e=>?_;obtain⟨v,t',e1,e2,q⟩:=ag.get e;rw[Lg rfl] at q;obtain⟨a,rfl,_⟩:=q;obtain⟨⟨c,hc⟩,ha⟩:=l.par n a (m7 e e1);have sl:=l.slot n _ hc;refine⟨a,c,e1,by rw[MT];exact hc,?_⟩
   rw[<- ha];exact (sl.2.2.2).of rfl (Fr.less hB)
  have keep:∀ ad' B' σ' H' μ',Rl (kA K H md vs B bh) ad' B' σ' H' μ'->∀ b o,H b=some o->b∉kv md vs->H' b=some o:=fun ad' B' σ' H' μ' l b o e n=>l.old b o e fun i z=>n (fu (fN z).1 (fN z).2);refine r (kA K H md vs B bh) _ _ (me vs) B (start N vs) H _ rfl l0 hu ⟨fun ad' B' σ' H' μ' l _ q=>?_,fun ad' B' σ' H' μ' v rr h q=>?_,fun _ _ _ _ _ _ _ z=>z.elim,fun _ _ _ _ _ _ _ z=>z.elim⟩
  ·exact fin .aw H' (.tr .aw) _ q (keep _ _ _ _ _ l) ⟨.aw,outs _ _ _ _ _ _ l l.bc⟩
  ·cases rr with
   |tr t=>exact fin v H' (.tr t) _ q (keep _ _ _ _ _ h.1) ⟨(show Rep K H' B' v t from h.2).fr (Fr.less h.1.bc),outs _ _ _ _ _ _ h.1 h.1.bc⟩
   |fr c =>
    obtain⟨l,a,rfl,n,h0,l2,x⟩:=h;have sub:∀ b,more B a b->more B' a b:=fun b z=>z.imp id (l.bc b);exact fin _ H' (.fr c) _ q (keep _ _ _ _ _ l) ⟨a,rfl,h0,fun z=>n (l.bc a z),x.of rfl (Fr.less sub),outs _ _ _ _ _ _ l2 sub⟩
   |br i =>
    have q':(match μ'[i]? with|some (.bx c)=>Qt (.fr c) (bJ md 0 μ')|_=>False):=q
    obtain⟨l,rfl,s',c',e1,e2⟩:=h
    split at q'
    ·rename_i c ec;have sl:=l.slot i _ ec;have sub:∀ b,more B (ad' i) b->B' b:=fun b z=>z.elim (fun z=>by rw[z];exact sl.2.1) (l.bc b)
     refine fin _ H' (.fr c) _ q' (keep _ _ _ _ _ l) ⟨ad' i,rfl,sl.2.2.1,fun z=>?_,(sl.2.2.2.2).of rfl (Fr.less sub),outs _ _ _ _ _ _ l sub⟩;obtain⟨o,e⟩:=bh _ z;have:H (ad' i)=none:=sl.2.2.1;rw[this] at e;cases e
    ·exact q'.elim
noncomputable def yn(μ:Mu):List Bool->List R->Option (List T)
 |[],[]=>some []
 |false::md,r::rs=>(match cont μ r,yn μ md rs with
  |some t,some ts=>some (t::ts)
  |_,_=>none)
 |true::md,.br j::rs=>(match cont μ (.br j),yn μ md rs with
  |some t,some ts=>some (t::ts)
  |_,_=>none)
 |_,_=>none
noncomputable def gx:List Bool->List R->List Nat
 |true::md,.br j::rs=>j::gx md rs
 |_::md,_::rs=>gx md rs
 |_,_=>[]
noncomputable def ib:List Bool->List R->List Nat
 |false::md,.br j::rs=>j::ib md rs
 |_::md,_::rs=>ib md rs
 |_,_=>[]
noncomputable def ip:T->Bool
 |.lst ts=>ts.all bf
 |.n9 _ ts=>ts.all bf
 |t=>bf t
noncomputable def fZ:R->Bool
 |.tr t=>bf t
 |.fr c=>ip c
 |.br _=>false
noncomputable def putAll:List Nat->List T->Mu->Mu
 |j::js,c::cs,μ=>putAll js cs (cB μ j c)
 |_,_,μ=>μ
theorem sS(h:i≠j):(cB μ j c)[i]?=μ[i]?:=by
 unfold cB;split
 ·rw[Mw (Ne.symm h)]
 ·rfl
theorem Bj{s:Sl}(e:μ[j]?=some s):(cB μ j c)[j]?=some (s.put c):=by
 unfold cB;rw[e];exact Mc (Li.mp e).1
theorem x6:(cB μ j c).length=μ.length:=by
 unfold cB;split
 ·exact Mm
 ·rfl
theorem jI:∀{js:List Nat} {cs:List T} {μ:Mu},(putAll js cs μ).length=μ.length
 |[],_,_=>rfl
 |_::_,[],_=>rfl
 |j::js,c::cs,μ=>(jI (js:=js)).trans x6
theorem dY:∀{js:List Nat} {cs:List T} {μ:Mu} {i:Nat},i∉js->(putAll js cs μ)[i]?=μ[i]?
 |[],_,_,_,_=>rfl
 |_::_,[],_,_,_=>rfl
 |j::js,c::cs,μ,i,h=>(dY (js:=js) (fun z=>h (Le _ z))).trans (sS fun z=>h (z ▸ Lj))
theorem dA{P:Addr->T->Prop}:∀{js:List Nat} {cs:List T} {μ:Mu} {i:Nat} {s:Sl},js.Nodup->Paired P (js.map ad) cs->i∈js->μ[i]?=some s->∃ c,(putAll js cs μ)[i]?=some (s.put c)/\P (ad i) c
 |[],_,_,_,_,_,_,h,_=>by cases h
 |j::js,c::cs,μ,i,s,nd,.cons p ps,h,e=>by
  rw[LP] at nd;by_cases z:i=j
  ·subst z;refine⟨c,?_,p⟩;show (putAll js cs (cB μ i c))[i]?=_;rw[dY nd.1];exact Bj e
  ·rcases Ll.mp h with z'|z'
   ·exact absurd z' z
   ·exact dA (js:=js) nd.2 ps z' (by rw[sS z];exact e)
theorem Rl.call{B2:aE}{js:List Nat}{outs:List T}(l:Rl F ad B σ H μ)(hb:∀ j∈js,∃(s:Sl) (c:T),μ[j]?=some s/\s.box=some c)(nd:js.Nodup)
  (keep:∀ b o,H b=some o->b∉js.map ad->H' b=some o) (sB:∀ b,B b->B2 b) (nB:∀ b o,H b=some o->¬ B b->¬ B2 b) (tB:∀ b,B2 b->¬ B b->∃ o,H' b=some o) (ps:Paired (Bx F.K H' B2) (js.map ad) outs) :
  Rl F ad B2 σ H' (putAll js outs μ)/\Kp μ (putAll js outs μ)/\Fr B H B2 H':=by
 have inB:∀ b∈js.map ad,B b:=fun b hb'=>by
  obtain⟨j,hj,rfl⟩:=LD.mp hb';obtain⟨s,c,e,q⟩:=hb j hj;exact l.own j s c e q
 have f:Fr B H B2 H':=fun b o e n=>⟨keep b o e fun z=>n (inB b z),nB b o e n⟩;have cases':∀ i s,(putAll js outs μ)[i]?=some s->(i∉js/\μ[i]?=some s)\/(i∈js/\∃ s0 c0 c,μ[i]?=some s0/\s0.box=some c0/\s=s0.put c/\Bx F.K H' B2 (ad i) c):=fun i s e=>by
  by_cases z:i∈js
  ·obtain⟨s0,c0,e0,q0⟩:=hb i z;obtain⟨c,e1,p⟩:=dA nd ps z e0;rw[e1] at e;exact .inr ⟨z,s0,c0,c,e0,q0,(Option.some.inj e).symm,p⟩
  ·rw[dY z] at e;exact .inl ⟨z,e⟩
 have boxOld:∀(i:Nat) (s:Sl) (c:T),(putAll js outs μ)[i]?=some s->s.box=some c->∃(s0:Sl) (c0:T),μ[i]?=some s0/\s0.box=some c0:=fun i s c e b=>by
  rcases cases' i s e with ⟨_,e'⟩|⟨_,s0,c0,_,e0,q0,_⟩
  ·exact⟨s,c,e',b⟩
  ·exact⟨s0,c0,e0,q0⟩
 have ne:∀(i:Nat) (s:Sl) (c:T),i∉js->μ[i]?=some s->s.box=some c->ad i∉js.map ad:=fun i s c z e b hm=>by
  obtain⟨j,hj,q⟩:=LD.mp hm;obtain⟨s0,c0,e0,q0⟩:=hb j hj;exact z (l.inj i j s s0 c c0 e e0 b q0 q.symm ▸ hj)
 refine⟨⟨by rw[jI];exact l.len,fun i s e=>?_,fun i j s u c d e1 e2 b1 b2 q=>?_,fun i a p=>?_,fun b z=>sB b (l.bc b z),fun b z=>?_,fun b o e n=>?_,fun a ws ga=>?_⟩,fun i=>?_,f⟩
 ·rcases cases' i s e with ⟨z,e'⟩|⟨z,s0,c0,c,e0,q0,rfl,x⟩
  ·have k:=l.slot i s e';unfold iC at k ⊢
   split at k
   ·trivial
   ·obtain⟨v,e1,r1⟩:=k;exact⟨v,e1,r1.fr f⟩
   ·obtain⟨e1,b,z0,p,x⟩:=k;obtain⟨o,eo⟩:=x.fq;exact⟨e1,sB _ b,z0,p,x.of ((keep _ o eo (ne i _ _ z e' rfl)).trans eo.symm) f⟩
   ·obtain⟨e1,b,p,x⟩:=k;obtain⟨o,eo⟩:=x.fq;exact⟨e1,sB _ b,p,x.of ((keep _ o eo (ne i _ _ z e' rfl)).trans eo.symm) f⟩
  ·have k:=l.slot i s0 e0
   cases s0 with
   |un=>cases q0
   |tr t=>cases q0
   |bx d=>exact⟨k.1,sB _ k.2.1,k.2.2.1,k.2.2.2.1,x⟩
   |pb d=>exact⟨k.1,sB _ k.2.1,k.2.2.1,x⟩
 ·obtain⟨s1,c1,g1,g2⟩:=boxOld i s c e1 b1;obtain⟨s2,c2,g3,g4⟩:=boxOld j u d e2 b2;exact l.inj i j s1 s2 c1 c2 g1 g3 g2 g4 q
 ·obtain⟨⟨c,e⟩,ha⟩:=l.par i a p;refine⟨?_,ha⟩;by_cases z:i∈js
  ·obtain⟨c',e1,_⟩:=dA nd ps z e;exact⟨c',e1⟩
  ·exact⟨c,by rw[dY z];exact e⟩
 ·by_cases zb:B b
  ·obtain⟨o,e⟩:=l.fq b zb;by_cases z2:b∈js.map ad
   ·obtain⟨j,hj,rfl⟩:=LD.mp z2;obtain⟨s0,c0,e0,q0⟩:=hb j hj;obtain⟨c,_,x⟩:=dA nd ps hj e0;exact x.fq
   ·exact⟨o,keep b o e z2⟩
  ·exact tB b z zb
 ·have e2:=l.old b o e n;refine keep b o e2 fun hm=>?_;obtain⟨j,hj,rfl⟩:=LD.mp hm;obtain⟨s0,c0,e0,q0⟩:=hb j hj;rcases ((l.slot j s0 e0).boxed q0).2.2.2 with z|z
  ·exact n j z
  ·rw[z] at e;cases e
 ·obtain⟨g1,g2,g3⟩:=l.gh a ws ga;refine⟨keep a _ g1 fun hm=>?_,sB a g2,fun i s c e b=>?_⟩
  ·obtain⟨j,hj,q⟩:=LD.mp hm;obtain⟨s0,c0,e0,q0⟩:=hb j hj;exact g3 j s0 c0 e0 q0 q
  ·obtain⟨s0,c0,e0,q0⟩:=boxOld i s c e b;exact g3 i s0 c0 e0 q0
 ·by_cases z:i∈js
  ·obtain⟨s0,c0,e0,q0⟩:=hb i z;obtain⟨c,e1,_⟩:=dA nd ps z e0;rw[e0,e1];show (s0.box).isSome=((s0.put c).box).isSome;rw[q0,Sl.gI q0];rfl
  ·rw[dY z]
theorem CH(l:Rl F ad B σ H μ)(ro:List Nat):∀{md:List Bool} {xs:List V} {rs:List R} {args:List T},Paired (Hv F ad B H μ) xs rs->yn μ md rs=some args->(∀ j∈ib md rs,j∈ro)->(∀ j∈gx md rs,j∉ro) ->
  (∀ j∈ro,∃(s:Sl) (c:T),μ[j]?=some s/\s.box=some c) ->
  fO F.K H (fun b=>B b/\∀ j∈ro,b≠ad j) md xs args/\kv md xs=(gx md rs).map ad/\∀ j∈gx md rs,∃(s:Sl) (c:T),μ[j]?=some s/\s.box=some c:=by
 intro md
 induction md with
 |nil =>
  intro xs rs args p e _ _ _
  cases p with
  |nil=>cases e;exact⟨trivial,rfl,fun j h=>by cases h⟩
  |cons h p=>cases e
 |cons bb md ih =>
  intro xs rs args pp e h1 h2 h3
  cases pp with
  |nil=>cases bb<;>cases e
  |cons h p =>
   rename_i x r xs2 rs
   cases bb with
   |false =>
    unfold yn at e
    split at e
    ·rename_i t ts e1 e2;cases e;have sub:∀ j∈ib md rs,j∈ro:=fun j hj=>h1 j (by cases r<;>first|exact hj|exact Le _ hj)
     obtain⟨g1,g2,g3⟩:=ih p e2 sub h2 h3;refine⟨⟨?_,g1⟩,?_,g3⟩
     ·cases r with
      |tr t' =>
       have e1':t'=t:=Option.some.inj e1;subst e1';exact (show Rep F.K H B x t' from h).fr (Fr.less fun _ z=>z.1)
      |br j =>
       obtain⟨rfl,s,c,q1,q2⟩:=h;have e1':(μ[j]?).bind Sl.box=some t:=e1;rw[q1] at e1';have bx:=((l.slot j s q1).boxed (c:=t) e1').2.2.1;exact (bx.of rfl (Fr.less fun _ z=>z.1)).rep fun z=>z.2 j (h1 j Lj) rfl
      |fr c=>exact h.elim
     ·show kv (false::md) (_::_)=_;rw[show gx (false::md) (r::rs)=gx md rs by cases r<;>rfl]
      exact g2
    ·cases e
   |true =>
    cases r with
    |tr t=>cases e
    |fr c=>cases e
    |br j =>
     unfold yn at e
     split at e
     ·rename_i t ts e1 e2;cases e;obtain⟨g1,g2,g3⟩:=ih p e2 h1 (fun i hi=>h2 i (Le _ hi)) h3;obtain⟨rfl,s,c,q1,q2⟩:=h;have e1':(μ[j]?).bind Sl.box=some t:=e1;rw[q1] at e1';have bx:=(l.slot j s q1).boxed (c:=t) e1';refine⟨⟨⟨ad j,rfl,⟨bx.2.1,fun i hi z=>?_⟩,bx.2.2.1.of rfl (Fr.less fun _ z=>z.1)⟩,g1⟩,LF (ad j::·) g2,fun i hi=>?_⟩
      ·obtain⟨s',c',q3,q4⟩:=h3 i hi;have:=l.inj j i s s' t c' q1 q3 e1' q4 z;subst this;exact h2 j Lj hi
      ·rcases Ll.mp hi with z|z
       ·subst z;exact⟨s,t,q1,e1'⟩
       ·exact g3 i z
     ·cases e
theorem jf:∀{md:List Bool} {xs:List V} {rs:List R},Paired (Hv F ad B H μ) xs rs->∀ j∈ib md rs,∃(s:Sl) (c:T),μ[j]?=some s/\s.box=some c
 |[],_,_,_,j,h=>by cases h
 |b::md,_,_,.nil,j,h=>by cases b<;>cases h
 |b::md,_,r::rs,.cons h p,j,hj=>by
  cases b with
  |true=>exact jf (md:=md) p j (by cases r<;>exact hj)
  |false =>
   cases r with
   |tr t=>exact jf (md:=md) p j hj
   |fr c=>exact h.elim
   |br i =>
    rcases Ll.mp hj with z|z
    ·subst z;exact h.2
    ·exact jf (md:=md) p j z
theorem Bx.flat(h:Bx K H B a c)(f:ip c=true):Bx K H B' a c:=by
 rcases h.is with ⟨ts,vs,rfl,e,r⟩|⟨ks,ts,vs,rfl,e,l,r⟩
 ·exact⟨vs,e,r.flat f⟩
 ·exact⟨vs,e,l,r.flat f⟩
theorem Paired.ow:∀{as:List Addr} {outs:List T},Paired (Bx K H B) as outs->outs.all ip=true->Paired (Bx K H B') as outs
 |_,_,.nil,_=>.nil
 |_,_,.cons h p,f=>by
  rw[L_,LS] at f;exact .cons (h.flat f.1) (Paired.ow p f.2)
namespace Y
noncomputable def Eh(md:List Bool)(tsp:dX)(us:UA):UE:=fun μ Q=>us μ fun rs μ1=>match yn μ1 md rs with
 |some args=>(gx md rs).Nodup/\(∀ j∈gx md rs,j∉ib md rs)/\tsp args fun r outs=>(ib md rs=[]\/(fZ r=true/\outs.all ip=true))/\Q r (putAll (gx md rs) outs μ1)
 |none=>False
theorem Cj{md:List Bool}{E:XK}{t:TA}(ha:RA K t us):RE K (fI (spT K md tsp) [] E t) (Eh md tsp us):=by
 intro F ad B σ H μ Q Qt hF l q k;refine ha F ad B σ H μ _ _ hF l q fun vs H1 rs μ1 l1 ps f1 k1 q1=>?_
 split at q1
 ·rename_i args ea;obtain⟨nd,dj,q1⟩:=q1;have hro:=jf (md:=md) ps;obtain⟨ag,eb,hb⟩:=CH l1 (ib md rs) ps ea (fun j h=>h) dj hro;rw[hF] at ag;show spT K md tsp (vs++[]) H1 Q E;rw[L3];have inj:∀{js:List Nat},js.Nodup->(∀ j∈js,∃(s:Sl) (c:T),μ1[j]?=some s/\s.box=some c)->(js.map ad).Nodup:=fun {js}=>by
   induction js with
   |nil=>exact fun _ _=>N0
   |cons j js ih =>
    intro nd hb;rw[LP] at nd;rw[Lz,LP];refine⟨fun hm=>?_,ih nd.2 fun i hi=>hb i (Le _ hi)⟩;obtain⟨i,hi,z⟩:=LD.mp hm;obtain⟨s1,c1,e1,b1⟩:=hb j Lj;obtain⟨s2,c2,e2,b2⟩:=hb i (Le _ hi);exact nd.1 (l1.inj i j s2 s1 c2 c1 e2 e1 b2 b1 z ▸ hi)
  refine⟨_,args,_,ag,fun b z=>l1.fq b z.1,by rw[eb];exact inj nd hb,q1,fun v H2 r outs hq keep res=>?_⟩
  rw[eb] at keep res;obtain⟨hfl,hq⟩:=hq;have nro:∀{b:Addr},ib md rs=[]->B b->B b/\∀ j∈ib md rs,b≠ad j:=fun {b} z h=>⟨h,fun j hj=>by rw[z] at hj;cases hj⟩
  cases r with
  |br i=>exact res.elim
  |tr t =>
   obtain⟨rv,po⟩:=res;have rv':Rep F.K H2 B v t:=by
    rw[hF];rcases hfl with z|z
    ·exact rv.fr (Fr.less fun b h=>nro z h)
    ·exact rv.flat z.1
   have po':Paired (Bx F.K H2 B) ((gx md rs).map ad) outs:=by
    rw[hF];rcases hfl with z|z
    ·exact Paired.ph po fun a c h=>h.of rfl (Fr.less fun b h=>nro z h)
    ·exact Paired.ow po z.2
   obtain⟨l2,k2,f2⟩:=l1.call hb nd keep (fun _ z=>z) (fun _ _ _ z=>z) (fun b z n=>absurd z n) po';exact k v H2 (.tr t) _ ⟨l2,rv'⟩ (f1.trans f2) (k1.trans k2) hq
  |fr c =>
   obtain⟨a,rfl,ha0,nBa,x,po⟩:=res;have nBa':¬ B a:=l1.kj ha0;have sub:ib md rs=[]->∀ b,more B a b->more (fun b=>B b/\∀ j∈ib md rs,b≠ad j) a b:=fun z b h=>h.imp id fun h=>nro z h;have x':Bx F.K H2 (more B a) a c:=by
    rw[hF];rcases hfl with z|z
    ·exact x.of rfl (Fr.less (sub z))
    ·exact x.flat z.1
   have po':Paired (Bx F.K H2 (more B a)) ((gx md rs).map ad) outs:=by
    rw[hF];rcases hfl with z|z
    ·exact Paired.ph po fun a' c h=>h.of rfl (Fr.less (sub z))
    ·exact Paired.ow po z.2
   have po2:Paired (Bx F.K H2 B) ((gx md rs).map ad) outs:=Paired.ph po' fun a' c h=>h.of rfl (Fr.less fun _ z=>.inr z);obtain⟨l2,k2,f2⟩:=l1.call hb nd keep (fun _ z=>z) (fun _ _ _ z=>z) (fun b z n=>absurd z n) po2;obtain⟨l3,_,f3⟩:=l1.call (B2:=more B a) hb nd keep (fun _ z=>.inr z) (fun b o e n z=>z.elim (fun z=>by rw[z,ha0] at e;cases e) n) (fun b z n=>z.elim (fun z=>by rw[z];exact x'.fq) fun z=>absurd z n) po'
   exact k _ H2 (.fr c) _ ⟨l2,a,rfl,nBa',l1.BL ha0,l3,x'⟩ (f1.trans f3) (k1.trans k2) hq
 ·exact q1.elim
section
variable {X:Cx} {e:Expr} {es:List Expr} {us:UA} {pos p:Pos} {x:Str} {k:Nat} {ps:List Str} {md:List Bool} {tsp:dX} {E:XK}
theorem fn(K:Qa)(hK:X.K=K)(F:ae X.prog X.w X.K X.mg X.base aT k x ps (spT K md tsp))(hr:aQ k X.A)(hg:Gl X x)(hx:Passes aT X E)(ha:YA X (e::es) us)(h1:autoParam (bR e=true) ℜ0)(h2:autoParam (es.all bR=true) ℜ0)(hdb:autoParam ((x ==("__debug__":Str))=false) ℜ1):
  YE X (.Call (.Name x p) (e::es) [] pos) (Eh md tsp us):=by
 obtain⟨t,q,r⟩:=ha;subst hK;exact⟨_,Z.fn F hr hg hx q h1 h2 hdb,Cj r⟩
end
end Y
noncomputable def E6:dX:=fun args Q=>∃ ns:List Int,args=[.dU (ns.map T.int)]/\ns.length<=63/\Q (.tr (.bl true)) []
section
variable {prog:Program} {w:World} {A:Around} {E:Value->Shared->Prop} {s:Shared}
structure ZA (z TI TO i1 i2 l1 l2:Addr):Prop where
 a1:TI≠z
 a2:TO≠z
 a3:i1≠z
 a4:i2≠z
 a5:TO≠i1
 a6:TO≠i2
 a7:i1≠i2
 a8:l1≠z/\l1≠TO/\l1≠i1/\l1≠i2
 a9:l2≠z/\l2≠TO/\l2≠i1/\l2≠i2
 b1:TI≠TO/\TI≠i1/\TI≠i2
theorem ZA.f1{TI TO:Addr}(D:ZA z TI TO i1 i2 l1 l2){e:Addr}(he:e=z\/e=TO\/e=i2):∀ b∈[i1,l1],b≠e:=fun b hb=>by
 rcases Ll.mp hb with rfl|hb
 ·rcases he with rfl|rfl|rfl
  ·exact D.a3
  ·exact D.a5.symm
  ·exact D.a7
 ·have hb:b=l1:=by simpa using hb
  subst hb;rcases he with rfl|rfl|rfl
  ·exact D.a8.1
  ·exact D.a8.2.1
  ·exact D.a8.2.2.2
theorem ZA.f2{TI TO:Addr}(D:ZA z TI TO i1 i2 l1 l2){e:Addr}(he:e=z\/e=TO\/e=i1):∀ b∈[i2,l2],b≠e:=fun b hb=>by
 rcases Ll.mp hb with rfl|hb
 ·rcases he with rfl|rfl|rfl
  ·exact D.a4
  ·exact D.a6.symm
  ·exact D.a7.symm
 ·have hb:b=l2:=by simpa using hb
  subst hb;rcases he with rfl|rfl|rfl
  ·exact D.a9.1
  ·exact D.a9.2.1
  ·exact D.a9.2.2.1
theorem d_{P:Nat->Value->Prop}{S:Nat->Heap->Prop}{A':Around}(D:Draws prog w A' it [it,l] n P S){e:Addr}(st:S i h)(hs:Heap.ExtBut e h h')(ne:∀ b∈[it,l],b≠e):S i h':=D.frame i h h' st fun b hb o q=>hs b o (ne b hb) q
theorem uZ{TI TO:Addr}{n1 n2:Nat}{a b:Value}(D:ZA z TI TO i1 i2 l1 l2)(D1:Draws prog w A i1 [i1,l1] n1 P1 S1)(D2:Draws prog w A i2 [i2,l2] n2 P2 S2)
  (hz:IsZip s.heap z TI TO .none) (hTI:IsPair s.heap TI (.ref i1) (.ref i2)) (hTO:IsPair s.heap TO a b) (st1:S1 k s.heap) (wL:S2 k s.heap) (hk1:k<n1) (hk2:k<n2)
  (hQ:∀ x y h' tk,P1 k x->P2 k y->IsZip h' z TI TO (rawInt s.heap.objs.size)->IsPair h' TO x y->S1 (k+1) h'->S2 (k+1) h'->IsPair h' s.heap.objs.size x y ->
   (∀ c o,c≠z->c≠TO->c≠i1->c≠i2->s.heap.get? c=some o->h'.get? c=some o)->Q (.ref s.heap.objs.size) {s with heap:=h',toks:=tk}) :
  wpAny (model prog w) A (Builtin.«zip.__next__» ⟨[.ref z],[]⟩) (fun fin s'=>∃ v,fin=.done (.ret v)/\Q v s') E s:=by
 have zrec:=hz;show wpAny _ _ (field (.ref z) 2 >>= _) _ _ _;refine KR (Md zrec rfl (x:=.bool false) rfl ?_);show wpAny _ _ (field (.ref z) 3 >>= _) _ _ _;refine KR (Md zrec rfl (x:=.ref TI) rfl ?_);have tirec:=hTI;refine KR (MO tirec rfl ?_);show wpAny _ _ (Builtin.SmallTypes.ownedTupleIsFree (.ref z) >>= _) _ _ _;refine KR ?_;unfold Builtin.SmallTypes.ownedTupleIsFree;refine KR (Md zrec rfl (x:=.none) rfl (Lk ?_));simp only[M1];refine KR (OQ ?_);refine KR (Md zrec rfl (x:=.ref TO) rfl ?_);refine KR (MU zrec (by simp) fun g1 zr1 sb1=>?_)
 replace zr1:IsZip g1 z TI TO .ellipsis:=zr1
 refine KR ?_;simp only[List.zipIdx_cons,List.zipIdx_nil,NF,List.forIn_nil];refine KR (KR (OD ?_));show wpAny _ _ (Builtin.SmallTypes.nextOf (.ref i1) >>= _) _ _ _;refine KR (D1.item k _ _ _ hk1 (d_ D1 st1 sb1.extBut (D.f1 (.inl rfl))) fun x g2 tk2 px st1b sb2=>Lk ?_);have to2:IsPair g2 TO a b:=sb2.extBut _ _ D.a5 (sb1.extBut _ _ D.a2 hTO);refine KR (MO to2 rfl ?_);refine KR (Oj to2 fun g3 to3 sb3=>?_)
 replace to3:IsPair g3 TO x b:=to3
 refine KR (wpAny_letGo (Lk ?_));refine KR (KR (OD ?_));show wpAny _ _ (Builtin.SmallTypes.nextOf (.ref i2) >>= _) _ _ _;have st2c:S2 k g3:=d_ D2 (d_ D2 (d_ D2 wL sb1.extBut (D.f2 (.inl rfl))) sb2.extBut (D.f2 (.inr (.inr rfl)))) sb3.extBut (D.f2 (.inr (.inl rfl)));refine KR (D2.item k _ _ _ hk2 st2c fun y g4 tk4 py st2d sb4=>Lk ?_);have to4:IsPair g4 TO x b:=sb4.extBut _ _ D.a6 to3;refine KR (MO to4 rfl ?_);refine KR (Oj to4 fun g5 to5 sb5=>?_)
 replace to5:IsPair g5 TO x y:=to5
 refine KR (wpAny_letGo (Lk (Lk ?_)));refine KR (MO to5 rfl ?_);refine KR (wpAny_newTuple ?_);have size5:g5.objs.size=s.heap.objs.size:=by rw[sb5.1,sb4.1,sb3.1,sb2.1,sb1.1]
 have zr5:IsZip g5 z TI TO .ellipsis:=sb5.extBut _ _ D.a2.symm (sb4.extBut _ _ D.a4.symm (sb3.extBut _ _ D.a2.symm (sb2.extBut _ _ D.a3.symm zr1)));have keep5:∀ c o,c≠z->c≠TO->c≠i1->c≠i2->s.heap.get? c=some o->g5.get? c=some o:=fun c o e1 e2 e3 e4 q =>
  sb5.extBut _ _ e2 (sb4.extBut _ _ e4 (sb3.extBut _ _ e2 (sb2.extBut _ _ e3 (sb1.extBut _ _ e1 q))))
 have s1e:S1 (k+1) g5:=d_ D1 (d_ D1 (d_ D1 st1b sb3.extBut (D.f1 (.inr (.inl rfl)))) sb4.extBut (D.f1 (.inr (.inr rfl)))) sb5.extBut (D.f1 (.inr (.inl rfl)));have s2e:S2 (k+1) g5:=d_ D2 st2d sb5.extBut (D.f2 (.inr (.inl rfl)));have zlt:z<g5.objs.size:=Lq zr5;show wpAny _ _ (Builtin.SmallTypes.ownedTupleHandOut (.ref z) (.ref g5.objs.size) >>= _) _ _ _;refine KR ?_;unfold Builtin.SmallTypes.ownedTupleHandOut;have zr6:IsZip (g5.push {cls:=.type "tuple",data:=.seq #[x,y]}) z TI TO .ellipsis:=KU _ zr5;refine KR (MU zr6 (by simp) fun g7 zr7 sb7=>?_)
 replace zr7:IsZip g7 z TI TO (rawInt g5.objs.size):=zr7
 refine MU zr7 (by simp) fun g8 zr8 sb8=>?_
 replace zr8:IsZip g8 z TI TO (rawInt g5.objs.size):=zr8
 have up:∀ c o,c≠z->g5.get? c=some o->g8.get? c=some o:=fun c o e1 q=>sb8.extBut _ _ e1 (sb7.extBut _ _ e1 (KU _ q));have pr8:IsPair g8 g5.objs.size x y:=sb8.extBut _ _ (Nd zlt) (sb7.extBut _ _ (Nd zlt) (Lo _ rfl));rw[size5] at zr8 pr8;refine Lk ⟨_,rfl,?_⟩;show Q (.ref g5.objs.size) _;rw[size5];exact hQ x y g8 _ px py zr8 (up _ _ D.a2 to5) (D1.frame _ _ _ s1e fun b hb o q=>up b o (D.f1 (.inl rfl) b hb) q) (D2.frame _ _ _ s2e fun b hb o q=>up b o (D.f2 (.inl rfl) b hb) q) pr8 fun c o e1 e2 e3 e4 q=>up c o e1 (keep5 c o e1 e2 e3 e4 q)
theorem yM{TI TO:Addr}{n1 n2:Nat}{a b:Value}{Q:Fin->Shared->Prop}(D:ZA z TI TO i1 i2 l1 l2)(D1:Draws prog w A i1 [i1,l1] n1 P1 S1)(D2:Draws prog w A i2 [i2,l2] n2 P2 S2)
  (hz:IsZip s.heap z TI TO .none) (hTI:IsPair s.heap TI (.ref i1) (.ref i2)) (hTO:IsPair s.heap TO a b) (st1:S1 k s.heap) (wL:S2 k s.heap) (hk:k=n1\/(k<n1/\k=n2))
  (hE:∀ h' e tk,(∀ c o,c≠z->c≠TO->c≠i1->c≠i2->s.heap.get? c=some o->h'.get? c=some o)->(∃ o,h'.get? e=some o/\o.cls=.type "StopIteration")->E (.ref e) {s with heap:=h',toks:=tk}) :
  wpAny (model prog w) A (Builtin.«zip.__next__» ⟨[.ref z],[]⟩) Q E s:=by
 have zrec:=hz;show wpAny _ _ (field (.ref z) 2 >>= _) _ _ _;refine KR (Md zrec rfl (x:=.bool false) rfl ?_);show wpAny _ _ (field (.ref z) 3 >>= _) _ _ _;refine KR (Md zrec rfl (x:=.ref TI) rfl ?_);have tirec:=hTI;refine KR (MO tirec rfl ?_);show wpAny _ _ (Builtin.SmallTypes.ownedTupleIsFree (.ref z) >>= _) _ _ _;refine KR ?_;unfold Builtin.SmallTypes.ownedTupleIsFree;refine KR (Md zrec rfl (x:=.none) rfl (Lk ?_));simp only[M1];refine KR (OQ ?_);refine KR (Md zrec rfl (x:=.ref TO) rfl ?_);refine KR (MU zrec (by simp) fun g1 zr1 sb1=>?_)
 replace zr1:IsZip g1 z TI TO .ellipsis:=zr1
 refine KR ?_;simp only[List.zipIdx_cons,List.zipIdx_nil,NF,List.forIn_nil];refine KR (KR (OD ?_));show wpAny _ _ (Builtin.SmallTypes.nextOf (.ref i1) >>= _) _ _ _;rcases hk with hk|⟨hk1,hk2⟩
 ·subst hk;refine KR (D1.done _ _ _ (d_ D1 st1 sb1.extBut (D.f1 (.inl rfl))) fun g2 e sb2 he=>?_);obtain⟨oe,hoe,hce⟩:=he;have zr2:IsZip g2 z TI TO .ellipsis:=sb2 _ _ D.a3.symm zr1;have nez:e≠z:=fun q=>by subst q;rw[zr2] at hoe;cases hoe;simp at hce
  refine MU zr2 (by simp) fun g3 _ sb3=>hE g3 e _ (fun c o e1 _ e3 _ q=>sb3.extBut _ _ e1 (sb2 _ _ e3 (sb1.extBut _ _ e1 q))) ⟨oe,sb3.extBut _ _ nez hoe,hce⟩
 ·subst hk2;refine KR (D1.item k _ _ _ hk1 (d_ D1 st1 sb1.extBut (D.f1 (.inl rfl))) fun x g2 tk2 px st1b sb2=>Lk ?_);have to2:IsPair g2 TO a b:=sb2.extBut _ _ D.a5 (sb1.extBut _ _ D.a2 hTO);refine KR (MO to2 rfl ?_);refine KR (Oj to2 fun g3 to3 sb3=>?_);refine KR (wpAny_letGo (Lk ?_));refine KR (KR (OD ?_));show wpAny _ _ (Builtin.SmallTypes.nextOf (.ref i2) >>= _) _ _ _;have st2c:S2 k g3:=d_ D2 (d_ D2 (d_ D2 wL sb1.extBut (D.f2 (.inl rfl))) sb2.extBut (D.f2 (.inr (.inr rfl)))) sb3.extBut (D.f2 (.inr (.inl rfl)));refine KR (D2.done _ _ _ st2c fun g4 e sb4 he=>?_);obtain⟨oe,hoe,hce⟩:=he;have zr4:IsZip g4 z TI TO .ellipsis:=sb4 _ _ D.a4.symm (sb3.extBut _ _ D.a2.symm (sb2.extBut _ _ D.a3.symm zr1));have nez:e≠z:=fun q=>by subst q;rw[zr4] at hoe;cases hoe;simp at hce
  refine MU zr4 (by simp) fun g5 _ sb5=>hE g5 e _ (fun c o e1 e2 e3 e4 q=>sb5.extBut _ _ e1 (sb4 _ _ e4 (sb3.extBut _ _ e2 (sb2.extBut _ _ e3 (sb1.extBut _ _ e1 q))))) ⟨oe,sb5.extBut _ _ nez hoe,hce⟩
end
noncomputable def nA(K:Qa)(k:Bool)(H:Hp)(a:Addr)(xs:List V):Prop:=if k=true then bz K H a xs else aV K H a xs
noncomputable def ik(k:Bool)(h:Heap)(it a:Addr)(i:Nat):Prop:=if k=true then h.IsListIter it a i else h.IsTupleIter it a i
noncomputable def iz(k:Bool)(h:Heap)(a:Addr)(items:Array Value):Prop:=if k=true then h.IsList a items else h.IsTuple a items
theorem iE{A:Around}(k:Bool)(hh:A.handled=none)(it l:Addr)(hne:l≠it)(items:Array Value):Draws prog w A it [it,l] items.size (fun i v=>items[i]?=some v) (fun i h=>ik k h it l i/\iz k h l items):=by
 cases k with
 |true=>exact Draws.list hh it l hne items
 |false=>exact hU hh it l hne items
theorem Inv.v8{k:Bool}(I:Inv X pins σ H s)(h:nA X.K k H a xs):∃ its:List Value,Vals xs its/\iz k s.heap a its.toArray:=by
 cases k with
 |true=>obtain⟨its,r,p,_⟩:=I.list h;exact⟨its,r,p.isList⟩
 |false=>obtain⟨its,r,p,_⟩:=I.tuple h;exact⟨its,r,p⟩
theorem Inv.nM{k:Bool}(I:Inv X pins σ H s)(h:nA X.K k H a xs)(h':nA X.K k H a ys):xs=ys:=by
 cases k with
 |true=>exact I.jB h h'
 |false=>exact I.h9 h h'
noncomputable def ye(K:Qa)(k1 k2:Bool)(a b:Addr):It:=
  ⟨fun i H=>∃ xs ys x y,nA K k1 H a xs/\nA K k2 H b ys/\xs[i]?=some x/\ys[i]?=some y,
   fun i H v H'=>∃ p x y,(∀ xs,nA K k1 H a xs->xs[i]?=some x)/\(∀ ys,nA K k2 H b ys->ys[i]?=some y)/\H p=none/\v=.ref p/\H'=upd H p (.tup [x,y]),
   fun i H=>∃ xs ys,nA K k1 H a xs/\nA K k2 H b ys/\i=min xs.length ys.length⟩
theorem iz.ty{k:Bool}(x:iz k h a items):∃ o,h.get? a=some o/\(o.cls=.type "list"\/o.cls=.type "tuple")/\∃ n,o.data=.seq items n:=by
 cases k with
 |true=>obtain⟨o,e,c,n,d⟩:=(show h.IsList a items from x);exact⟨o,e,.inl c,n,d⟩
 |false=>obtain⟨o,e,c,n,d⟩:=(show h.IsTuple a items from x);exact⟨o,e,.inr c,n,d⟩
theorem ik.ty{k:Bool}(x:ik k h it a i):∃ o,h.get? it=some o/\(o.cls=.type "list_iterator"\/o.cls=.type "tuple_iterator")/\o.data=.fields #[.ref a,.int i 0]:=by
 cases k with
 |true=>obtain⟨o,e,c,d⟩:=(show h.IsListIter it a i from x);exact⟨o,e,.inl c,d⟩
 |false=>obtain⟨o,e,c,d⟩:=(show h.IsTupleIter it a i from x);exact⟨o,e,.inr c,d⟩
noncomputable def Jk(k:Bool):String:=if k=true then "list_iterator" else "tuple_iterator"
abbrev Ij(h:Heap)(k1:Bool)(a:Addr):Heap:=h.push {cls:=.type (Jk k1),data:=.fields #[.ref a,.int 0 0]}
abbrev II(h:Heap)(k1 k2:Bool)(a b:Addr):Heap:=(Ij h k1 a).push {cls:=.type (Jk k2),data:=.fields #[.ref b,.int 0 0]}
abbrev ID(h:Heap)(k1 k2:Bool)(a b:Addr):Heap:=(II h k1 k2 a b).push {cls:=.type "tuple",data:=.seq #[.ref h.objs.size,.ref (Ij h k1 a).objs.size]}
abbrev Iy(h:Heap)(k1 k2:Bool)(a b:Addr):Heap:=(ID h k1 k2 a b).push {cls:=.type "tuple",data:=.seq #[.none,.none]}
abbrev FI(h:Heap)(k1 k2:Bool)(a b:Addr):Heap:=(Iy h k1 k2 a b).push {cls:=.type "zip",data:=.fields #[.none,.bool false,.bool false,.ref (II h k1 k2 a b).objs.size,.ref (ID h k1 k2 a b).objs.size]}
theorem oM(x:h.IsTuple a items)(o:Obj):(h.push o).IsTuple a items:=by
 obtain⟨ob,e,r⟩:=x;exact⟨ob,KU _ e,r⟩
theorem qd(k1 k2:Bool)(a b:Addr)(xs ys:Array Value):
  Meets (Builtin.«zip.__new__» ⟨[.type "zip",.ref a,.ref b],[]⟩) (fun _ R s=>iz k1 s.heap a xs/\iz k2 s.heap b ys /\
   R (.ok (.ret (.ref (Iy s.heap k1 k2 a b).objs.size))) {s with heap:=FI s.heap k1 k2 a b}):=
 .of_wp fun prog w A R s h=>by
  obtain⟨hp,g,d,tk,os⟩:=s;obtain⟨q1,q2,h⟩:=h;have hsub:=sub_zip
  cases k1 with
  |true =>
   have w1:Heap.IsList (Shared.heap ⟨hp,g,d,tk,os⟩) a xs:=q1
   cases k2 with
   |true =>
    have w2:Heap.IsList (Shared.heap ⟨hp.push {cls:=.type "list_iterator",data:=.fields #[.ref a,.int 0 0]},g,d,tk,os⟩) b ys:=Heap.IsList.push q2 _;wp_walk using MG w1,MG w2;exact⟨_,rfl,h⟩
   |false =>
    have w2:Heap.IsTuple (Shared.heap ⟨hp.push {cls:=.type "list_iterator",data:=.fields #[.ref a,.int 0 0]},g,d,tk,os⟩) b ys:=oM q2 _;wp_walk using MG w1,Mt w2;exact⟨_,rfl,h⟩
  |false =>
   have w1:Heap.IsTuple (Shared.heap ⟨hp,g,d,tk,os⟩) a xs:=q1
   cases k2 with
   |true =>
    have w2:Heap.IsList (Shared.heap ⟨hp.push {cls:=.type "tuple_iterator",data:=.fields #[.ref a,.int 0 0]},g,d,tk,os⟩) b ys:=Heap.IsList.push q2 _;wp_walk using Mt w1,MG w2;exact⟨_,rfl,h⟩
   |false =>
    have w2:Heap.IsTuple (Shared.heap ⟨hp.push {cls:=.type "tuple_iterator",data:=.fields #[.ref a,.int 0 0]},g,d,tk,os⟩) b ys:=oM q2 _;wp_walk using Mt w1,Mt w2;exact⟨_,rfl,h⟩
theorem Cy{k:Bool}(e:h.get? it=some {cls:=.type (Jk k),data:=.fields #[.ref a,.int 0 0]}):ik k h it a 0:=by
 cases k with
 |true=>exact⟨_,e,rfl,rfl⟩
 |false=>exact⟨_,e,rfl,rfl⟩
section
variable {prog:Program} {w:World} {A:Around} {E:Value->Shared->Prop} {s:Shared}
theorem uv{k1 k2:Bool}{xs ys:Array Value}(h1:iz k1 s.heap a xs)(h2:iz k2 s.heap b ys)
  (h:∀ h',IsZip h' (s.heap.objs.size+4) (s.heap.objs.size+2) (s.heap.objs.size+3) .none->IsPair h' (s.heap.objs.size+2) (.ref s.heap.objs.size) (.ref (s.heap.objs.size+1))->IsPair h' (s.heap.objs.size+3) .none .none ->
   ik k1 h' s.heap.objs.size a 0->ik k2 h' (s.heap.objs.size+1) b 0->(∀ c o,s.heap.get? c=some o->h'.get? c=some o)->Q (.ref (s.heap.objs.size+4)) {s with heap:=h'}) :
  wpAny (model prog w) A (call (.type "zip") [.ref a,.ref b]) Q E s:=by
 refine callType_new F.called_zip (by decide) (F.typeCall_zip_2 _ _) (F.newCall_zip_2 _ _) (fun obj=>F.args_object_init_3 obj _ _) F.entry_zip_new (qd k1 k2 a b xs ys) ⟨h1,h2,?_⟩
 have e1:(Ij s.heap k1 a).objs.size=s.heap.objs.size+1:=Na ..;have e2:(II s.heap k1 k2 a b).objs.size=s.heap.objs.size+2:=by rw[Na,e1]
 have e3:(ID s.heap k1 k2 a b).objs.size=s.heap.objs.size+3:=by rw[Na,e2]
 have e4:(Iy s.heap k1 k2 a b).objs.size=s.heap.objs.size+4:=by rw[Na,e3]
 have p5:(FI s.heap k1 k2 a b).get? (Iy s.heap k1 k2 a b).objs.size=some _:=Lo _ rfl;have p4:(FI s.heap k1 k2 a b).get? (ID s.heap k1 k2 a b).objs.size=some _:=KU _ (Lo _ rfl);have p3:(FI s.heap k1 k2 a b).get? (II s.heap k1 k2 a b).objs.size=some _:=KU _ (KU _ (Lo _ rfl));have p2:(FI s.heap k1 k2 a b).get? (Ij s.heap k1 a).objs.size=some _:=KU _ (KU _ (KU _ (Lo _ rfl)));have p1:(FI s.heap k1 k2 a b).get? s.heap.objs.size=some _:=KU _ (KU _ (KU _ (KU _ (Lo _ rfl))));show _/\_;rw[e2,e3,e4] at p5;rw[e1,e2] at p3;rw[e3] at p4;rw[e1] at p2;rw[e4];exact⟨⟨_,p5,rfl⟩,h _ p5 p3 p4 (Cy p1) (Cy p2) fun c o x=>KU _ (KU _ (KU _ (KU _ (KU _ x))))⟩
end
theorem uf{w:World}{tk:Nat}(k1 k2:Bool)(a b z TI TO i1 i2:Addr)(D:ZA z TI TO i1 i2 a b):
  Turn P w K (.Tuple es tk tp) (ye K k1 k2 a b) [z,TI,TO,i1,i2] z (fun i h=>IsZip h z TI TO .none/\IsPair h TI (.ref i1) (.ref i2)/\(∃ x y,IsPair h TO x y)/\ik k1 h i1 a i/\ik k2 h i2 b i) where
 mem:=by simp
 obj:=fun i h st c hc=>by
  obtain⟨s1,s2,⟨x,y,s3⟩,s4,s5⟩:=st;simp only[Ll,LK,M9] at hc;rcases hc with rfl|rfl|rfl|rfl|rfl
  ·exact⟨_,s1,fun v q=>by cases q⟩
  ·exact⟨_,s2,fun v q=>by cases q⟩
  ·exact⟨_,s3,fun v q=>by cases q⟩
  ·obtain⟨o,e,_,d⟩:=s4.ty;exact⟨o,e,fun v q=>by rw[d] at q;cases q⟩
  ·obtain⟨o,e,_,d⟩:=s5.ty;exact⟨o,e,fun v q=>by rw[d] at q;cases q⟩
 keep:=fun i h h' st k=>by
  obtain⟨s1,s2,⟨x,y,s3⟩,s4,s5⟩:=st;refine⟨k z (by simp) _ s1,k TI (by simp) _ s2,⟨x,y,k TO (by simp) _ s3⟩,?_,?_⟩
  ·cases k1 with
   |true=>obtain⟨o,e,r⟩:=(show h.IsListIter i1 a i from s4);exact⟨o,k i1 (by simp) o e,r⟩
   |false=>obtain⟨o,e,r⟩:=(show h.IsTupleIter i1 a i from s4);exact⟨o,k i1 (by simp) o e,r⟩
  ·cases k2 with
   |true=>obtain⟨o,e,r⟩:=(show h.IsListIter i2 b i from s5);exact⟨o,k i2 (by simp) o e,r⟩
   |false=>obtain⟨o,e,r⟩:=(show h.IsTupleIter i2 b i from s5);exact⟨o,k i2 (by simp) o e,r⟩
 item:=by
  intro X hP hw hK hc i pins s σ H E I hf st hg;subst hP hw hK;obtain⟨xs,ys,x,y,q1,q2,ex,ey⟩:=hg;obtain⟨s1,s2,⟨x0,y0,s3⟩,s4,s5⟩:=st;obtain⟨its1,rv1,p1⟩:=I.v8 q1;obtain⟨its2,rv2,p2⟩:=I.v8 q2;obtain⟨u1,hu1,ru1⟩:=rv1.get ex;obtain⟨u2,hu2,ru2⟩:=rv2.get ey;have lt1:i<its1.toArray.size:=by have:=(Li.mp hu1).1;simpa using this
  have lt2:i<its2.toArray.size:=by have:=(Li.mp hu2).1;simpa using this
  have hT:s.TypeIs (.ref z) "zip":=⟨_,s1,rfl⟩;have D1:=iE (prog:=X.prog) (w:=X.w) (A:=X.A.in1) k1 (I.ok.hd hc) i1 a D.a8.2.2.1 its1.toArray;have D2:=iE (prog:=X.prog) (w:=X.w) (A:=X.A.in1) k2 (I.ok.hd hc) i2 b D.a9.2.2.2 its2.toArray;unfold pyNext;refine KR (OE (LY (name:=Str.ofString "__next__") hT PySem.F.slot_zip_next (Mo PySem.F.slot_zip_next hT PySem.F.entry_zip_next
   (uZ D D1 D2 s1 s2 s3 ⟨s4,p1⟩ ⟨s5,p2⟩ lt1 lt2 fun v1 v2 h' tk' px py z1 t1 w1 w2 pr kp=>Lk ?_) (PySem.F.args_zip_next_1 _))))
  have fr:H s.heap.objs.size=none:=I.aD.fresh (Lf _);have ev1:v1=u1:=by rw[Mj,hu1] at px;exact (Option.some.inj px).symm
  have ev2:v2=u2:=by rw[Mj,hu2] at py;exact (Option.some.inj py).symm
  subst ev1 ev2;have lt:∀{c o},s.heap.get? c=some o->s.heap.objs.size≠c:=fun e=>Nd (Lq e);refine⟨.ref s.heap.objs.size,rfl,wpAny_letOwnedTupleGo_zip z1 fun h2 z2 sb2=>?_⟩;have pr2:IsPair h2 s.heap.objs.size v1 v2:=sb2.extBut _ _ (lt s1) pr;have I2:Inv X pins σ (upd H s.heap.objs.size (.tup [x,y])) {s with heap:=h2,toks:=tk'}:=by
   refine I.mB (fp:=[z,TI,TO,i1,i2]) hf (Lf _) (fun c o hcm ec=>?_) ⟨by show 2<=sizeLine;decide,[v1,v2],.cons ru1 (.cons ru2 .nil),⟨_,pr2,rfl,_,rfl,rfl⟩⟩
   simp only[Ll,LK,M9,not_or] at hcm;exact sb2.extBut _ _ hcm.1 (kp c o hcm.1 hcm.2.2.1 hcm.2.2.2.1 hcm.2.2.2.2 ec)
  refine⟨.ref s.heap.objs.size,_,I2,rfl,⟨s.heap.objs.size,x,y,fun zs hz=>by rw[I.nM hz q1];exact ex,fun zs hz=>by rw[I.nM hz q2];exact ey,fr,rfl,rfl⟩,⟨z2,?_,⟨v1,v2,?_⟩,?_,?_⟩,fun c hcm=>?_⟩
  ·exact sb2.extBut _ _ D.a1 (kp _ _ D.a1 D.b1.1 D.b1.2.1 D.b1.2.2 s2)
  ·exact sb2.extBut _ _ D.a2 t1
  ·have:=D1.frame (i+1) h' h2 w1 fun c hcm o q=>sb2.extBut _ _ (D.f1 (.inl rfl) c hcm) q;exact this.1
  ·have:=D2.frame (i+1) h' h2 w2 fun c hcm o q=>sb2.extBut _ _ (D.f2 (.inl rfl) c hcm) q;exact this.1
  ·have hn:=(hf c hcm).1;rw[af]
   ·exact hn
   ·simp only[Ll,LK,M9] at hcm;rcases hcm with rfl|rfl|rfl|rfl|rfl
    ·exact (lt s1).symm
    ·exact (lt s2).symm
    ·exact (lt s3).symm
    ·obtain⟨o,e,_⟩:=s4.ty;exact (lt e).symm
    ·obtain⟨o,e,_⟩:=s5.ty;exact (lt e).symm
 done:=by
  intro X hP hw hK hc i pins s σ H E I hf st hg;subst hP hw hK;obtain⟨xs,ys,q1,q2,hi⟩:=hg;obtain⟨s1,s2,⟨x0,y0,s3⟩,s4,s5⟩:=st;obtain⟨its1,rv1,p1⟩:=I.v8 q1;obtain⟨its2,rv2,p2⟩:=I.v8 q2;have n1:its1.toArray.size=xs.length:=by rw[Lh];exact rv1.length.symm
  have n2:its2.toArray.size=ys.length:=by rw[Lh];exact rv2.length.symm
  have hT:s.TypeIs (.ref z) "zip":=⟨_,s1,rfl⟩;have D1:=iE (prog:=X.prog) (w:=X.w) (A:=X.A.in1) k1 (I.ok.hd hc) i1 a D.a8.2.2.1 its1.toArray;have D2:=iE (prog:=X.prog) (w:=X.w) (A:=X.A.in1) k2 (I.ok.hd hc) i2 b D.a9.2.2.2 its2.toArray;unfold pyNext;refine KR (OE (LY (name:=Str.ofString "__next__") hT PySem.F.slot_zip_next (Mo PySem.F.slot_zip_next hT PySem.F.entry_zip_next
   (yM D D1 D2 s1 s2 s3 ⟨s4,p1⟩ ⟨s5,p2⟩ (by rw[n1,n2];lia) fun h' e tk' kp he=>?_) (PySem.F.args_zip_next_1 _))))
  obtain⟨o,ho,hcl⟩:=he;refine KR (wpAny_isInstance (T:="StopIteration") (b:=true) ⟨o,ho,hcl⟩ isSubtype_stop (Lk ⟨rfl,?_⟩));refine I.turns (t':=tk') hf fun c o hcm ec=>?_;simp only[Ll,LK,M9,not_or] at hcm;exact kp c o hcm.1 hcm.2.2.1 hcm.2.2.2.1 hcm.2.2.2.2 ec
 self:=fun A i s Q E st h=>wpAny_pyIter_zip st.1 h
section
variable {X:Cx} {es:List Expr} {tk:Nat} {tp:Pos}
noncomputable def oB(K:Qa)(ta:TA):TI:=fun σ H R=>ta σ H fun vs H1=>∃ a b k1 k2,vs=[.ref a,.ref b]/\(∃ xs,nA K k1 H1 a xs)/\(∃ ys,nA K k2 H1 b ys)/\R (ye K k1 k2 a b) H1
theorem sR{e1 e2:Expr}{p pos:Pos}(hg:Gl X "zip")(hm:X.mg "zip"=none)(ha:PA X [e1,e2] ta)(h1:autoParam (bR e1=true) ℜ0)(h2:autoParam (bR e2=true) ℜ0)(hv:autoParam (bootBuiltins "zip"=some (.type "zip")) ℜ6):
  PI X (.Tuple es tk tp) (.Call (.Name "zip" p) [e1,e2] [] pos) (oB X.K ta):=by
 intro pins s σ H R I h;refine Call_ (eE I hg hm hv (Mn (bE (ha pos pins s σ H _ I h) fun us s1 ⟨vs,H1,I1,r1,q1⟩=>?_) (by rw[bZ h1,bZ h2]) (by rw[bZ h2];rfl)))
 obtain⟨a,b,k1,k2,e,⟨xs,hx⟩,⟨ys,hy⟩,q⟩:=q1;subst e;obtain⟨u,w',rfl,ru,rw'⟩:=vals2 r1
 cases ru;cases rw'
 obtain⟨its1,rv1,p1⟩:=I1.v8 hx;obtain⟨its2,rv2,p2⟩:=I1.v8 hy;obtain⟨o1,eo1,_⟩:=p1.ty;obtain⟨o2,eo2,_⟩:=p2.ty;have l1:a<s1.heap.objs.size:=Lq eo1;have l2:b<s1.heap.objs.size:=Lq eo2;refine uv p1 p2 fun h' z1 z2 z3 z4 z5 kp=>wpAny_pyIter_zip z1 ?_;have I2:Inv X pins σ H1 {s1 with heap:=h'}:=I1.kept (t':=s1.toks) kp
 have ne:∀(m n c:Nat),m≠n->c+m≠c+n:=fun m n c h=>by lia
 have nl:∀(x c m:Nat),x<c->x≠c+m:=fun x c m h=>by lia
 have D:ZA (s1.heap.objs.size+4) (s1.heap.objs.size+2) (s1.heap.objs.size+3) s1.heap.objs.size (s1.heap.objs.size+1) a b:=
  ⟨ne 2 4 _ (by decide),ne 3 4 _ (by decide),ne 0 4 _ (by decide),ne 1 4 _ (by decide),ne 3 0 _ (by decide),ne 3 1 _ (by decide),ne 0 1 _ (by decide),⟨nl _ _ 4 l1,nl _ _ 3 l1,nl _ _ 0 l1,nl _ _ 1 l1⟩,⟨nl _ _ 4 l2,nl _ _ 3 l2,nl _ _ 0 l2,nl _ _ 1 l2⟩,ne 2 3 _ (by decide),ne 2 0 _ (by decide),ne 2 1 _ (by decide)⟩
 refine⟨s1.heap.objs.size+4,[s1.heap.objs.size+4,s1.heap.objs.size+2,s1.heap.objs.size+3,s1.heap.objs.size,s1.heap.objs.size+1],_,_,H1,rfl,I2,uf k1 k2 a b _ _ _ _ _ D,⟨z1,z2,⟨_,_,z3⟩,z4,z5⟩,fun c hc=>?_,q⟩;have hc':s1.heap.objs.size<=c:=by
  simp only[Ll,LK,M9] at hc;rcases hc with rfl|rfl|rfl|rfl|rfl
  ·exact NY _ _
  ·exact NY _ _
  ·exact NY _ _
  ·exact Lf _
  ·exact NY _ _
 exact I1.pF hc' (I1.aD.fresh hc')
end
noncomputable def kh(ts us:List T):List T:=List.zipWith (fun t u=>.tup [t,u]) ts us
noncomputable def nU:T->Option (List T)
 |.lst ts=>some ts
 |.tup ts=>some ts
 |.dU ts=>some ts
 |.dk ts=>some ts
 |_=>none
noncomputable def kdOf:T->Bool
 |.lst _=>true
 |.dU _=>true
 |_=>false
theorem Vw.sq{v:V}{t:T}(h:Vw K H B v t)(e:nU t=some ts):∃ a vs,v=.ref a/\nA K (kdOf t) H a vs/\ak K H B vs ts:=by
 cases h with
 |aw=>cases e
 |bl=>cases e
 |int=>cases e
 |str=>cases e
 |dB=>cases e
 |n9=>cases e
 |exc=>cases e
 |AV=>cases e
 |tup h r=>cases e;exact⟨_,_,rfl,aV.of h,r⟩
 |dk h r=>cases e;exact⟨_,_,rfl,.inr h,r⟩
 |lst h r=>cases e;exact⟨_,_,rfl,bz.of h,r⟩
 |dU h r=>cases e;exact⟨_,_,rfl,h,r⟩
theorem Dk{k1 k2:Bool}{us:List T}:i8 K (ye K k1 k2 a b) (fun H B=>(∃ vs,nA K k1 H a vs/\ak K H B vs ts)/\∃ ws,nA K k2 H b ws/\ak K H B ws us) (kh ts us):=by
 refine⟨fun H B i t hb ⟨⟨vs,h1,r1⟩,ws,h2,r2⟩ e=>?_,fun H B ⟨⟨vs,h1,r1⟩,ws,h2,r2⟩=>⟨vs,ws,h1,h2,by rw[r1.length,r2.length];simp[kh]⟩⟩
 unfold kh at e;rw[List.getElem?_zipWith] at e
 cases e1:ts[i]? with
 |none=>rw[e1] at e;cases e
 |some t1=>cases e2:us[i]? with
  |none=>rw[e1,e2] at e;cases e
  |some t2 =>
   rw[e1,e2] at e;have e':T.tup [t1,t2]=t:=Option.some.inj e;subst e';obtain⟨v1,g1,rv1⟩:=r1.get e1;obtain⟨v2,g2,rv2⟩:=r2.get e2;refine⟨⟨vs,ws,v1,v2,h1,h2,g1,g2⟩,fun x H2 y=>?_⟩;obtain⟨p,x',y',hx,hy,hp,rfl,rfl⟩:=y;have z1:=hx vs h1;have z2:=hy ws h2;rw[g1] at z1;rw[g2] at z2
   cases z1;cases z2
   have fs:Fr B H B (upd H p (.tup [v1,v2])):=Fr.same (ba.new hp);refine⟨ba.new hp,.tup (fun z=>?_) ah (.cons (rv1.fr fs) (.cons (rv2.fr fs) .nil))⟩;obtain⟨o,q⟩:=hb p z;rw[hp] at q;cases q
namespace Y
section
variable {X:Cx} {e1 e2:Expr} {es:List Expr} {us:UA} {pos p tp:Pos} {k:Nat}
noncomputable def iZ(us:UA):UI:=fun μ Rt=>us μ fun rs μ'=>match rs with
 |[.tr t1,.tr t2]=>(match nU t1,nU t2 with
  |some ts,some vs=>Rt (kh ts vs) none μ'
  |_,_=>False)
 |_=>False
theorem zip(K:Qa)(hK:X.K=K)(hg:Gl X "zip")(hm:X.mg "zip"=none)(ha:YA X [e1,e2] us)(h1:autoParam (bR e1=true) ℜ0)(h2:autoParam (bR e2=true) ℜ0):YI X (.Tuple es k tp) (.Call (.Name "zip" p) [e1,e2] [] pos) (iZ us):=by
 obtain⟨t,q,r⟩:=ha;subst hK;refine⟨_,⟨sR hg hm q.h h1 h2⟩,fun F ad B σ H μ R Rt hF l q k=>r F ad B σ H μ _ _ hF l q fun vs H' rs μ' l1 ps f k1 q1=>?_⟩
 split at q1
 ·rename_i t1 t2
  cases ps with
  |cons h1 ps=>cases ps with
   |cons h2 ps =>
    cases ps;have r1:=aL h1;have r2:=aL h2
    split at q1
    ·rename_i ts us e1 e2;obtain⟨a,vs,rfl,s1,_⟩:=Vw.sq r1.vw e1;obtain⟨b,ws,rfl,s2,_⟩:=Vw.sq r2.vw e2;rw[hF] at s1 s2;refine⟨a,b,kdOf t1,kdOf t2,rfl,⟨vs,s1⟩,⟨ws,s2⟩,k _ H' μ' _ none (fun H B=>Rep F.K H B (.ref a) t1/\Rep F.K H B (.ref b) t2) l1 f k1 (Dk.imp fun H B h=>?_) ⟨r1,r2⟩ (fun B1 H1 B2 H2 f h=>⟨h.1.fr f,h.2.fr f⟩) (fun j ls z=>by cases z) q1⟩
     obtain⟨g1,g2⟩:=h;obtain⟨a',vs',ea,sa,ra⟩:=Vw.sq g1.vw e1;obtain⟨b',ws',eb,sb,rb⟩:=Vw.sq g2.vw e2
     cases ea;cases eb
     rw[hF] at sa sb ra rb;exact⟨⟨vs',sa,ra⟩,ws',sb,rb⟩
    ·exact q1.elim
 ·exact q1.elim
end
end Y
theorem BH{st:Stmt}{N ps:List Str}(F:zO K x x st fa fd)(S:aj N ps (aa st))(md:List Bool)(hm:md.length=ps.length)(hN:md.length<=N.length)
  (hbody:∀(args:List T) (Qt:R->List T->Prop),args.length=ps.length->tsp args Qt->∀(cdv:Value) (A:Around) (outer:List Env) (s:Shared) (H:Hp) (E:XK),aQ k (A.deeper (envOfC x (aa st) s.heap.objs.size fa cdv)) ->
   ∃ us,YB (gy aT P w K mg base N x (aa st) fa cdv A outer s H E).z_ (aS st) us/\us (vd md Qt) (startM md args N.length)):dC P w K mg base aT (k+1) fa fd ps (spT K md tsp):=by
 refine Bp F S (fun vs H Q E h=>?_) (fun cdv A outer s H vs Q E hr h=>?_)
 ·obtain⟨B,args,Qt,ag,_⟩:=h;rw[ag.len.1,hm]
 ·obtain⟨B,args,Qt,ag,bh,nd,ht,fin⟩:=h;obtain⟨us,⟨t,q,r⟩,hu⟩:=hbody args Qt (by rw[ag.len.2,hm]) ht cdv A outer s H E hr
  refine⟨t,q,?_⟩;have l0:=iY (N:=N) ag bh nd hN;have outs:∀ ad' B' σ' H' μ' (B2:aE),Rl (kA K H md vs B bh) ad' B' σ' H' μ'->(∀ b,B2 b->B' b)->Paired (Bx K H' B2) (kv md vs) (bJ md 0 μ'):=fun ad' B' σ' H' μ' B2 l hB=>by
   refine mD (ag.len.1) fun n e=>?_;obtain⟨v,t',e1,e2,q⟩:=ag.get e;rw[Lg rfl] at q;obtain⟨a,rfl,_⟩:=q;obtain⟨⟨c,hc⟩,ha⟩:=l.par n a (m7 e e1);have sl:=l.slot n _ hc;refine⟨a,c,e1,by rw[MT];exact hc,?_⟩
   rw[<- ha];exact (sl.2.2.2).of rfl (Fr.less hB)
  have keep:∀ ad' B' σ' H' μ',Rl (kA K H md vs B bh) ad' B' σ' H' μ'->∀ b o,H b=some o->b∉kv md vs->H' b=some o:=fun ad' B' σ' H' μ' l b o e n=>l.old b o e fun i z=>n (fu (fN z).1 (fN z).2);refine r (kA K H md vs B bh) _ _ (me vs) B (start N vs) H _ rfl l0 hu ⟨fun ad' B' σ' H' μ' l _ q=>?_,fun ad' B' σ' H' μ' v rr h q=>?_,fun _ _ _ _ _ _ _ z=>z.elim,fun _ _ _ _ _ _ _ z=>z.elim⟩
  ·exact fin .aw H' (.tr .aw) _ q (keep _ _ _ _ _ l) ⟨.aw,outs _ _ _ _ _ _ l l.bc⟩
  ·cases rr with
   |tr t=>exact fin v H' (.tr t) _ q (keep _ _ _ _ _ h.1) ⟨(show Rep K H' B' v t from h.2).fr (Fr.less h.1.bc),outs _ _ _ _ _ _ h.1 h.1.bc⟩
   |fr c =>
    obtain⟨l,a,rfl,n,h0,l2,x⟩:=h;have sub:∀ b,more B a b->more B' a b:=fun b z=>z.imp id (l.bc b);exact fin _ H' (.fr c) _ q (keep _ _ _ _ _ l) ⟨a,rfl,h0,fun z=>n (l.bc a z),x.of rfl (Fr.less sub),outs _ _ _ _ _ _ l2 sub⟩
   |br i =>
    have q':(match μ'[i]? with|some (.bx c)=>Qt (.fr c) (bJ md 0 μ')|_=>False):=q
    obtain⟨l,rfl,s',c',e1,e2⟩:=h
    split at q'
    ·rename_i c ec;have sl:=l.slot i _ ec;have sub:∀ b,more B (ad' i) b->B' b:=fun b z=>z.elim (fun z=>by rw[z];exact sl.2.1) (l.bc b)
     refine fin _ H' (.fr c) _ q' (keep _ _ _ _ _ l) ⟨ad' i,rfl,sl.2.2.1,fun z=>?_,(sl.2.2.2.2).of rfl (Fr.less sub),outs _ _ _ _ _ _ l sub⟩;obtain⟨o,e⟩:=bh _ z;have:H (ad' i)=none:=sl.2.2.1;rw[this] at e;cases e
    ·exact q'.elim
namespace Y
section
variable {X:Cx} {es:List Expr} {pos:Pos} {x:Str}
theorem kL{t:T}(hg:Gl X x)(h:∃ w u,X.mg x=some u/\RelV w u/\∀ H B,Rep X.K H B w t)(hd:autoParam ((x ==("__debug__":Str))=false) ℜ1):YE X (.Name x pos) (uC t):=by
 obtain⟨w,u,hm,r,h⟩:=h;exact glob hg hm r h hd
noncomputable def tI:List V->Option (List T)
 |[]=>some []
 |v::vs=>match wH v,tI vs with
  |some t,some ts=>some (t::ts)
  |_,_=>none
theorem kR:∀{vs:List V} {ts:List T},tI vs=some ts->vs.map wH=ts.map some
 |[],ts,h=>by cases h;rfl
 |v::vs,ts,h=>by
  unfold tI at h
  split at h
  ·rename_i t us e1 e2;cases h;rw[Lz,Lz,e1,kR e2]
  ·cases h
theorem mq(h:kG es=some vs)(h2:tI vs=some ts):YA X es (uK ts):=consts h (kR h2)
end
end Y
theorem Ba{u w:US}{E:Ed}(h:∀ N,N=w E->u {E with nx:=N} μ):Y.BN u w E μ:=h _ rfl
noncomputable def lP(o:Option (Prop×R))(Q:R->Prop):Prop:=match o with
 |some (C,r)=>C/\Q r
 |none=>False
noncomputable def Gu(o:Option (List T×Option (Nat×List T)))(Q:List T->Option (Nat×List T)->Prop):Prop:=match o with
 |some (ts,g)=>Q ts g
 |none=>False
noncomputable def nb:Option Sl->Prop
 |some (.pb _)=>False
 |_=>True
noncomputable def sl:Option T->Sl
 |none=>.un
 |some t=>.tr t
noncomputable def EK(o:Option Sl)(i:Nat):Option (Prop×R):=match o with
 |some (.tr t)=>some (True,.tr t)
 |some (.bx _)=>some (True,.br i)
 |some (.pb _)=>some (True,.br i)
 |_=>none
noncomputable def we:R->Option Bool
 |.tr (.bl b)=>some b
 |.tr (.int i)=>some (i != 0)
 |_=>none
noncomputable def Es(a b:Option T):Option (Prop×R):=match a,b with
 |some (.int i),some (.int j)=>some (True,.tr (.int (i+j)))
 |some (.str i),some (.str j)=>some (i.length+j.length<=sizeLine,.tr (.str (i++j)))
 |some (.lst xs),some (.lst ys)=>some (xs.length+ys.length<=sizeLine,.fr (.lst (xs++ys)))
 |some (.tup xs),some (.tup ys)=>some (xs.length+ys.length<=sizeLine,.tr (.tup (xs++ys)))
 |_,_=>none
noncomputable def oT(o:Option T):Option (Prop×R):=match o with
 |some t=>some (True,.tr t)
 |none=>none
noncomputable def Jy(a b:Option T):Option (Prop×R):=match a,b with
 |some (.lst xs),some (.int i)=>oT (b9 xs i)
 |some (.tup xs),some (.int i)=>oT (b9 xs i)
 |some (.dk xs),some (.int i)=>oT (b9 xs i)
 |some (.str z),some (.int i)=>(match b9 z.cps.toList i with|some c=>some (z.length<=sizeLine,.tr (.str ⟨#[c]⟩))|none=>none)
 |_,_=>none
noncomputable def FX(a:T):Option (Prop×R):=match a with
 |.lst xs=>some (True,.tr (.int xs.length))
 |.tup xs=>some (True,.tr (.int xs.length))
 |.dU xs=>some (True,.tr (.int xs.length))
 |.dk xs=>some (True,.tr (.int xs.length))
 |.str z=>some (z.length<=sizeLine,.tr (.int z.length))
 |_=>none
noncomputable def qO(a:Option T):Option (Prop×R):=match a with
 |some (.lst xs)=>some (True,.tr (.tup xs))
 |some (.tup xs)=>some (True,.tr (.tup xs))
 |_=>none
noncomputable def Cr(a:T):Option (Prop×R):=match a with
 |.lst xs=>some (True,.fr (.lst xs))
 |.tup xs=>some (True,.fr (.lst xs))
 |.dU xs=>some (True,.fr (.lst xs))
 |.dB lo hi=>some ((hi-lo).toNat<=65536/\-(2^62)<=lo/\lo<2^62/\-(2^62)<=hi/\hi<2^62,.fr (.lst ((List.range (hi-lo).toNat).map fun k=>T.int (lo+(k:Nat)))))
 |_=>none
noncomputable def xJ(a:Option T):Option (List T):=match a with
 |some (.tup ts)=>some ts
 |some (.lst ts)=>some ts
 |_=>none
noncomputable def BI(r:R)(μ:Mu):Option (List T×Option (Nat×List T)):=match r with
 |.br j=>(match cont μ (.br j) with|some (.lst ts)=>some (ts,some (j,ts))|_=>none)
 |.tr (.lst ts)=>some (ts,none)
 |.fr (.lst ts)=>some (ts,none)
 |.tr (.tup ts)=>some (ts,none)
 |.tr (.dU ts)=>some (ts,none)
 |.tr (.dk ts)=>some (ts,none)
 |_=>none
namespace A
open Y
theorem uC(t:T)(μ:Mu)(Q:R->Mu->Prop):Y.uC t μ Q=Q (.tr t) μ:=rfl
theorem mI(i:Nat)(μ:Mu)(Q:R->Mu->Prop):Y.mI i μ Q=lP (EK μ[i]? i) fun r=>Q r μ:=by
 unfold Y.mI EK
 cases μ[i]? with
 |none=>rfl
 |some s=>cases s<;>exact propext ⟨fun h=>by first|exact h|exact⟨trivial,h⟩,fun h=>by first|exact h|exact h.2⟩
theorem lM(ue:UE)(μ:Mu)(Q:Bool->Mu->Prop):Y.lM ue μ Q=ue μ fun r μ'=>match r with|.tr (.bl b)=>Q b μ'|_=>False:=rfl
theorem AN(ut:UT)(μ:Mu)(Q:Bool->Mu->Prop):Y.AN ut μ Q=ut μ fun b μ'=>Q (!b) μ':=rfl
theorem xw(u w:UT)(μ:Mu)(Q:Bool->Mu->Prop):Y.xw u w μ Q=u μ fun b μ'=>if b=true then w μ' Q else Q false μ':=rfl
theorem Gs(u w:UT)(μ:Mu)(Q:Bool->Mu->Prop):Y.Gs u w μ Q=u μ fun b μ'=>if b=true then Q true μ' else w μ' Q:=rfl
theorem nJ(ue:UE)(μ:Mu)(Q:Bool->Mu->Prop):Y.nJ ue μ Q=ue μ fun r μ'=>match we r with|some b=>Q b μ'|none=>False:=by
 unfold Y.nJ we;congr 1
 funext r μ'
 cases r with
 |tr t=>cases t<;>rfl
 |br i=>rfl
 |fr c=>rfl
theorem Hb(uc:UT)(ua ub:UE)(μ:Mu)(Q:R->Mu->Prop):Y.Hb uc ua ub μ Q=uc μ fun b μ'=>if b=true then ua μ' Q else ub μ' Q:=rfl
theorem zy(ue:UE)(μ:Mu)(Q:R->Mu->Prop):Y.zy ue μ Q=ue μ fun r μ'=>match r with|.tr (.int i)=>Q (.tr (.int (-i))) μ'|_=>False:=rfl
theorem ve(μ:Mu)(Q:List R->Mu->Prop):Y.ve μ Q=Q [] μ:=rfl
theorem uK(ts:List T)(μ:Mu)(Q:List R->Mu->Prop):Y.uK ts μ Q=Q (ts.map R.tr) μ:=rfl
theorem BJ(us:UA)(μ:Mu)(Q:R->Mu->Prop):Y.BJ us μ Q=us μ fun rs μ'=>match trees rs with|some ts=>ts.length<=sizeLine/\Q (.tr (.tup ts)) μ'|none=>False:=rfl
theorem AD(us:UA)(μ:Mu)(Q:R->Mu->Prop):Y.AD us μ Q=us μ fun rs μ'=>match trees rs with|some ts=>ts.length<=sizeLine/\Q (.fr (.lst ts)) μ'|none=>False:=rfl
theorem Df(u:UC)(us:UA)(μ:Mu)(Q:R->Mu->Prop):Y.Df u us μ Q=us μ fun rs μ'=>u rs μ' Q:=rfl
theorem iP(μ:Mu)(Q:Option Int->Mu->Prop):Y.iP μ Q=Q none μ:=rfl
theorem rK(ue:UE)(μ:Mu)(Q:Option Int->Mu->Prop):Y.rK ue μ Q=ue μ fun r μ'=>match r with|.tr (.int i)=>Q (some i) μ'|_=>False:=rfl
theorem uR(f:T->T->Mu->(R->Mu->Prop)->Prop)(r1 r2:R)(μ:Mu)(Q:R->Mu->Prop):Y.uR f r1 r2 μ Q=(match cont μ r1,cont μ r2 with|some t,some u=>f t u μ Q|_,_=>False):=rfl
theorem Gk(C:Int->Int->Prop)(g:Int->Int->Int)(i j:Int)(μ:Mu)(Q:R->Mu->Prop):yU C g (.int i) (.int j) μ Q=(C i j/\Q (.tr (.int (g i j))) μ):=rfl
theorem Kf(g:Int->Int->Bool)(i j:Int)(μ:Mu)(Q:R->Mu->Prop):IV g (.int i) (.int j) μ Q=Q (.tr (.bl (g i j))) μ:=rfl
theorem fX(r1 r2:R)(μ:Mu)(Q:R->Mu->Prop):Y.fX r1 r2 μ Q=lP (Es (cont μ r1) (cont μ r2)) fun r=>Q r μ:=by
 unfold Y.fX Es
 cases cont μ r1 with
 |none=>rfl
 |some t=>cases cont μ r2 with
  |none=>cases t<;>rfl
  |some u=>cases t<;>cases u<;>first|rfl|exact propext ⟨fun h=>⟨trivial,h⟩,fun h=>h.2⟩
theorem rC(r1 r2:R)(μ:Mu)(Q:R->Mu->Prop):Y.rC r1 r2 μ Q=lP (Jy (cont μ r1) (cont μ r2)) fun r=>Q r μ:=by
 unfold Y.rC Jy;have e:∀(xs:List T) (i:Int),(match b9 xs i with|some t=>Q (.tr t) μ|none=>False)=lP (oT (b9 xs i)) fun r=>Q r μ:=fun xs i=>by
  cases b9 xs i with
  |none=>rfl
  |some t=>exact propext ⟨fun h=>⟨trivial,h⟩,fun h=>h.2⟩
 cases cont μ r1 with
 |none=>rfl
 |some t=>cases cont μ r2 with
  |none=>cases t<;>rfl
  |some u =>
   cases t<;>cases u<;>first|rfl|exact e _ _|skip
   rename_i z i;show (z.length<=sizeLine/\(match b9 z.cps.toList i with|some c=>Q (.tr (.str ⟨#[c]⟩)) μ|none=>False))=lP (match b9 z.cps.toList i with|some c=>some (z.length<=sizeLine,.tr (.str ⟨#[c]⟩))|none=>none) fun r=>Q r μ
   cases b9 z.cps.toList i with
   |none=>exact propext ⟨fun h=>h.2,fun h=>h.elim⟩
   |some c=>rfl
theorem nS(neg:Bool)(t:T)(μ:Mu)(Q:R->Mu->Prop):Y.nS neg t .aw μ Q=Q (.tr (.bl (match t with|.aw=>!neg|_=>neg))) μ:=rfl
theorem Hm(neg:Bool)(i j:Int)(μ:Mu)(Q:R->Mu->Prop):Y.GA neg (.int i) (.int j) μ Q=Q (.tr (.bl (if neg then !decide (i=j) else decide (i=j)))) μ:=rfl
theorem J7(neg:Bool)(i j:Str)(μ:Mu)(Q:R->Mu->Prop):Y.GA neg (.str i) (.str j) μ Q=Q (.tr (.bl (if neg then !decide (i=j) else decide (i=j)))) μ:=rfl
theorem vK(f:T->Mu->(R->Mu->Prop)->Prop)(r:R)(μ:Mu)(Q:R->Mu->Prop):Y.vK f [r] μ Q=(match cont μ r with|some t=>f t μ Q|none=>False):=rfl
theorem oZ(t:T)(μ:Mu)(Q:R->Mu->Prop):Y.oZ t μ Q=lP (FX t) fun r=>Q r μ:=by
 cases t<;>first|rfl|exact propext ⟨fun h=>⟨trivial,h⟩,fun h=>h.2⟩
theorem dO(r:R)(μ:Mu)(Q:R->Mu->Prop):Y.dO [r] μ Q=lP (qO (cont μ r)) fun r=>Q r μ:=by
 show (match cont μ r with|some (.lst xs)=>Q (.tr (.tup xs)) μ|some (.tup xs)=>Q (.tr (.tup xs)) μ|_=>False)=_
 unfold qO
 cases cont μ r with
 |none=>rfl
 |some t=>cases t<;>first|rfl|exact propext ⟨fun h=>⟨trivial,h⟩,fun h=>h.2⟩
theorem pz(t:T)(μ:Mu)(Q:R->Mu->Prop):Y.pz t μ Q=lP (Cr t) fun r=>Q r μ:=by
 cases t<;>first|rfl|exact propext ⟨fun h=>⟨trivial,h⟩,fun h=>h.2⟩|exact propext ⟨fun h=>⟨⟨h.1,h.2.1,h.2.2.1,h.2.2.2.1,h.2.2.2.2.1⟩,h.2.2.2.2.2⟩,fun h=>⟨h.1.1,h.1.2.1,h.1.2.2.1,h.1.2.2.2.1,h.1.2.2.2.2,h.2⟩⟩
theorem B4(j:Int)(μ:Mu)(Q:R->Mu->Prop):Y.qL [.tr (.int j)] μ Q=Q (.tr (.dB 0 j)) μ:=rfl
theorem Eb(g:Int->Int->Int)(i j:Int)(μ:Mu)(Q:R->Mu->Prop):Y.Eb g [.tr (.int i),.tr (.int j)] μ Q=Q (.tr (.int (g i j))) μ:=rfl
theorem GP(k:Bool)(μ:Mu)(Q:R->Mu->Prop):Y.wg [.tr (.bl k)] μ Q=Q (.tr (.int (if k=true then 1 else 0))) μ:=rfl
theorem pf(ue:UE)(c:String)(μ:Mu)(Q:R->Mu->Prop):Y.pf ue c μ Q=ue μ fun r μ'=>match cont μ' r with|some t=>(match zZ t c with|some b=>Q (.tr (.bl b)) μ'|none=>False)|none=>False:=rfl
theorem ko(ue:UE)(g:UG)(E:Ed)(μ:Mu):Y.ko ue g E μ=ue μ fun r μ'=>g r μ' E.nx:=rfl
theorem K9(i:Nat)(t:T)(μ:Mu)(Q:Mu->Prop):Y.gN i (.tr t) μ Q=(vG μ i/\Q (μ.set i (.tr t))):=rfl
theorem KG(i:Nat)(t:T)(μ:Mu)(Q:Mu->Prop):Y.gN i (.fr t) μ Q=(vG μ i/\Q (μ.set i (.bx t))):=rfl
theorem vG(μ:Mu)(i:Nat):Y.vG μ i=nb μ[i]?:=rfl
theorem HH(t:T):nb (some (.tr t))=True:=rfl
theorem GX(t:T):nb (some (.bx t))=True:=rfl
theorem GQ:nb (some .un)=True:=rfl
theorem HX(o:Option T):nb (some (sl o))=True:=by cases o<;>rfl
theorem gT(n:Nat)(gs:rX)(r:R)(μ:Mu)(Q:Mu->Prop):Y.gT n gs r μ Q=(match xJ (cont μ r.d) with|some ts=>ts.length=n/\gs ts μ Q|none=>False):=by
 unfold Y.gT xJ
 cases cont μ r.d with
 |none=>rfl
 |some t=>cases t<;>rfl
theorem Ip(g:UG)(gs:rX)(t:T)(ts:List T)(μ:Mu)(Q:Mu->Prop):Y.Ip g gs (t::ts) μ Q=g (.tr t) μ fun μ'=>gs ts μ' Q:=rfl
theorem Ir(μ:Mu)(Q:Mu->Prop):Y.Ir [] μ Q=Q μ:=rfl
theorem gS(uo ui:UE)(t:T)(μ:Mu)(Q:Mu->Prop):Y.gS uo ui (.tr t) μ Q=uo μ fun ro μ1=>ui μ1 fun ri μ2=>(match ro,ri with
  |.br j,.tr (.int k)=>(match (μ2[j]?).bind Sl.box with
   |some (.lst ts)=>(match ji ts.length k with
    |some n=>Q (cB μ2 j (.lst (ts.set n t)))
    |none=>False)
   |_=>False)
  |_,_=>False):=rfl
theorem vn(ue:UE)(E:Ed)(μ:Mu):Y.vn ue E μ=ue μ E.rt:=rfl
theorem tF(ue:UE)(E:Ed)(μ:Mu):Y.tF ue E μ=ue μ fun _ μ'=>E.nx μ':=rfl
theorem B6(c:UT)(u w:US)(E:Ed)(μ:Mu):Y.B6 c u w E μ=c μ fun b μ'=>if b=true then u E μ' else w E μ':=rfl
theorem CM(ue:UE)(μ:Mu)(Rt:List T->Option (Nat×List T)->Mu->Prop):Y.CM ue μ Rt=ue μ fun r μ'=>Gu (BI r μ') fun ts g=>Rt ts g μ':=by
 unfold Y.CM BI;congr 1
 funext r μ'
 cases r with
 |tr t=>cases t<;>rfl
 |br j =>
  show (match cont μ' (.br j) with|some (.lst ts)=>Rt ts (some (j,ts)) μ'|_=>False)=Gu (match cont μ' (.br j) with|some (.lst ts)=>some (ts,some (j,ts))|_=>none) fun ts g=>Rt ts g μ'
  cases cont μ' (.br j) with
  |none=>rfl
  |some t=>cases t<;>rfl
 |fr c=>cases c<;>rfl
theorem IA(us:UA)(μ:Mu)(Rt:List T->Option (Nat×List T)->Mu->Prop):Y.IA us μ Rt=us μ fun rs μ'=>match rs with
 |[.tr (.int j)]=>-(2^62)<=j/\j<2^62/\Rt ((List.range j.toNat).map fun k=>T.int (0+(k:Nat))) none μ'
 |_=>False:=rfl
theorem Il(us:UA)(μ:Mu)(Rt:List T->Option (Nat×List T)->Mu->Prop):Y.Il us μ Rt=us μ fun rs μ'=>match rs with
 |[.tr (.int i),.tr (.int j)]=>(-(2^62)<=i/\i<2^62/\-(2^62)<=j/\j<2^62)/\Rt ((List.range (j-i).toNat).map fun k=>T.int (i+(k:Nat))) none μ'
 |_=>False:=rfl
theorem Io(us:UA)(μ:Mu)(Rt:List T->Option (Nat×List T)->Mu->Prop):Y.Io us μ Rt=us μ fun rs μ'=>match rs with |[.tr (.tup ts)]=>Rt (pairs ts) none μ'|_=>False:=rfl
theorem iZ(us:UA)(μ:Mu)(Rt:List T->Option (Nat×List T)->Mu->Prop):Y.iZ us μ Rt=us μ fun rs μ'=>match rs with
 |[.tr t1,.tr t2]=>(match nU t1,nU t2 with|some ts,some vs=>Rt (kh ts vs) none μ'|_,_=>False)
 |_=>False:=rfl
theorem vU(ui:UI)(g:UG)(body:US)(E:Ed)(μ:Mu):Y.vU ui g body E μ=ui μ fun items gd μ'=>match gd with
 |none=>fo g body E items μ'
 |some (j,_)=>(match μ'[j]? with
  |some (.bx c)=>fo g body E items (μ'.set j (.tr c))
  |_=>False):=rfl
theorem gD(own:T->Mu->Option Mu)(dr:Mu->Mu)(ui:UI)(ut:UT)(ue:UE)(μ:Mu)(Q:R->Mu->Prop):Y.gD own dr ui ut ue μ Q=ui μ fun items gd μ'=>p_ gd own dr ut ue Q items [] μ':=rfl
theorem Ie(um:UM)(uo:UE)(us:UA)(μ:Mu)(Q:R->Mu->Prop):Y.Ie um uo us μ Q=uo μ fun ro μ1=>match ro with|.br j=>Y.Ih ((μ1[j]?).bind Sl.box) (us μ1 fun rs μ2=>um j rs μ2 Q)|_=>False:=rfl
theorem fW(j:Nat)(t:T)(μ:Mu)(Q:R->Mu->Prop):Y.fW j [.tr t] μ Q=(match (μ[j]?).bind Sl.box with|some (.lst ts)=>ts.length<sizeLine/\Q (.tr .aw) (cB μ j (.lst (ts++[t])))|_=>False):=rfl
theorem Eh(md:List Bool)(tsp:dX)(us:UA)(μ:Mu)(Q:R->Mu->Prop):Y.Eh md tsp us μ Q=us μ fun rs μ1=>match yn μ1 md rs with
 |some args=>(gx md rs).Nodup/\(∀ j∈gx md rs,j∉ib md rs)/\tsp args fun r outs=>(ib md rs=[]\/(fZ r=true/\outs.all ip=true))/\Q r (putAll (gx md rs) outs μ1)
 |none=>False:=rfl
theorem K0(ts:List T):nU (.lst ts)=some ts:=rfl
theorem K8(ts:List T):nU (.tup ts)=some ts:=rfl
noncomputable def Jf:Option T->Nat->Option (List T×Option (Nat×List T))
 |some (.lst ts),j=>some (ts,some (j,ts))
 |_,_=>none
theorem Kb(xs:List T):qO (some (.lst xs))=some (True,.tr (.tup xs)):=rfl
theorem JD(xs:List T):Cr (.tup xs)=some (True,.fr (.lst xs)):=rfl
theorem JR(xs:List T):xJ (some (.tup xs))=some xs:=rfl
theorem Hg(ts:List T)(μ:Mu):BI (.tr (.lst ts)) μ=some (ts,none):=rfl
theorem Hj(ts:List T)(μ:Mu):BI (.fr (.lst ts)) μ=some (ts,none):=rfl
theorem FQ(ts:List T)(μ:Mu):BI (.tr (.tup ts)) μ=some (ts,none):=rfl
theorem Ga(ts:List T)(μ:Mu):BI (.tr (.dU ts)) μ=some (ts,none):=rfl
theorem Hc(j:Nat)(μ:Mu):BI (.br j) μ=Jf (cont μ (.br j)) j:=by
 show (match cont μ (.br j) with|some (.lst ts)=>some (ts,some (j,ts))|_=>none)=_
 unfold Jf
 cases cont μ (.br j) with
 |none=>rfl
 |some t=>cases t<;>rfl
theorem G1(ts:List T)(j:Nat):Jf (some (.lst ts)) j=some (ts,some (j,ts)):=rfl
theorem Jd(μ:Mu)(t:T):cont μ (.tr t)=some t:=rfl
theorem Jw(μ:Mu)(i:Nat):cont μ (.br i)=(μ[i]?).bind Sl.box:=rfl
theorem Jo(t:T):R.d (.tr t)=.tr t:=rfl
theorem IZ(b:Bool):we (.tr (.bl b))=some b:=rfl
end A
theorem bT{g:UG}{body:US}{E:Ed}(I:List T->Mu->Prop){items:List T}(h0:I items μ)(hn:∀ μ,I [] μ->E.nx μ)
  (hs:∀ t ts μ (N:Mu->Prop),I (t::ts) μ->(∀ μ',I ts μ'->N μ')->g (.tr t) μ fun μ1=>body {E with nx:=N,ct:=N,bk:=E.nx} μ1):Y.fo g body E items μ:=by
 induction items generalizing μ with
 |nil=>exact hn μ h0
 |cons t ts ih=>exact hs t ts μ _ h0 fun μ' h=>ih h
theorem bj{gd:Option (Nat×List T)}{own:T->Mu->Option Mu}{ut:UT}{Q:R->Mu->Prop}(I:List T->List T->Mu->Prop){items acc:List T}(h0:I items acc μ)(hn:∀ acc μ,I [] acc μ->Y.FZ gd μ/\Q (.fr (.lst acc)) μ)
  (hs:∀ t r acc μ (N:List T->Mu->Prop),I (t::r) acc μ->(∀ acc' μ',I r acc' μ'->N acc' μ')->Y.FZ gd μ/\acc.length<sizeLine/\(match own t μ with
   |none=>False
   |some μ1=>ut μ1 fun b μ2=>if b=true then ue μ2 fun rr μ3=>(match rr.d with
     |.tr t'=>N (acc++[t']) (dr μ3)
     |_=>False) else N acc (dr μ2))):Y.p_ gd own dr ut ue Q items acc μ:=by
 induction items generalizing μ acc with
 |nil=>exact hn acc μ h0
 |cons t ts ih=>exact hs t ts acc μ (fun a m=>Y.p_ gd own dr ut ue Q ts a m) h0 fun a' μ' h=>ih h
noncomputable def lj(K:Qa):Sp:=fun vs H Q _=>∃(a:Addr) (ns:List Int),vs=[.ref a]/\bz K H a (ns.map V.int)/\ns.length<=63/\∀ H',Q (.bl true) H'
theorem dn:∀ ns:List Int,ak K H B (ns.map V.int) (ns.map T.int)
 |[]=>.nil
 |n::ns=>.cons (.int n) (dn ns)
theorem E2{ps:List Str}(h:dC P w K mg base aT k fa fd ps (spT K [false] E6)):dC P w K mg base aT k fa fd ps (lj K):=by
 refine h.imp fun vs H Q E ⟨a,ns,e,hs,hl,q⟩=>?_;subst e;refine⟨fun _=>False,[.dU (ns.map T.int)],fun r outs=>r=.tr (.bl true),⟨.dU ?_ (dn ns),trivial⟩,fun b z=>z.elim,N0,⟨ns,rfl,hl,rfl⟩,fun v H' r outs hr _ res=>?_⟩
 ·rcases hs with hs|hs
  ·exact .inl ⟨fun z=>z,hs⟩
  ·exact .inr hs
 ·subst hr;have rv:=res.1;cases rv;exact q H'
namespace Y
theorem du:fillsNumberSlot (.type "tuple") "mul"=pure false:=
 PySem.fillsNumberSlot_seq (id:="tuple.__mul__") (r:=some (.builtin "tuple.__rmul__")) PySem.F.slot_tuple_mul.lookup (by decide +kernel) PySem.F.slot_tuple_rmul.lookup (by decide +kernel)
theorem fS:seqRepeat? (.type "tuple")=pure (some (.builtin "tuple.__mul__")):=by
 unfold seqRepeat?;rw[PySem.seqSlot_of (T:="tuple") (name:="__mul__") (id:="tuple.__mul__") PySem.F.slot_tuple_mul.lookup (by decide +kernel),PySem.seqSlot_of (T:="tuple") (name:="__rmul__") (id:="tuple.__rmul__") PySem.F.slot_tuple_rmul.lookup (by decide +kernel)];rfl
theorem jb(a:Int)(t:Tok)(l:Addr)(ob:Obj)(items:Array Value)(n:Nat)(hc:ob.cls=.type "tuple")(hd:ob.data=.seq items n):
  Meets (Builtin.«int.__rmul__» ⟨[.int a t,.ref l],[]⟩) (fun _ R s=>s.heap.get? l=some ob/\R (.ok (.ret Value.notImplemented)) s):=
 .of_wp fun prog w A R s h=>by
  obtain⟨hp,g,d,tk,os⟩:=s;obtain⟨hl,h⟩:=h;obtain⟨c,dd,da,sl⟩:=ob;simp only at hc hd;subst hc hd
  wp_walk
  exact⟨_,rfl,h⟩
theorem BF(l:Addr)(items:Array Value)(ob:Obj)(n:Nat)(k:Int)(t:Tok)(hc:ob.cls=.type "tuple")(hd:ob.data=.seq items n)(hne:items.isEmpty=false)(h1:1<k)(h2:k<=1000)(hsz:items.size<=1000):
  Meets (Builtin.«tuple.__mul__» ⟨[.ref l,.int k t],[]⟩) (fun _ R s=>s.heap.get? l=some ob/\R (.ok (.ret (.ref s.heap.objs.size))) {s with heap:=s.heap.push {cls:=.type "tuple",data:=.seq ((List.replicate k.toNat items).foldl (·++·) #[])}}):=
 .of_wp fun prog w A R s h=>by
  obtain⟨hp,g,d,tk,os⟩:=s;obtain⟨hl,h⟩:=h;obtain⟨c,dd,da,sl⟩:=ob;simp only at hc hd;subst hc hd;have e1:(decide (k < -(2^63)) || decide (k >= 2^63))=false:=by rw[L0 (by lia),L0 (by lia)];rfl
  have e2:(items.isEmpty || k == 1)=false:=by rw[hne,MK.mpr (by lia)];rfl
  have e3:(decide (k<=0) || items.isEmpty)=false:=by rw[hne,L0 (by lia)];rfl
  wp_walk using NN hl;rw[K_ (by rw[e1];exact Lm)]
  have ht:IsTup (Shared.heap ⟨hp,g,d,tk,os⟩) l items:=⟨_,hl,rfl,n,rfl⟩;show wpAny _ _ (Builtin.Tuple.tupleItemsOf (.ref l) >>= _) _ _ _;refine KR (tupleItemsOf_ ht ?_);rw[K_ (by rw[e2];exact Lm)]
  show wpAny _ _ (if (decide (k<=0) || items.isEmpty)=true then _ else _) _ _ _
  rw[K_ (by rw[e3];exact Lm)]
  have hm:(items.size:Int)*k<=1000*1000:=Int.mul_le_mul (by lia) h2 (by lia) (by lia)
  show wpAny _ _ (if (items.size:Int)*k >(2^63-1) / 8 then _ else _) _ _ _
  rw[K_ (by lia)]
  show wpAny _ _ (if Builtin.Tuple.tupleTooMany ((items.size:Int)*k)=true then _ else _) _ _ _
  have e4:Builtin.Tuple.tupleTooMany ((items.size:Int)*k)=false:=L0 (by
   have:((sizeLine:Nat):Int) >= 1000000:=by decide
   lia)
  rw[K_ (by rw[e4];exact Lm)]
  have hl2:((List.replicate k.toNat items).foldl (·++·) #[]).size<=sizeLine:=by
   have fs:∀(m:Nat) (acc:Array Value),((List.replicate m items).foldl (·++·) acc).size=acc.size+m*items.size:=fun m=>by
    induction m with
    |zero=>intro acc;simp
    |succ m ih=>intro acc;rw[LC,Pq,ih,OL,Nz];lia
   rw[fs];have h3:k.toNat*items.size<=1000*1000:=O3 (by lia) hsz
   have h4:(1000000:Nat)<=sizeLine:=by decide
   simp;lia
  exact KR (m:=Builtin.Tuple.tupleExact _) (Mh (Lk ⟨_,rfl,h⟩) hl2)
theorem uQ(its:List Value):∀(m:Nat) (acc:List Value),(List.replicate m its.toArray).foldl (·++·) acc.toArray=(acc++(List.replicate m its).flatten).toArray:=fun m acc=>foldl_rep its m acc
noncomputable def Cq(K:Qa):R2:=fun x y H Q=>∃ a k xs,x=.ref a/\y=.int k/\aV K H a xs/\xs≠[]/\xs.length<=1000/\1<k/\k<=1000/\∀ p,H p=none->Q (.ref p) (upd H p (.tup (List.replicate k.toNat xs).flatten))
theorem zS:d7 X (binaryOp .Mult) (Cq X.K):=by
 intro pins s σ H x y v u Q I rx ry h;obtain⟨a,k,xs,rfl,rfl,hx,hne,hsz,h1,h2,q⟩:=h;cases rx;obtain⟨t,rfl⟩:=ry;obtain⟨its,r,p,hz⟩:=I.tuple hx;obtain⟨ob,ho,hc,n,hd⟩:=id p;have hlen:=r.length;have hemp:its.toArray.isEmpty=false:=by
  cases its with
  |nil=>cases r;exact absurd rfl hne
  |cons a b=>rfl
 refine MZ (T:="tuple") (U:="int") (by decide) ⟨_,ho,hc⟩ (fun s'=>Nn s' k t) du PySem.F.fills_int_mul PySem.F.slot_int_rmul fS PySem.F.slot_int_index.lookup
  (Mr PySem.F.slot_int_rmul (Nn s k t) PySem.F.entry_int_rmul (PySem.F.args_int_rmul_2 _ _) (jb k t a ob its.toArray n hc hd)
   ⟨ho,rfl,⟨_,ho,hc⟩,Mr PySem.F.slot_tuple_mul ⟨_,ho,hc⟩ PySem.F.entry_tuple_mul (PySem.F.args_tuple_mul_2 _ _) (BF a its.toArray ob n k t hc hd hemp h1 h2 (by rw[Lh];lia)) ⟨ho,?_⟩⟩)
 have e0:=uQ its k.toNat [];rw[MX] at e0;have e0':(List.replicate k.toNat its.toArray).foldl (·++·) #[]=(List.replicate k.toNat its).flatten.toArray:=e0;rw[e0'];refine⟨.ref s.heap.objs.size,_,I.laid (t':=s.toks) (o:=.tup (List.replicate k.toNat xs).flatten) (fun b ob q=>KU _ q) (Lf _) ?_,rfl,q _ (I.aD.fresh (Lf _))⟩;refine⟨?_,_,r.rep k.toNat,cY.new _ _⟩;rw[len_rep];have h3:k.toNat*xs.length<=1000*1000:=O3 (by lia) hsz
 exact Lr h3 (by decide)
noncomputable def wN(K:Qa):R2:=fun x y H Q=>ES x y H Q\/Cq K x y H Q
theorem dh(K:Qa)(hK:X.K=K):d7 X (binaryOp .Mult) (wN K):=by subst hK;exact sF.or zS
noncomputable def lA:U2:=fun r1 r2 μ Q=>match cont μ r1,cont μ r2 with
 |some (.int i),some (.int j)=>nL i j/\Q (.tr (.int (i*j))) μ
 |some (.lst xs),some (.int k)=>-(2^63)<=k/\k<2^63/\xs.length*k.toNat<=sizeLine/\Q (.fr (.lst (List.replicate k.toNat xs).flatten)) μ
 |some (.tup xs),some (.int k)=>(xs≠[]/\xs.length<=1000/\1<k/\k<=1000)/\Q (.tr (.tup (List.replicate k.toNat xs).flatten)) μ
 |_,_=>False
theorem cf:ke K (wN K) lA:=by
 intro F ad B σ H μ Q Qt x y r1 r2 hK l h1 h2 q k;unfold lA at q
 split at q
 ·rename_i i j e1 e2;exact .inl (yB F ad B σ H μ Q Qt x y r1 r2 hK l h1 h2 (by unfold rS;rw[e1,e2];exact q) k)
 ·rename_i xs j e1 e2;exact .inl (yB F ad B σ H μ Q Qt x y r1 r2 hK l h1 h2 (by unfold rS;rw[e1,e2];exact q) k)
 ·rename_i xs j e1 e2;have a:=h1.vw l e1;have b:=h2.vw l e2;subst hK;cases b
  cases a with
  |tup ha ra =>
   refine .inr ⟨_,_,_,rfl,rfl,aV.of ha,?_,by rw[ra.length];exact q.1.2.1,q.1.2.2.1,q.1.2.2.2,fun p hp=>k _ _ _ μ (Vr.uj l (ra.rep _) hp) (Fr.same (ba.new hp)) (Kp.refl μ) q.2⟩
   rintro rfl;cases ra;exact q.1.1 rfl
 ·exact q.elim
end Y
namespace A
theorem DB(i j:Int)(μ:Mu)(Q:R->Mu->Prop):Y.lA (.tr (.int i)) (.tr (.int j)) μ Q=(nL i j/\Q (.tr (.int (i*j))) μ):=rfl
end A
open PySem PySem.Spec PyProof PyProof.Rows
namespace Y
theorem eK:∀{us:List Value} {ns:List Int},IntsAre us ns->Vals (ns.map V.int) us
 |_,_,.nil=>.nil
 |_,_,.cons n t h=>.cons ⟨t,rfl⟩ (eK h)
theorem jE:∀{us:List Value} {ns:List Int},IntsAre us ns->us.length=ns.length
 |_,_,.nil=>rfl
 |_,_,.cons n t h=>by simp[jE h]
section
variable {prog:Program} {w:World} {A:Around} {E:Value->Shared->Prop} {s:Shared}
theorem oA{vs:List Value}{Q:List Value->Shared->Prop}(hl:IsTup s.heap l vs.toArray)(hsz:vs.length<=sizeLine)
  (h:Q vs {s with heap:=(s.heap.push (seqObj "list" #[] 0)).update s.heap.objs.size (Obj.mapSeq (·++vs.toArray))}):wpAny (model prog w) A (collect (.ref l)) Q E s:=by
 obtain⟨o,ho,hc,n,hd⟩:=id hl;unfold collect;refine KR (wpAny_runValue (Ol entry_proto_collect' ?_));show wpAny _ _ (do again (.builtin "list.__iadd__" ⟨[<- newList [],.ref l],[]⟩)) _ _ s
 refine KR (OF (Lk ⟨Code.quiet_builtin _ (by decide +kernel),Ol entry_list_iadd' ?_⟩))
 show wpAny _ _ (Builtin.List.listExtendWith (.ref s.heap.objs.size) (.ref l) (.ref s.heap.objs.size)) _ _ {s with heap:=s.heap.push (seqObj "list" #[] 0)}
 unfold Builtin.List.listExtendWith;have ho':(s.heap.push (seqObj "list" #[] 0)).get? l=some o:=KU _ ho;refine KR (PX (T:="tuple") ⟨o,ho',hc⟩ ?_);have ht:(Value.type "tuple" == Value.type "tuple")=true:=by rfl
 rw[Lg (by rw[ht];simp)]
 refine KR (O_ ho' hd ?_);refine KR (O_ (xs:=#[]) (n:=0) (Lo _ rfl) rfl ?_);rw[K_ (by simp)]
 refine KR (listUpdate_at (xs:=#[]) (n:=0) (Lo _ rfl) rfl ?_ (LA _) (by show (#[]++vs.toArray).size<=sizeLine+1;simp only[OL,Lh,LI];lia))
 refine Lk ?_;show wpAny (model prog w) A (load s.heap.objs.size >>= _) Q E {s with heap:=(s.heap.push (seqObj "list" #[] 0)).update s.heap.objs.size (Obj.mapSeq (·++vs.toArray))}
 refine KR (wpAny_load (Om (Lo _ rfl) _) ?_);show wpAny _ _ (pure ((#[]:Array Value)++vs.toArray).toList) Q E _;rw[show ((#[]:Array Value)++vs.toArray).toList=vs by simp]
 exact Lk h
theorem rE{vs:List Value}(hl:IsTup s.heap l vs.toArray)(hI:IntsAre vs ns)(h64:vs.length<64)
  (h:∀(out:Array Value) (ns':List Int),IntsAre out.toList ns'->ns'.Perm ns->ns'.Pairwise (·<=·)->Q (.ref (s.heap.objs.size+1)) {s with heap:=sortedAll s.heap vs out}) :
  wpAny (model prog w) A (call (.builtin "sorted") [.ref l]) Q E s:=by
 have hz:vs.length<=sizeLine:=Lr (Nc h64) (by decide)
 refine Calls.call_function_entry kind_sorted plain_sorted entry_sorted (args_sorted1 _) ?_;unfold Builtin.«sorted»;refine KR (m:=checkCount "sorted" 1 1 _) (Lk ?_);refine KR (oA hl hz ?_);refine KR (OF ?_ hz);have hs:((s.heap.push (seqObj "list" #[] 0)).update s.heap.objs.size (Obj.mapSeq (·++vs.toArray))).objs.size=s.heap.objs.size+1:=by rw[Pa,size_push']
 have ho:(((s.heap.push (seqObj "list" #[] 0)).update s.heap.objs.size (Obj.mapSeq (·++vs.toArray))).push (seqObj "list" vs.toArray 0)).get? (s.heap.objs.size+1)=some (seqObj "list" vs.toArray 0):=by
  rw[<- hs];exact Lo _ rfl
 show wpAny _ _ _ _ _ {s with heap:=((s.heap.push (seqObj "list" #[] 0)).update s.heap.objs.size (Obj.mapSeq (·++vs.toArray))).push (seqObj "list" vs.toArray 0)}
 rw[hs];refine KR (LV (Mo slot_list_sort ⟨_,ho,rfl⟩ entry_list_sort (list_sort_tree ho hI h64 fun out ns' a1 a2 a3=>⟨_,rfl,?_⟩) (args_list_sort _)));exact Lk ⟨_,rfl,h out ns' a1 a2 a3⟩
end
noncomputable def Ce(K:Qa):List V->Hp->VK->Prop:=fun xs H Q=>∃ p ns,xs=[.ref p]/\aV K H p (ns.map V.int)/\ns.length<64/\∀ ns':List Int,ns'.Perm ns->ns'.Pairwise (·<=·)->∀ l,H l=none->Q (.ref l) (upd H l (.lst (ns'.map V.int)))
theorem u_(K:Qa)(hK:X.K=K):aF X (.builtin "sorted") (Ce K):=by
 subst hK;intro pins s σ H xs us Q I r h;obtain⟨p,ns,rfl,hq,h64,q⟩:=h;obtain⟨u,rfl,ru⟩:=vals1 r;cases ru;obtain⟨its,rv,pl,hz⟩:=I.tuple hq;have hi:=intsAre_of rv;refine rE pl hi (by rw[jE hi];exact h64) fun out ns' a1 a2 a3=>?_
 obtain⟨e,he⟩:=sortedAll_at s.heap its out;refine⟨.ref (s.heap.objs.size+1),_,I.laid (t':=s.toks) (fun b ob q=>sortedAll_old q) (Nr _) (show aU X.prog X.w _ _ _ (.lst (ns'.map V.int)) from⟨?_,out.toList,e,eK a1,by simpa using he⟩),rfl,q ns' a2 a3 _ (I.aD.fresh (Nr _))⟩
 rw[Ld,a2.length_eq];exact Lr (Nc h64) (by decide)
theorem dn:∀ ns:List Int,ak K H B (ns.map V.int) (ns.map T.int)
 |[]=>.nil
 |n::ns=>.cons (.int _) (dn ns)
theorem cE:∀{ns:List Int} {vs:List V},ak K H B vs (ns.map T.int)->vs=ns.map V.int
 |[],_,.nil=>rfl
 |n::ns,_,.cons h r=>by cases h;rw[cE r];rfl
noncomputable def HM(K:Qa):List V->Hp->VK->Prop:=fun xs H Q=>∃(p:Addr) (ns:List Int),xs=[.ref p]/\bz K H p (ns.map V.int)/\Q (.int ns.sum) H
theorem tW(K:Qa)(hK:X.K=K)(hc:X.calm=true):aF X (.builtin "sum") (HM K):=by subst hK;exact tT hc
noncomputable def EW:T->Mu->(R->Mu->Prop)->Prop:=fun t μ Q=>match t with
 |.lst xs=>∃ ns:List Int,xs=ns.map T.int/\Q (.tr (.int ns.sum)) μ
 |_=>False
theorem Eo:RC K (HM K) (vK EW):=jt fun F ad B σ H μ Q Qt x t hK l v1 q k=>by
 subst hK;unfold EW at q
 split at q
 ·obtain⟨ns,rfl,q⟩:=q
  cases v1 with
  |lst ha ra=>exact⟨_,ns,rfl,by rw[<- cE ra];exact bz.of ha,k _ _ _ (Vr.flat l (.int _)) Fr.refl q⟩
 ·exact q.elim
noncomputable def Hn(i j:Int):Prop:=0<j/\j<4611686018427387904
theorem gp:d7 X (binaryOp .FloorDiv) (rI Hn fun i j=>.int (i / j)):=Ig fun i j _ _ _ _ _ hc q=>by
 have h1:(0:Int)<j:=hc.1;have h2:j<4611686018427387904:=hc.2;exact floordiv_int (by lia) (by rw[Int.fdiv_eq_ediv_of_nonneg i (by lia)];exact q) (.inl (PyProof.noPylong_of_log2 (PY ((Pz (k:=62) (by lia)).mpr (by lia)) (by decide))))
end Y
namespace A
theorem GS(xs:List T)(μ:Mu)(Q:R->Mu->Prop):Y.EW (.lst xs) μ Q=(∃ ns:List Int,xs=ns.map T.int/\Q (.tr (.int ns.sum)) μ):=rfl
end A
namespace Y
theorem kN:∀ ns:List Str,ak K H B (ns.map V.str) (ns.map T.str)
 |[]=>.nil
 |n::ns=>.cons (.str _) (kN ns)
theorem gU:∀{ns:List Str} {vs:List V},ak K H B vs (ns.map T.str)->vs=ns.map V.str
 |[],_,.nil=>rfl
 |n::ns,_,.cons h r=>by cases h;rw[gU r];rfl
abbrev Dd:=Str->List R->Mu->(R->Mu->Prop)->Prop
noncomputable def IK(um:Dd)(uo:UE)(us:UA):UE:=fun μ Q=>uo μ fun ro μ1=>match ro with
 |.tr (.str z)=>us μ1 fun rs μ2=>um z rs μ2 Q
 |_=>False
noncomputable def Im(K:Qa)(r:V->List V->Hp->VK->Prop)(um:Dd):Prop:=∀(F:Fx) (ad:Nat->Addr) (B:aE) (σ:St) (H:Hp) (μ:Mu) (Q:VK) (Qt:R->Mu->Prop) (z:Str) (xs:List V) (rs:List R),F.K=K->Rl F ad B σ H μ->Paired (Hv F ad B H μ) xs rs->um z rs μ Qt ->
 (∀ v H' r μ',Vr F ad B σ H' μ' v r->Fr B H (Bv B v r) H'->Kp μ μ'->Qt r μ'->Q v H')->r (.str z) xs H Q
theorem sm{o:Expr}{uo:UE}{pos:Pos}(K:Qa)(hK:X.K=K){id:String}{r:V->List V->Hp->VK->Prop}{um:Dd}(slot:Slot "str" name id)(hty:typeOf (.builtin id)=pure (.type "method_descriptor"))(hm:uS X id r)(hr:Im X.K r um)(ho:YE X o uo)(ha:YA X (e::es) us)
  (hbase:autoParam (attributeBase o name X.env (eval o X.env)=eval o X.env) ℜ0) (hline:autoParam ((apos.endLine == pos.line)=true) ℜ0) (h:autoParam ((e::es).all bR=true) ℜ0) (hl:autoParam ((e::es).length<30) ℜ1):YE X (.Call (.Attribute o name apos) (e::es) [] pos) (IK um uo us):=by
 obtain⟨t,q,rr⟩:=ho;obtain⟨t',q',r'⟩:=ha;refine⟨_,Z.bm K hK PySem.F.plainAttrs_str slot hty hm q q' hbase hline h hl,fun F ad B σ H μ Q Qt hF l q k=>rr F ad B σ H μ _ _ hF l q fun v H1 r1 μ1 v1 f1 k1 q1=>?_⟩
 split at q1
 ·rename_i z;obtain⟨l1,rp⟩:=v1;cases rp;refine⟨rfl,?_⟩;refine r' F ad B σ H1 μ1 _ _ hF l1 q1 fun xs H2 rs μ2 l2 ps f2 k2 q2=>?_;exact hr F ad B σ H2 μ2 _ _ z xs rs hF l2 ps q2 fun v H3 r3 μ3 v3 f3 k3 q3=>k v H3 r3 μ3 v3 ((f1.d.trans f2).trans f3) ((k1.trans k2).trans k3) q3
 ·exact q1.elim
theorem y8(l:List Nat):∀(n a:Nat),((List.range n).map (fun k=>a+k)).filterMap (l[·]?)=(l.drop a).take n
 |0,_=>by simp
 |n+1,a=>by
  rw[MF,Lv,List.filterMap_append,y8 l n a,OM,MC]
  cases h:l[a+n]?<;>simp[h]
theorem om(lo hi:Option Int)(n:Nat):Builtin.Str.strSliceIndices lo hi 1 n=(List.range (HT.bg n n hi-HT.bg n 0 lo)).map (fun k=>HT.bg n 0 lo+k):=by
 have ea:∀(v:Int),max 0 (min (if v<0 then v+(n:Int) else v) (n:Int))=(((if v<0 then (v+(n:Int)).toNat else min v.toNat n):Nat):Int):=by
  intro v;split<;>lia
 have e:Builtin.Str.strSliceIndices lo hi 1 n=sliceRange (HT.bg n 0 lo) (HT.bg n n hi) 1:=by
  cases lo with
  |none=>cases hi with
   |none=>rfl
   |some j=>show sliceRange 0 (max 0 (min (if j<0 then j+(n:Int) else j) (n:Int))) 1=_;rw[ea];rfl
  |some i=>cases hi with
   |none=>show sliceRange (max 0 (min (if i<0 then i+(n:Int) else i) (n:Int))) n 1=_;rw[ea];rfl
   |some j=>show sliceRange (max 0 (min (if i<0 then i+(n:Int) else i) (n:Int))) (max 0 (min (if j<0 then j+(n:Int) else j) (n:Int))) 1=_;rw[ea,ea];rfl
 rw[e];generalize HT.bg n 0 lo=a;generalize HT.bg n n hi=b;unfold sliceRange;simp only[show ((1:Int) > 0)=True from by simp,M1,Int.one_mul]
 have c:(if (a:Int)<(b:Int) then ((b:Int)-a+1-1) / 1 else 0).toNat=b-a:=by split<;>lia
 rw[c];refine M4 fun k _=>?_;lia
theorem qT(z:Str)(lo hi:Option Int):Txt.slice z lo hi=⟨((z.cps.toList.drop (HT.bg z.cps.toList.length 0 lo)).take (HT.bg z.cps.toList.length z.cps.toList.length hi-HT.bg z.cps.toList.length 0 lo)).toArray⟩:=by
 have hl:z.cps.toList.length=z.length:=LH;rw[hl];have hp:(Builtin.Str.strSliceIndices lo hi 1 z.length).filterMap (z.cps[·]?)=(z.cps.toList.drop (HT.bg z.length 0 lo)).take (HT.bg z.length z.length hi-HT.bg z.length 0 lo):=by
  rw[om];have:=y8 z.cps.toList (HT.bg z.length z.length hi-HT.bg z.length 0 lo) (HT.bg z.length 0 lo)
  simpa using this
 unfold Txt.slice;split
 ·rename_i h;rw[om] at h;simp at h;have h2:=HT.r8 z.length z.length (Lf _) hi;have h3:=HT.r8 z.length 0 (LA _) lo;have a0:HT.bg z.length 0 lo=0:=by lia
  have b0:HT.bg z.length z.length hi=z.length:=by lia
  rw[a0,b0,Nb,N1,<- hl,Pb]
 ·rw[hp]
noncomputable def gM(z:Str)(lo hi:Option Int):Str:=⟨(bM z.cps.toList lo hi).toArray⟩
theorem vE(z:Str)(lo hi:Option Int):Txt.slice z lo hi=gM z lo hi:=qT z lo hi
noncomputable def GH:V->Option Int->Option Int->Hp->VK->Prop:=fun x lo hi H Q=>∃ z,x=.str z/\z.length<=sizeLine/\Q (.str (gM z lo hi)) H
theorem ET:vM X GH:=by
 intro pins s σ H x v vl vu lo hi sl Q I rx hs pl pu h;obtain⟨z,rfl,hz,q⟩:=h;rw[<- vE] at q;obtain⟨t,rfl⟩:=rx;refine⟨"str",_,PySem.F.slot_str_getitem.lookup,typeIs_str _ _ _,?_⟩
 cases pl<;>cases pu
 ·exact Nm (l:=none) (u:=none) (st:=none) hs rfl (Oo ⟨Lr (Txt.slice_le z _ _) hz,fun t' k=>⟨.str _,H,I.tok _,⟨_,rfl⟩,q⟩⟩)
 ·exact Nm (l:=none) (u:=some (_,_)) (st:=none) hs rfl (Oo ⟨Lr (Txt.slice_le z _ _) hz,fun t' k=>⟨.str _,H,I.tok _,⟨_,rfl⟩,q⟩⟩)
 ·exact Nm (l:=some (_,_)) (u:=none) (st:=none) hs rfl (Oo ⟨Lr (Txt.slice_le z _ _) hz,fun t' k=>⟨.str _,H,I.tok _,⟨_,rfl⟩,q⟩⟩)
 ·exact Nm (l:=some (_,_)) (u:=some (_,_)) (st:=none) hs rfl (Oo ⟨Lr (Txt.slice_le z _ _) hz,fun t' k=>⟨.str _,H,I.tok _,⟨_,rfl⟩,q⟩⟩)
noncomputable def Jq(K:Qa):V->Option Int->Option Int->Hp->VK->Prop:=fun x lo hi H Q=>G9 K x lo hi H Q\/GH x lo hi H Q
theorem Ka(K:Qa)(hK:X.K=K):vM X (Jq K):=(IT K hK).or ET
noncomputable def D3(a:Option T)(lo hi:Option Int):Option (Prop×R):=match a with
 |some (.lst xs)=>some (True,.fr (.lst (bM xs lo hi)))
 |some (.dU xs)=>some (True,.fr (.lst (bM xs lo hi)))
 |some (.tup xs)=>some (True,.tr (.tup (bM xs lo hi)))
 |some (.str z)=>some (z.length<=sizeLine,.tr (.str (gM z lo hi)))
 |_=>none
noncomputable def DC(ue:UE)(ul uh:UO):UE:=fun μ Q=>ue μ fun r μ1=>ul μ1 fun lo μ2=>uh μ2 fun hi μ3=>lP (D3 (cont μ3 r.d) lo hi) fun r=>Q r μ3
theorem Fh{p2 pos:Pos}{ul uh:UO}(K:Qa)(hK:X.K=K)(he:YE X e ue)(hl:YO X lo ul)(hu:YO X hi uh):YE X (.Subscript e (.Slice lo hi none p2) pos) (DC ue ul uh):=by
 obtain⟨t,q,r⟩:=he;obtain⟨tl,ql,rl⟩:=hl;obtain⟨th,qh,rh⟩:=hu;refine⟨_,Z.slice (Ka K hK) q ql qh,fun F ad B σ H μ Q Qt hF l q k=>r F ad B σ H μ _ _ hF l q fun v H1 r1 μ1 v1 f1 k1 q1=>rl F ad B σ H1 μ1 _ _ hF v1.rl q1 fun i H2 μ2 l2 f2 k2 q2=>rh F ad B σ H2 μ2 _ _ hF l2 q2 fun j H3 μ3 l3 f3 k3 q3=>?_⟩;have hF':F.K=K:=hF.trans hK;clear hF;subst hF';have hv:=v1.hv.fr (f2.trans f3) (k2.trans k3);have ff:=(f1.d.trans f2).trans f3;have kk:=(k1.trans k2).trans k3;generalize eo:cont μ3 r1.d=o at q3;unfold D3 lP at q3
 cases o with
 |none=>exact q3.elim
 |some o=>cases o with
  |lst xs =>
   have w:=hv.vw l3 eo
   cases w with
   |lst ha ra=>exact .inl (.inl ⟨_,_,rfl,bz.of ha,fun p hp=>k _ _ _ μ3 (Vr.gr l3 (ak.cut ra i j) hp) (ff.trans (Fr.more hp)) kk q3.2⟩)
  |dU xs =>
   have w:=hv.vw l3 eo
   cases w with
   |dU ha ra=>exact .inl (.inl ⟨_,_,rfl,ha,fun p hp=>k _ _ _ μ3 (Vr.gr l3 (ak.cut ra i j) hp) (ff.trans (Fr.more hp)) kk q3.2⟩)
  |tup xs =>
   have w:=Hv.zo l3 hv eo;have w':=w
   cases w with
   |tup na ha ra =>
    by_cases z:HT.bg xs.length 0 i=0/\HT.bg xs.length xs.length j=xs.length
    ·have e0:bM xs i j=xs:=by unfold bM;rw[z.1,z.2,N1,Nb,Pb]
     have q4:=q3.2;rw[e0] at q4;exact .inl (.inr (.inr ⟨_,_,rfl,aV.of ha,by rw[ra.length];exact z.1,by rw[ra.length];exact z.2,k _ H3 _ μ3 (Vr.flat l3 w') ff kk q4⟩))
    ·exact .inl (.inr (.inl ⟨_,_,rfl,aV.of ha,by rw[ra.length];exact z,fun p hp=>k _ _ _ μ3 (Vr.uj l3 (ak.cut ra i j) hp) (ff.trans (Fr.same (ba.new hp))) kk q3.2⟩))
  |str z =>
   have w:=hv.vw l3 eo;cases w;exact .inr ⟨z,rfl,q3.1,k _ H3 _ μ3 (Vr.flat l3 (.str _)) ff kk q3.2⟩
  |aw=>exact q3.elim
  |bl b=>exact q3.elim
  |int n=>exact q3.elim
  |dB a b=>exact q3.elim
  |n9 a b=>exact q3.elim
  |exc a b=>exact q3.elim
  |dk xs=>exact q3.elim
noncomputable def iS:UM:=fun j rs μ Q=>match rs with
 |[.tr (.int i)]=>(match (μ[j]?).bind Sl.box with
  |some (.lst ts)=>-(2^63)<=i/\i<2^63/\∃ k t,seqIndex? i ts.length=some k/\ts[k]?=some t/\Q (.tr t) (cB μ j (.lst (ts.eraseIdx k)))
  |_=>False)
 |_=>False
theorem xf:RM K zD iS:=by
 intro F ad B σ H μ Q Qt j s c xs rs hF l e b ps q k;unfold iS at q
 split at q
 ·rename_i i
  cases ps with
  |cons h ps =>
   cases ps;rw[e] at q
   cases aL h
   have q':(match s.box with|some (.lst ts)=>-(2^63)<=i/\i<2^63/\∃ k t,seqIndex? i ts.length=some k/\ts[k]?=some t/\Qt (.tr t) (cB μ j (.lst (ts.eraseIdx k)))|_=>False):=q
   rw[b] at q';rcases ((l.slot j s e).boxed b).2.2.1.is with ⟨ts,vs,rfl,hl,rv⟩|⟨_,_,_,rfl,_⟩
   case inr=>exact q'.elim
   simp only at q';obtain⟨h1,h2,n,t,hk,ht,q2⟩:=q';obtain⟨y,hy,ry⟩:=rv.get ht;have fs:Fr B H B (upd H (ad j) (.lst (vs.eraseIdx n))):=Fr.set ((l.slot j s e).boxed b).2.1;refine⟨_,_,i,n,y,rfl,rfl,hl,h1,h2,by rw[rv.length];exact hk,hy,?_⟩
   have l3:=l.put e b (rv.erase n);unfold cB at q2;rw[e] at q2;exact k _ _ (.tr t) _ (Vr.flat l3 (ry.fr fs)) fs (Kp.set e b (Sl.gI b)) q2
 ·exact q.elim
noncomputable def pK:Dd:=fun z rs μ Q=>match rs with
 |[r]=>(match cont μ r with
  |some (.lst xs)=>∃ ys:List Str,xs=ys.map T.str/\(ys.map (·.length)).sum+ys.length*z.length<=16777216/\Q (.tr (.str (Str.join z ys))) μ
  |_=>False)
 |_=>False
theorem oR(K:Qa)(hK:X.K=K):uS X "str.join" (rJoin K):=by subst hK;exact Bh
theorem tm:Im K (rJoin K) pK:=by
 intro F ad B σ H μ Q Qt z xs rs hF l ps q k;subst hF;unfold pK at q
 split at q
 ·rename_i r
  cases ps with
  |cons h ps =>
   cases ps
   split at q
   ·rename_i ts e;obtain⟨ys,rfl,hz,q⟩:=q;have w:=h.vw l e
    cases w with
    |lst ha ra=>exact⟨z,_,ys,rfl,rfl,by rw[<- gU ra];exact bz.of ha,hz,k _ H _ μ (Vr.flat l (.str _)) Fr.refl (Kp.refl μ) q⟩
   ·exact q.elim
 ·exact q.elim
noncomputable def FD(i:Nat):UG:=fun r μ Q=>match r with
 |.tr t=>vG μ i/\Q (μ.set i (.tr t))
 |.fr t=>vG μ i/\Q (μ.set i (.tr t))
 |.br _=>False
theorem gu:RG K (bC i) (FD i):=fun F ad B σ H μ v r B0 H0 Q Qt hK h f q k=>by
 cases r with
 |tr t=>exact k ad B _ H _ (h.1.DO (ng q.1) h.2) f q.2
 |br i=>exact q.elim
 |fr c =>
  refine k ad B _ H _ (h.rl.DO (ng q.1) h.hv) (f.trans (Fr.less fun b z=>?_)) q.2;obtain⟨_,a,rfl,_⟩:=h;exact Or.inr z
section
variable {X:Cx} {e elt tg iter:Expr} {ifs:List Expr} {ue:UE} {ut:UT} {ui:UI} {pos pos' p2:Pos} {x:Str} {osc scope:Scope} {ON own N:List Str}
theorem G2(hN:X.N.Nodup)(hi:X.N[i]?=some x)(hx:Loc X.env.scope x)(he:YE X e ue)(hs:autoParam (Z.C4 e=true) ℜ0)(hf:autoParam (X.fn x=true\/X.env.scope.names.lookup x=some .local) ℜ2):
  YS X (.Assign [.Name x pos'] e pos) (ko ue (FD i)):=by
 obtain⟨t,q,r⟩:=he;exact⟨_,Z.set hN hi hx q hs hf,hG r gu⟩
theorem qy(hN:X.N.Nodup)(hj:X.N[j]?=some x)(hx:Loc X.env.scope x)(S:bF osc ON scope own N)(hosc:X.env.scope=osc)(hON:X.N=ON)(hc:X.calm=true)(ho:own.length=1)(hi:YI X tg iter ui)
  (hg:∀ C s H fp,QG (av X scope N C s H fp) tg (bC 0)) (ht:∀ C s H fp,Al (av X scope N C s H fp) ifs ut) (he:∀ C s H fp,YE (av X scope N C s H fp) elt ue)
  (hsw:autoParam (swapsWith (.ListComp elt [⟨tg,iter,ifs,0⟩] scope p2) (some (.Name x pos')) pos.line X.env=pure true) ℜ0)
  (hf:autoParam (X.fn x=true\/X.env.scope.names.lookup x=some .local) ℜ2) (hs:autoParam (∀ x,foldedSetIterable iter X.env x=pure x) ℜ3) :
  YS X (.Assign [.Name x pos'] (.ListComp elt [⟨tg,iter,ifs,0⟩] scope p2) pos) (ko (gD y6 FW ui ut ue) (FD j)):=by
 obtain⟨t,q,r⟩:=hi;have h:=Z.setC (tc:=pU X.K ut) (te:=qE X.K ue) hN hj hx S hosc hON hc q hg (fun C s H fp=>(ht C s H fp).vP) (fun C s H fp=>(he C s H fp).vP) hsw hf hs;rw[ho] at h;exact⟨_,h,hG (fY mj r oi oV) gu⟩
theorem DX(K:Qa)(hK:X.K=K)(hN:X.N.Nodup)(hj:X.N[j]?=some x)(hx:Loc X.env.scope x)(S:bF osc ON scope own N)(hosc:X.env.scope=osc)(hON:X.N=ON)(hc:X.calm=true)(ho:own.length=2)(hi:YI X tg iter ui)
  (hg:∀ C s H fp,QG (av X scope N C s H fp) tg (oK K 2 (eR (bC 0) (eR (bC 1) oY)))) (ht:∀ C s H fp,Al (av X scope N C s H fp) ifs ut) (he:∀ C s H fp,YE (av X scope N C s H fp) elt ue)
  (hsw:autoParam (swapsWith (.ListComp elt [⟨tg,iter,ifs,0⟩] scope p2) (some (.Name x pos')) pos.line X.env=pure true) ℜ0)
  (hf:autoParam (X.fn x=true\/X.env.scope.names.lookup x=some .local) ℜ2) (hs:autoParam (∀ x,foldedSetIterable iter X.env x=pure x) ℜ3) :
  YS X (.Assign [.Name x pos'] (.ListComp elt [⟨tg,iter,ifs,0⟩] scope p2) pos) (ko (gD ur Ib ui ut ue) (FD j)):=by
 obtain⟨t,q,r⟩:=hi;subst hK;have h:=Z.setC (tc:=pU X.K ut) (te:=qE X.K ue) hN hj hx S hosc hON hc q hg (fun C s H fp=>(ht C s H fp).vP) (fun C s H fp=>(he C s H fp).vP) hsw hf hs;rw[ho] at h;exact⟨_,h,hG (fY tJ r oi oV) gu⟩
end
end Y
namespace A
theorem IK(um:Y.Dd)(uo:UE)(us:UA)(μ:Mu)(Q:R->Mu->Prop):Y.IK um uo us μ Q=uo μ fun ro μ1=>match ro with|.tr (.str z)=>us μ1 fun rs μ2=>um z rs μ2 Q|_=>False:=rfl
theorem pK(z:Str)(r:R)(μ:Mu)(Q:R->Mu->Prop):Y.pK z [r] μ Q=(match cont μ r with
  |some (.lst xs)=>∃ ys:List Str,xs=ys.map T.str/\(ys.map (·.length)).sum+ys.length*z.length<=16777216/\Q (.tr (.str (Str.join z ys))) μ
  |_=>False):=rfl
theorem iS(j:Nat)(i:Int)(μ:Mu)(Q:R->Mu->Prop):Y.iS j [.tr (.int i)] μ Q=(match (μ[j]?).bind Sl.box with
  |some (.lst ts)=>-(2^63)<=i/\i<2^63/\∃ k t,seqIndex? i ts.length=some k/\ts[k]?=some t/\Q (.tr t) (cB μ j (.lst (ts.eraseIdx k)))
  |_=>False):=rfl
theorem Jm(i:Nat)(t:T)(μ:Mu)(Q:Mu->Prop):Y.FD i (.fr t) μ Q=(Y.vG μ i/\Q (μ.set i (.tr t))):=rfl
end A
namespace Y
theorem xx(l:Addr)(items:Array Value)(ob:Obj)(n:Nat)(k:Int)(t:Tok)(hc:ob.cls=.type "tuple")(hd:ob.data=.seq items n)(h1:k=1):
  Meets (Builtin.«tuple.__mul__» ⟨[.ref l,.int k t],[]⟩) (fun _ R s=>s.heap.get? l=some ob/\R (.ok (.ret (.ref l))) s):=
 .of_wp fun prog w A R s h=>by
  obtain⟨hp,g,d,tk,os⟩:=s;obtain⟨hl,h⟩:=h;obtain⟨c,dd,da,sl⟩:=ob;simp only at hc hd;subst hc hd;have e1:(decide (k < -(2^63)) || decide (k >= 2^63))=false:=by rw[L0 (by lia),L0 (by lia)];rfl
  have e2:(items.isEmpty || k == 1)=true:=by rw[beq_iff_eq.mpr h1,Bool.or_true]
  wp_walk using NN hl;exact⟨_,rfl,h⟩
theorem zG(l:Addr)(items:Array Value)(ob:Obj)(n:Nat)(k:Int)(t:Tok)(hc:ob.cls=.type "tuple")(hd:ob.data=.seq items n)(hne:items.isEmpty=false)(h1:k<=0)(h2:-(2^63)<=k):
  Meets (Builtin.«tuple.__mul__» ⟨[.ref l,.int k t],[]⟩) (fun _ R s=>s.heap.get? l=some ob/\R (.ok (.ret (.ref s.heap.objs.size))) {s with heap:=s.heap.push {cls:=.type "tuple",data:=.seq #[]}}):=
 .of_wp fun prog w A R s h=>by
  obtain⟨hp,g,d,tk,os⟩:=s;obtain⟨hl,h⟩:=h;obtain⟨c,dd,da,sl⟩:=ob;simp only at hc hd;subst hc hd;have e1:(decide (k < -(2^63)) || decide (k >= 2^63))=false:=by rw[L0 (by lia),L0 (by lia)];rfl
  have e2:(items.isEmpty || k == 1)=false:=by rw[hne,MK.mpr (by lia)];rfl
  have e3:(decide (k<=0) || items.isEmpty)=true:=by rw[Mi h1];rfl
  wp_walk using NN hl;rw[K_ (by rw[e1];exact Lm)]
  have ht:IsTup (Shared.heap ⟨hp,g,d,tk,os⟩) l items:=⟨_,hl,rfl,n,rfl⟩;show wpAny _ _ (Builtin.Tuple.tupleItemsOf (.ref l) >>= _) _ _ _;refine KR (tupleItemsOf_ ht ?_);rw[K_ (by rw[e2];exact Lm)]
  show wpAny _ _ (if (decide (k<=0) || items.isEmpty)=true then _ else _) _ _ _
  rw[Lg e3];exact KR (m:=Builtin.Tuple.tupleExact _) (Mh (Lk ⟨_,rfl,h⟩) (show (#[]:Array Value).size<=sizeLine by decide))
noncomputable def BX(K:Qa):R2:=fun x y H Q=>∃ a k xs,x=.ref a/\y=.int k/\aV K H a xs/\xs≠[]/\k<=1/\-(2^63)<=k/\(k=1->Q (.ref a) H)/\(k<=0->∀ p,H p=none->Q (.ref p) (upd H p (.tup [])))
theorem Bn:d7 X (binaryOp .Mult) (BX X.K):=by
 intro pins s σ H x y v u Q I rx ry h;obtain⟨a,k,xs,rfl,rfl,hx,hne,h1,h2,q1,q0⟩:=h;cases rx;obtain⟨t,rfl⟩:=ry;obtain⟨its,r,p,hz⟩:=I.tuple hx;obtain⟨ob,ho,hc,n,hd⟩:=id p;have hlen:=r.length;have hemp:its.toArray.isEmpty=false:=by
  cases its with
  |nil=>cases r;exact absurd rfl hne
  |cons a b=>rfl
 by_cases c:k=1
 ·exact MZ (T:="tuple") (U:="int") (by decide) ⟨_,ho,hc⟩ (fun s'=>Nn s' k t) du PySem.F.fills_int_mul PySem.F.slot_int_rmul fS PySem.F.slot_int_index.lookup
   (Mr PySem.F.slot_int_rmul (Nn s k t) PySem.F.entry_int_rmul (PySem.F.args_int_rmul_2 _ _) (jb k t a ob its.toArray n hc hd)
    ⟨ho,rfl,⟨_,ho,hc⟩,Mr PySem.F.slot_tuple_mul ⟨_,ho,hc⟩ PySem.F.entry_tuple_mul (PySem.F.args_tuple_mul_2 _ _) (xx a its.toArray ob n k t hc hd c) ⟨ho,⟨.ref a,H,I,rfl,q1 c⟩⟩⟩)
 ·refine MZ (T:="tuple") (U:="int") (by decide) ⟨_,ho,hc⟩ (fun s'=>Nn s' k t) du PySem.F.fills_int_mul PySem.F.slot_int_rmul fS PySem.F.slot_int_index.lookup
   (Mr PySem.F.slot_int_rmul (Nn s k t) PySem.F.entry_int_rmul (PySem.F.args_int_rmul_2 _ _) (jb k t a ob its.toArray n hc hd)
    ⟨ho,rfl,⟨_,ho,hc⟩,Mr PySem.F.slot_tuple_mul ⟨_,ho,hc⟩ PySem.F.entry_tuple_mul (PySem.F.args_tuple_mul_2 _ _) (zG a its.toArray ob n k t hc hd hemp (by lia) h2) ⟨ho,?_⟩⟩)
  refine⟨.ref s.heap.objs.size,_,I.laid (t':=s.toks) (o:=.tup []) (fun b ob q=>KU _ q) (Lf _) ?_,rfl,q0 (by lia) _ (I.aD.fresh (Lf _))⟩
  exact⟨LA _,[],.nil,cY.new _ _⟩
noncomputable def C6(K:Qa):R2:=fun x y H Q=>wN K x y H Q\/BX K x y H Q
theorem f9(K:Qa)(hK:X.K=K):d7 X (binaryOp .Mult) (C6 K):=by subst hK;exact (dh X.K rfl).or Bn
noncomputable def yk:U2:=fun r1 r2 μ Q=>match cont μ r1,cont μ r2 with
 |some (.int i),some (.int j)=>nL i j/\Q (.tr (.int (i*j))) μ
 |some (.lst xs),some (.int k)=>-(2^63)<=k/\k<2^63/\xs.length*k.toNat<=sizeLine/\Q (.fr (.lst (List.replicate k.toNat xs).flatten)) μ
 |some (.tup xs),some (.int k)=>(xs≠[]/\xs.length<=1000/\-(2^63)<=k/\k<=1000)/\Q (.tr (.tup (List.replicate k.toNat xs).flatten)) μ
 |_,_=>False
theorem f7:ke K (C6 K) yk:=by
 intro F ad B σ H μ Q Qt x y r1 r2 hK l h1 h2 q k;unfold yk at q
 split at q
 ·rename_i i j e1 e2;exact .inl (cf F ad B σ H μ Q Qt x y r1 r2 hK l h1 h2 (by unfold lA;rw[e1,e2];exact q) k)
 ·rename_i xs j e1 e2;exact .inl (cf F ad B σ H μ Q Qt x y r1 r2 hK l h1 h2 (by unfold lA;rw[e1,e2];exact q) k)
 ·rename_i xs j e1 e2;by_cases c:1<j
  ·exact .inl (cf F ad B σ H μ Q Qt x y r1 r2 hK l h1 h2 (by unfold lA;rw[e1,e2];exact⟨⟨q.1.1,q.1.2.1,c,q.1.2.2.2⟩,q.2⟩) k)
  ·have a:=Hv.zo l h1 e1;have b:=h2.vw l e2;subst hK;cases b;have a':=a
   cases a with
   |tup na ha ra =>
    refine .inr ⟨_,_,_,rfl,rfl,aV.of ha,?_,by lia,q.1.2.2.1,fun e=>?_,fun e p hp=>?_⟩
    ·rintro rfl;cases ra;exact q.1.1 rfl
    ·subst e;have q2:=q.2;rw[show (1:Int).toNat=1 from rfl] at q2;simp only[List.replicate,LX,List.flatten_nil,L3] at q2;exact k _ H _ μ (Vr.flat l a') Fr.refl (Kp.refl μ) q2
    ·have q2:=q.2;rw[show j.toNat=0 by lia] at q2
     exact k _ _ _ μ (Vr.uj l .nil hp) (Fr.same (ba.new hp)) (Kp.refl μ) q2
 ·exact q.elim
end Y
namespace A
theorem CY(xs:List T)(k:Int)(μ:Mu)(Q:R->Mu->Prop):Y.yk (.tr (.tup xs)) (.tr (.int k)) μ Q=((xs≠[]/\xs.length<=1000/\-(2^63)<=k/\k<=1000)/\Q (.tr (.tup (List.replicate k.toNat xs).flatten)) μ):=rfl
end A
noncomputable def Fl(h:Heap)(e:Addr)(cls:Value)(d:Option Addr):Option Addr->Prop
 |none=>∃ oe vs,h.get? e=some oe/\oe.cls=cls/\oe.dict=d/\oe.data=.fields vs/\vs[1]?=some Value.none
 |some T=>∃ oe vs oT ts,h.get? e=some oe/\oe.cls=cls/\oe.dict=d/\oe.data=.fields vs/\vs[1]?=some (.ref T)/\T≠e/\h.get? T=some oT/\oT.data=.fields ts/\ts[3]?=some Value.none
theorem Fl.is{e:Addr}{cls:Value}{d:Option Addr}(f:Fl h e cls d To):kl e cls d h:=by
 cases To with
 |none=>obtain⟨oe,vs,h1,h2,h3,h4,_⟩:=f;exact⟨oe,vs,h1,h2,h3,h4⟩
 |some T=>obtain⟨oe,vs,_,_,h1,h2,h3,h4,_⟩:=f;exact⟨oe,vs,h1,h2,h3,h4⟩
theorem kl.ok{e:Addr}{cls:Value}{d:Option Addr}(x:kl e cls d h):aU P w H h e (.ext (kl e cls d)):=
 ⟨x,let ⟨o,_,h1,_⟩:=x;⟨o,h1⟩,fun h1 h2 ⟨o,vs,a,b,c,d⟩ k=>⟨o,vs,k o a,b,c,d⟩⟩
theorem kl.one{e:Addr}{cls cls':Value}{d d':Option Addr}(x:kl e cls d h)(y:kl e cls' d' h):cls=cls'/\d=d':=by
 obtain⟨o,_,h1,h2,h3,_⟩:=x;obtain⟨o',_,g1,g2,g3,_⟩:=y;rw[h1] at g1;cases g1;exact⟨h2.symm.trans g2,h3.symm.trans g3⟩
structure Mv (h h':Heap) (e:Addr) (To:Option Addr) (fs:List Addr) (T':Addr):Prop where
 keep:∀ b o,b≠e->(∀ T,To=some T->b≠T)->b∉fs->h.get? b=some o->h'.get? b=some o
 slot:∀ b o,b∈fs->h.get? b=some o->∃ sl,h'.get? b=some {o with slots:=sl}
 new:(h.get? T'=none\/To=some T')/\T'∉fs
section
variable {h:Heap} {e:Addr} {cls:Value} {d:Option Addr} {base:Heap} {l:List Env}
theorem Fl.Cg{T:Addr}(f:Fl h e cls d (some T))(hl:h.FunFrames base l):T∉iD l:=fun m=>by
 obtain⟨_,o,ho,hd⟩:=hl.mem m;obtain⟨_,_,oT,ts,_,_,_,_,_,_,hT,hdT,_⟩:=f;rw[hT] at ho;cases ho;exact hd ts hdT
theorem xD{o:Obj}{vs:Array Value}(q:o.data=.fields vs)(g:Array Value->Array Value):o.mapFields g={o with data:=.fields (g vs)}:=by
 obtain⟨c,dd,dt,sl⟩:=o;cases q;rfl
end
section
variable {M:Model} {A:Around} {E:Value->Shared->Prop} {s:Shared} {env:Env} {outer:List Env} {L e:Addr} {cls:Value} {d:Option Addr} {base:Heap}
theorem mY{o:Obj}{vs:Array Value}{x:Value}{Q:Unit->Shared->Prop}(ho:s.heap.get? a=some o)(hd:o.data=.fields vs)(hi:i<vs.size)
  (hq:∀ h':Heap,(∀ b,b≠a->h'.get? b=s.heap.get? b)->h'.get? a=some {o with data:=.fields (vs.setIfInBounds i x)}->Q () {s with heap:=h'}):wpAny M A (setField (.ref a) i x) Q E s:=by
 have hm:=xD hd (·.setIfInBounds i x);refine NO ho hd hi (hq _ (fun b n=>NU _ _ (Ne.symm n)) ?_);have:=Ny (Obj.mapFields (·.setIfInBounds i x)) ho (Oa (Np hd _));rw[hm] at this;exact this
theorem kZ{T:Addr}{fl:Value}{oe oT:Obj}{vs ts:Array Value}{Q:Unit->Shared->Prop}(he:s.heap.get? e=some oe)(hd:oe.data=.fields vs)(h1:vs[1]?=some (.ref T))(hne:T≠e)(hT:s.heap.get? T=some oT)(hdT:oT.data=.fields ts)(h3:ts[3]?=some fl)
  (hq:∀ h':Heap,(∀ b,b≠T->h'.get? b=s.heap.get? b)->h'.get? T=some {oT with data:=.fields (ts.setIfInBounds 3 .none)}->Q () {s with heap:=h'}):wpAny M A (setFlight (.ref e) none) Q E s:=by
 unfold setFlight;refine KR (Md he hd h1 ?_);rw[Lg (by simp)]
 exact mY hT hdT (LN.mp h3).1 hq
theorem tN{oe:Obj}{vs:Array Value}{head:Value}{hn:Bool}{Q:Unit->Shared->Prop}(hfr:A.frames=some (env::outer))(hf:env.frame=some L)(hl:s.heap.FunFrames base (env::outer))(he:s.heap.get? e=some oe)(hd:oe.data=.fields vs)(hsz:1<vs.size)
  (hq:∀(h':Heap) (T':Addr) (oT:Obj) (ts:Array Value),(∀ b o,b≠e->b∉iD (env::outer)->s.heap.get? b=some o->h'.get? b=some o)->(∀ b o,b∈iD (env::outer)->s.heap.get? b=some o->∃ sl,h'.get? b=some {o with slots:=sl}) ->
   s.heap.get? T'=none->h'.get? e=some {oe with data:=.fields (vs.setIfInBounds 1 (.ref T'))}->h'.get? T'=some oT->oT.data=.fields ts->ts[3]?=some (rawInt L)->T'≠e->T'∉iD (env::outer)->Q () {s with heap:=h'}) :
  wpAny M A (frameOf env >>= fun a=>entryPlaceOf L hn >>= fun pl=>EntryCells.newEntry head a .none (rawInt L) .none pl >>= fun b=>setField (.ref e) 1 b) Q E s:=by
 have nfe:e∉iD (env::outer):=fun m=>by
  obtain⟨_,o,ho,hnf⟩:=hl.mem m;rw[he] at ho;cases ho;exact hnf vs hd
 refine KR (wpAny_frameOf_fun hfr hl hf fun h1 hs=>?_);obtain⟨hs1,hs2,hs3⟩:=hs;refine KR (wpAny_entryPlaceOf fun pl hpl=>?_);unfold EntryCells.newEntry newFields;refine KR (Mh ?_ (hpl.sizeOk5 _ _ _ _ _));have e1:h1.get? e=some oe:=(hs2 e nfe).trans he;have hsize:∀ b o,h1.get? b=some o->b≠h1.objs.size:=fun b o q=>L9 (Lq q);refine mY (KU _ e1) hd hsz fun h2 k1 k2=>?_;have nfT:h1.objs.size∉iD (env::outer):=fun m=>by
  obtain⟨_,o,ho,_⟩:=hl.mem m;obtain⟨sl,q⟩:=hs3 _ o ho;exact hsize _ _ q rfl
 refine hq h2 h1.objs.size _ _ (fun b o n1 n2 q=>?_) (fun b o m q=>?_) ?_ k2 ((k1 _ (Ne.symm (hsize _ _ e1))).trans (Lo h1 rfl)) rfl ?_ (Ne.symm (hsize _ _ e1)) nfT
 ·rw[k1 b n1];exact KU _ ((hs2 b n2).trans q)
 ·obtain⟨sl,q1⟩:=hs3 b o q;exact⟨sl,(k1 b fun z=>nfe (by rw[<- z];exact m)).trans (KU _ q1)⟩
 ·cases q:s.heap.get? h1.objs.size with
  |none=>rfl
  |some o =>
   obtain⟨sl,q1⟩:=hs3 _ o q;exact absurd rfl (hsize _ _ q1)
 ·rcases hpl with rfl|⟨_,_,_,_,_,_,_,rfl⟩<;>simp
theorem xj{Q:Unit->Shared->Prop}(hfr:A.frames=some (env::outer))(hf:env.frame=some L)(hl:s.heap.FunFrames base (env::outer))(f:Fl s.heap e cls d To)
  (hq:∀ h' T',Mv s.heap h' e To (iD (env::outer)) T'->Fl h' e cls d (some T')->Q () {s with heap:=h'}):wpAny M A (noteFrame (.ref e) env) (fun _ s2=>wpAny M A (setFlight (.ref e) none) Q E s2) E s:=by
 unfold noteFrame;simp only[hf]
 cases To with
 |none =>
  obtain⟨oe,vs,g1,g2,g3,g4,g5⟩:=id f;have hsz:=(LN.mp g5).1;refine KR (Md g1 g4 g5 ?_);rw[K_ (by decide)]
  refine tN hfr hf hl g1 g4 hsz fun h1 T' oT ts k1 k2 k3 k4 k5 k6 k7 k8 k9=>?_;refine kZ (s:={s with heap:=h1}) k4 rfl (by simp[hsz]) k8 k5 k6 k7 fun h2 j1 j2=>?_
  have nT:∀ b o,s.heap.get? b=some o->b≠T':=fun b o q z=>by rw[z,k3] at q;cases q
  refine hq h2 T' ⟨fun b o n1 _ n3 q=>?_,fun b o m q=>?_,.inl k3,k9⟩ ⟨_,_,_,_,(j1 e (Ne.symm k8)).trans k4,g2,g3,rfl,by simp[hsz],k8,j2,rfl,?_⟩
  ·exact (j1 b (nT b o q)).trans (k1 b o n1 n3 q)
  ·obtain⟨sl,q1⟩:=k2 b o m q;exact⟨sl,(j1 b (nT b o q)).trans q1⟩
  ·have:=(LN.mp k7).1;simp[this]
 |some T =>
  obtain⟨oe,vs,oT,ts,g1,g2,g3,g4,g5,g6,g7,g8,g9⟩:=id f;have hsz:=(LN.mp g5).1;have nfT:=f.Cg hl;refine KR (Md g1 g4 g5 ?_);rw[Lg (by simp)]
  refine KR (Md g7 g8 g9 ?_);rw[K_ (by simp[rawInt])]
  refine KR (mY g7 g8 (LN.mp g9).1 fun h0 i1 i2=>?_);have hl0:h0.FunFrames base (env::outer):=hl.of_keeps fun b o q hn=>⟨o,(i1 b fun z=>by rw[z,g7] at q;cases q;exact hn ts g8).trans q,rfl⟩
  refine tN (s:={s with heap:=h0}) hfr hf hl0 ((i1 e (Ne.symm g6)).trans g1) g4 hsz fun h1 T' oT' ts' k1 k2 k3 k4 k5 k6 k7 k8 k9=>?_
  refine kZ (s:={s with heap:=h1}) k4 rfl (by simp[hsz]) k8 k5 k6 k7 fun h2 j1 j2=>?_
  have nTT:T'≠T:=fun z=>by
   have k3':h0.get? T'=none:=k3;rw[z,i2] at k3';cases k3'
  have nT:∀ b o,s.heap.get? b=some o->b≠T':=fun b o q z=>by
   have k3':h0.get? T'=none:=k3;rw[<- z] at k3';by_cases z2:b=T
   ·exact nTT (z.symm.trans z2)
   ·rw[i1 b z2,q] at k3';cases k3'
  refine hq h2 T' ⟨fun b o n1 n2 n3 q=>?_,fun b o m q=>?_,.inl ?_,k9⟩ ⟨_,_,_,_,(j1 e (Ne.symm k8)).trans k4,g2,g3,rfl,by simp[hsz],k8,j2,rfl,?_⟩
  ·exact (j1 b (nT b o q)).trans (k1 b o n1 n3 ((i1 b (n2 T rfl)).trans q))
  ·have nbT:b≠T:=fun z=>nfT (by rw[<- z];exact m)
   obtain⟨sl,q1⟩:=k2 b o m ((i1 b nbT).trans q);exact⟨sl,(j1 b (nT b o q)).trans q1⟩
  ·exact (i1 T' nTT).symm.trans k3
  ·have:=(LN.mp k7).1;simp[this]
theorem uy{Q:Unit->Shared->Prop}(hfr:A.frames=some (env::outer))(hf:env.frame=some L)(hl:s.heap.FunFrames base (env::outer))(f:Fl s.heap e cls d To)
  (hq:∀ h' T',Mv s.heap h' e To (iD (env::outer)) T'->Fl h' e cls d (some T')->Q () {s with heap:=h'}):wpAny M A (leaving env (.ref e)) Q E s:=by
 unfold leaving;exact KR (xj hfr hf hl f hq)
end
theorem fB.yA(x:fB P w H h)(k:∀ b u,h.get? b=some u->h'.get? b=some u)(hn:H a=none)(new:aU P w (upd H a o) h' a o):fB P w (upd H a o) h':=fun b u e=>by
 by_cases z:b=a
 ·subst z;rw[ah] at e;cases e;exact new
 ·rw[af z] at e;exact (x b u e).jz (fun c v _ q=>k c v q) (fun c q=>by rw[af (ao q hn)];exact q) (fun c xs q=>by rw[af (ao q hn)];exact q) fun c _ _ q=>by rw[af (ao q hn)];exact q
theorem Un.yA{fs:List Addr}(k:∀ b u,h.get? b=some u->h'.get? b=some u)(h0:h.get? a=none)(hn:H a=none):Un fs ex H (upd H a o) h h' where
 keep:=fun b u q _ _ _=>k b u q
 slot:=fun b u q _ _ _=>⟨u.slots,k b u q⟩
 free:=fun b u q n _=>by rw[af (fun z=>by rw[z,h0] at q;cases q)];exact n
 there:=fun b u q _=>⟨u,k b u q⟩
 kF:=fun b xs q=>by rw[af (ao q hn)];exact q
 jq:=fun b u xs q=>by rw[af (ao q hn)];exact q
 i6:=fun b ps q=>⟨#[],by rw[af (ao q hn),q];simp⟩
theorem fB.none_of(x:fB P w H h)(e:h.get? a=none):H a=none:=by
 cases q:H a with
 |none=>rfl
 |some u =>
  have:=x a u q;obtain⟨o,ho⟩:∃ o,h.get? a=some o:=by
   clear q
   induction u with
   |lst xs=>obtain⟨_,_,_,_,z⟩:=this;exact⟨_,z⟩
   |tup xs=>obtain⟨_,_,_,o,z,_⟩:=this;exact⟨_,z⟩
   |dK kvs=>obtain⟨_,_,_,_,o,_,_,z,_⟩:=this;exact⟨_,z⟩
   |dT kvs=>obtain⟨_,_,_,_,o,_,_,z,_⟩:=this;exact⟨_,z⟩
   |set S n=>obtain⟨o,_,_,_,z,_⟩:=this;exact⟨_,z⟩
   |ins C dx fs=>obtain⟨_,_,_,z,_⟩:=this;exact⟨_,z⟩
   |own x=>exact this
   |xd fs=>obtain⟨_,⟨o,_,_,z,_⟩,_⟩:=this;exact⟨_,z⟩
   |met f x=>exact⟨_,this⟩
   |dB lo hi=>obtain⟨_,_,_,z⟩:=this;exact⟨_,z⟩
   |gK o u ih=>exact⟨_,this.1⟩
   |vJ ps=>obtain⟨_,z,_⟩:=this;exact⟨_,z⟩
   |ext φ=>exact this.2.1
  rw[e] at ho;cases ho
theorem fB.moved{e T':Addr}{cls:Value}{d:Option Addr}{fs:List Addr}(x:fB P w H h)(mv:Mv h h' e To fs T')(f':kl e cls d h')(he:H e=some (.ext (kl e cls d)))(hT:∀ T,To=some T->H T=none)(hf:∀ b∈fs,H b=none):fB P w H h':=fun b u q=>by
 by_cases z:b=e
 ·subst z;rw[he] at q;cases q;exact f'.ok
 ·refine (x b u q).jz (fun c v hc r=>?_) (fun _ q=>q) (fun _ _ q=>q) fun _ _ _ q=>q;have tr:∃ o,H c=some o:=by
   rcases hc with rfl|hc
   ·exact⟨u,q⟩
   ·exact⟨_,hc⟩
  obtain⟨o,tr⟩:=tr;refine mv.keep c v (fun z2=>?_) (fun T hT' z2=>?_) (fun m=>?_) r
  ·rcases hc with rfl|hc
   ·exact z z2
   ·rw[z2,he] at hc;cases hc
  ·rw[z2,hT T hT'] at tr;cases tr
  ·rw[hf c m] at tr;cases tr
section
variable {X:Cx} {pins:List (Addr×Obj)} {σ:St} {H H':Hp} {s:Shared} {h':Heap}
theorem Inv.Gf{ch:List Addr}(I:Inv X pins σ H s)
  (hch:∀ b∈ch,X.s₀.heap.get? b=none/\b≠X.env.locals/\(∀ x c,X.env.cells.lookup x=some c->c≠b)/\∀ p∈X.pn++pins,p.1≠b)
  (keep:∀ b o,b≠X.env.locals->b∉X.fs->b∉ch->s.heap.get? b=some o->H b=none->h'.get? b=some o)
  (slot:∀ b o,b≠X.env.locals->b∈X.fs->b∉ch->s.heap.get? b=some o->H b=none->∃ sl,h'.get? b=some {o with slots:=sl})
  (there:∀ b o,b∉ch->s.heap.get? b=some o->∃ o',h'.get? b=some o')
  (ns:∀ m,s.heap.Ns X.env.locals m->h'.Ns X.env.locals m) (aD:fB X.prog X.w H h') :
  Inv X pins σ H {s with heap:=h'}:=by
 have neL:∀ b o,X.s₀.heap.get? b=some o->b≠X.env.locals:=fun b o e=>L9 (L4 (Lq e) I.ok.above);have neC:∀ b o,X.s₀.heap.get? b=some o->b∉ch:=fun b o e hb=>by rw[(hch b hb).1] at e;cases e
 have cellK:∀ x c,X.env.cells.lookup x=some c->∀ v,s.heap.IsCell c v->h'.IsCell c v:=fun x c e v ⟨o,ho,hd⟩=>by
  have nch:c∉ch:=fun z=>(hch c z).2.2.1 x c e rfl;by_cases hc:c∈X.fs
  ·obtain⟨sl,q⟩:=slot c o (I.Bd x c e) hc nch ho (I.dw x c e);exact⟨_,q,hd⟩
  ·exact⟨o,keep c o (I.Bd x c e) hc nch ho (I.dw x c e),hd⟩
 refine⟨I.ok,I.os,I.bare,⟨fun b o e n hb hx=>?_,fun b o e n hb hx=>?_,I.base.free,fun b o e hx=>?_,I.base.kF,I.base.jq,I.base.i6⟩,?_,fun x c e=>?_,I.free,I.dw,fun p hp=>?_,aD,I.len⟩
 ·exact keep b o (neL b o e) hb (neC b o e) (I.base.keep b o e n hb hx) (I.base.free b o e n hx)
 ·obtain⟨sl,e1⟩:=I.base.slot b o e n hb hx;obtain⟨sl',e2⟩:=slot b _ (neL b o e) hb (neC b o e) e1 (I.base.free b o e n hx);exact⟨sl',e2⟩
 ·obtain⟨o',e1⟩:=I.base.there b o e hx;exact there b o' (neC b o e) e1
 ·obtain⟨m,hn,hl⟩:=I.loc;refine⟨m,ns m hn,fun i x v e1 e2 e3=>?_⟩;obtain⟨u,r,l⟩:=hl i x v e1 e2 e3;refine⟨u,r,?_⟩;rcases l with l|⟨k,c,e,z⟩
  ·exact .inl l
  ·exact .inr ⟨k,c,e,cellK x c e _ z⟩
 ·obtain⟨v,z⟩:=I.cell x c e;exact⟨v,cellK x c e v z⟩
 ·obtain⟨e,n,ne,nf,d⟩:=I.pin p hp;have nch:p.1∉ch:=fun z=>(hch p.1 z).2.2.2 p hp rfl;exact⟨keep p.1 p.2 ne nf nch e n,n,ne,nf,d⟩
structure Nw (X:Cx) (pins:List (Addr×Obj)) (H:Hp) (e:Addr) (cls:Value) (d To:Option Addr):Prop where
 tr:H e=some (.ext (kl e cls d))
 e0:X.s₀.heap.get? e=none
 d0:∀ a,d=some a->X.s₀.heap.get? a=none
 t0:∀ T,To=some T->H T=none/\X.s₀.heap.get? T=none/\∀ p∈X.pn++pins,p.1≠T
theorem Inv.moved{e T':Addr}{cls:Value}{d:Option Addr}(I:Inv X pins σ H s)(hex:X.ex=[])(f:Fl s.heap e cls d To)(nw:Nw X pins H e cls d To)(mv:Mv s.heap h' e To (iD X.stack) T')(f':Fl h' e cls d (some T')):
  Inv X pins σ H {s with heap:=h'}/\Nw X pins H e cls d (some T'):=by
 have hfr:=I.iF;have teT:∀ T o,To=some T->s.heap.get? T=some o->T∉iD X.stack:=fun T o hT _=>by subst hT;exact f.Cg I.stack
 have hne:∀ b o,s.heap.get? b=some o->H b=none->b≠e:=fun b o _ n z=>by rw[z,nw.tr] at n;cases n
 refine⟨I.Gf (ch:=To.toList) (fun b hb=>?_) (fun b o hL hb hc q n=>?_) (fun b o _ hb hc q n=>?_) (fun b o hc q=>?_) (fun m hm=>?_) (I.aD.moved mv f'.is nw.tr (fun T hT=>(nw.t0 T hT).1) hfr),nw.tr,nw.e0,nw.d0,fun T hT=>?_⟩
 ·cases To with
  |none=>cases hb
  |some T =>
   have:b=T:=by simpa using hb
   subst this;obtain⟨h1,h2,h3⟩:=nw.t0 b rfl;obtain⟨_,_,oT,ts,_,_,_,_,_,_,hT,hdT,_⟩:=f;refine⟨h2,fun z=>?_,fun x c hc z=>?_,h3⟩
   ·obtain⟨m,⟨o,es,ep,ho,hd,_⟩,_⟩:=I.loc;rw[<- z,hT] at ho;cases ho;rw[hdT] at hd;cases hd
   ·obtain⟨v,o,ho,hd⟩:=I.cell x c hc;rw[z,hT] at ho;cases ho;rw[hdT] at hd;cases hd
 ·refine mv.keep b o (hne b o q n) (fun T hT z=>hc (by rw[hT,z];simp)) (fun m=>?_) q
  exact (Ll.mp (I.jc b m)).elim hL hb
 ·by_cases m:b∈iD X.stack
  ·exact mv.slot b o m q
  ·exact⟨o.slots,mv.keep b o (hne b o q n) (fun T hT z=>hc (by rw[hT,z];simp)) m q⟩
 ·by_cases z:b=e
  ·obtain⟨o',_,q',_⟩:=f'.is;exact⟨o',by rw[z];exact q'⟩
  ·by_cases m:b∈iD X.stack
   ·obtain⟨sl,q2⟩:=mv.slot b o m q;exact⟨_,q2⟩
   ·exact⟨o,mv.keep b o z (fun T hT z=>hc (by rw[hT,z];simp)) m q⟩
 ·obtain⟨o,es,ep,ho,r⟩:=hm;have n:=I.free;by_cases mm:X.env.locals∈iD X.stack
  ·obtain⟨sl,q2⟩:=mv.slot _ o mm ho;exact⟨_,es,ep,q2,r⟩
  ·refine⟨o,es,ep,mv.keep _ o (hne _ o ho n) (fun T hT z=>?_) mm ho,r⟩;subst hT;obtain⟨_,_,oT,ts,_,_,_,_,_,_,hT,hdT,_⟩:=f;rw[z,hT] at ho;cases ho;obtain⟨hd,_⟩:=r;rw[hdT] at hd;cases hd
 ·cases hT;rcases mv.new.1 with q|q
  ·refine⟨I.aD.none_of q,?_,fun p hp z=>?_⟩
   ·cases q2:X.s₀.heap.get? T' with
    |none=>rfl
    |some o =>
     obtain⟨o',q3⟩:=I.base.there T' o q2 (by rw[hex];simp)
     rw[q] at q3;cases q3
   ·rw[<- z,(I.pin p hp).1] at q;cases q
  ·exact nw.t0 T' q
noncomputable def uY(X:Cx)(cls:Value)(d:Option Addr)(e:Addr)(σ:St)(H:Hp):Prop:=∀(pins:List (Addr×Obj)) (s:Shared) (To:Option Addr),Inv X pins σ H s->Fl s.heap e cls d To->Nw X pins H e cls d To->X.xe (.ref e) s
noncomputable def nF(P:Program)(w:World):kX:=fun outer H s E x s'=>∃(e T:Addr) (cls:Value) (d:Option Addr) (H':Hp),x=.ref e/\s'.os=s.os/\AllBare s'.gens/\Un (iD outer) [] H H' s.heap s'.heap/\fB P w H' s'.heap/\Fl s'.heap e cls d (some T)/\s.heap.get? e=none/\(∀ a,d=some a->s.heap.get? a=none)/\s.heap.get? T=none/\H' e=some (.ext (kl e cls d))/\H' T=none/\E cls (some e) H'
end
theorem xa{base:Heap}{cd:Value}{A:Around}{outer:List Env}{s0:Shared}{H0:Hp}{E:XK}{cls:Value}{d:Option Addr}{e:Addr}(hE:E cls (some e) H):
  uY (gy (nF P w) P w K mg base N qual scope f cd A outer s0 H0 E) cls d e σ H:=by
 intro pins s To I fl nw;refine uy (base:=base) I.ok.frames rfl I.stack fl fun h' T' mv f'=>?_;obtain⟨I2,nw2⟩:=I.moved rfl fl nw mv f';exact⟨e,T',cls,d,H,rfl,I.os,I.bare,I2.base,I2.aD,f',nw.e0,nw.d0,(nw2.t0 T' rfl).2.1,nw.tr,(nw2.t0 T' rfl).1,hE⟩
section
variable {X:Cx}
noncomputable def Hf(X:Cx)(σ:St)(H:Hp):XK:=fun cls de H'=>∃(e:Addr) (d:Option Addr),de=some e/\H' e=some (.ext (kl e cls d))/\(H e=none->(∀ a,d=some a->H a=none)->uY X cls d e σ H')
noncomputable def Ds(X:Cx)(sp:Sp)(t:TA):TE:=fun σ H Q=>t σ H fun vs H1=>sp vs H1 Q (Hf X σ H1)
theorem EU{ps:List Str}{p pos:Pos}{t:TA}(F:ae X.prog X.w X.K X.mg X.base (nF X.prog X.w) k x ps sp)(hr:aQ k X.A)(hg:Gl X x)(hex:X.ex=[])(ha:PA X (e::es) t)(h1:autoParam (bR e=true) ℜ0)(h2:autoParam (es.all bR=true) ℜ0)(hdb:autoParam ((x ==("__debug__":Str))=false) ℜ1):
  PE X (.Call (.Name x p) (e::es) [] pos) (Ds X sp t):=by
 intro pins s σ H Q I h;obtain⟨f,fd,hm,hk,hb,G⟩:=F.ex;refine MS (gz I hg hm ?_ hdb);refine PySem.W.callWith_K (h₀:=X.base) I.ok.mod.BM hk (bE (ha pos pins s σ H _ I h) fun us s1 ⟨vs,H1,I1,r,q⟩=>⟨I1.gC,?_⟩) (bZ h1) (plain_any h2);have hl:us.length=ps.length:=by rw[<- r.length];exact G.len _ _ _ _ q
 have hb2:=hb s1 us I1.gC (by rw[L3];exact hl)
 rw[L3] at hb2;refine wpAny_call (OU (G.run X.A X.stack s1 H1 ⟨us,[]⟩ us vs Q (Hf X σ H1) hr I1.Hy hb2 r q) fun r s' hq=>?_)
 cases r with
 |error e =>
  obtain⟨ea,T,cls,d,H',rfl,ho,hbare,un,aD,fl,n1,n3,n2,tr,nT,ea',d',hea,tr',hd⟩:=hq;cases hea;obtain⟨_,rfl⟩:=fl.is.one (show kl ea cls d' s'.heap from (aD _ _ tr').1);have I2:=I1.Cb (ch:=[]) ho un aD hbare (fun b z=>absurd z (by simp))
  have n0:∀ b,s1.heap.get? b=none->X.s₀.heap.get? b=none:=fun b z=>by
   cases q2:X.s₀.heap.get? b with
   |none=>rfl
   |some o =>
    obtain⟨o',q3⟩:=I1.base.there b o q2 (by rw[hex];simp)
    rw[z] at q3;cases q3
  exact hd (I1.aD.none_of n1) (fun a z=>I1.aD.none_of (n3 a z)) pins s' (some T) I2 fl ⟨tr,n0 _ n1,fun a z=>n0 _ (n3 a z),fun T' hT=>by
   cases hT;exact⟨nT,n0 _ n2,fun p hp z=>by rw[<- z,(I1.pin p hp).1] at n2;cases n2⟩⟩
 |ok fl =>
  cases fl with
  |ret u=>exact I1.after hq
  |next=>exact False.elim hq
  |brk=>exact False.elim hq
  |cont=>exact False.elim hq
structure pM (K:Qa) (C:Addr):Prop where
 q:PySem.W.excIn K C [.type "ValueError",.type "Exception",.type "BaseException",.type "object"] "ValueError.__new__"=true
theorem pM.obj{C:Addr}(c:pM K C):∃ bm N nm qn bs hd sn sub ab col dd k0 k1 k2 k3 k5,K.lookup C=some (excClassObj nm qn C N bs bm hd sn sub ab col dd k0 k1 k2 k3 k5 "ValueError.__new__") /\
  (∀ h:Heap,K.In h->OwnTail h [.type "ValueError",.type "Exception",.type "BaseException",.type "object"] bm)/\(∃ oN,K.lookup N=some oN)/\∀ h:Heap,K.In h->∃ mN,h.Ns N mN/\mN "__init__"=none:=by
 have q:=c.q;unfold PySem.W.excIn at q
 split at q
 ·rename_i dd cd sl ho
  split at q
  ·rename_i C2 bm k0 k1 k2 k3 nw k5 hm hs;simp only[beq_iff_eq,Bool.not_eq_true',Bool.and_eq_true] at q;obtain⟨⟨⟨⟨⟨z1,z2⟩,z3⟩,z4⟩,z5⟩,z6⟩:=q;subst z1;subst z2;obtain⟨nm,bs,mr,ns,qn,hd,sn,sub,ab,col,dl⟩:=cd;dsimp only at hm z3 z5 z6 ho;subst hm;subst z3;obtain⟨l⟩:=sl;have hs':l=[k0,k1,k2,k3,some (.builtin "ValueError.__new__"),k5]:=hs;subst hs';refine⟨bm,ns,nm,qn,bs,hd,sn,sub,ab,col,dd,k0,k1,k2,k3,k5,ho,fun h BM=>PySem.W.tail_of_in BM z4,?_,fun h BM=>⟨_,.of_isNs (PySem.W.isNs_of_in BM z5),PySem.W.nsMap_none_of_in BM z5 z6⟩⟩;unfold PySem.W.nsOkIn at z5
   split at z5
   ·rename_i hN;exact⟨_,hN⟩
   ·cases z5
  ·cases q
 ·cases q
noncomputable def E9(X:Cx)(C:Addr)(t:TA):TS:=fun D σ H=>t σ H fun vs H1=>vs.length<=sizeLine/\∀ e,H1 e=none->uY X (.ref C) none e σ (upd H1 e (.ext (kl e (.ref C) none)))
theorem xg{C:Addr}{np pos:Pos}{t:TA}(hg:Gl X x)(hm:X.mg x=some (.ref C))(hk:pM X.K C)(hc:X.calm=true)(hex:X.ex=[])(ha:PA X (e::es) t)(h1:autoParam (bR e=true) ℜ0)(h2:autoParam (es.all bR=true) ℜ0)(hdb:autoParam ((x ==("__debug__":Str))=false) ℜ1):
  PS X (.Raise (some (.Call (.Name x np) (e::es) [] cpos)) none pos) (E9 X C t):=by
 intro pins s σ H D I h;obtain⟨bm,N,nm,qn,bs,hd,sn,sub,ab,col,dd,k0,k1,k2,k3,k5,lk,tl,⟨oN,lN⟩,hns⟩:=hk.obj;obtain⟨mN,hN,hni⟩:=hns s.heap I.gC;have FB:=PySem.F.excBase_ValueError;have hstar:starEach (e::es) X.env=(false,eval e X.env)::starEach es X.env:=bZ h1;refine wpAny_Raise_call_subU (C:=C) (nm:=nm) (q:=qn) (N:=N) (bs:=bs) (bm:=bm) (hdct:=hd) (sn:=sn) (sub:=sub) (ab:=ab) (col:=col) (dd:=dd) (k0:=k0) (k1:=k1) (k2:=k2) (k3:=k3) (k5:=k5) FB FB.hasB FB (mN:=mN) ((tl s.heap I.gC).hasType FB.hasBase) (I.ok.hd hc) ?_ hni (gz I hg hm ⟨rfl,?_⟩ hdb)
 ·rw[hstar];show (false || (backTo cpos (starEach es X.env)).any (·.1))=false;rw[plain_any h2];rfl
 ·have hp:=ha cpos pins s σ H _ I h;rw[hstar] at hp ⊢;refine Calls.evalArgs_plain (Mg hp (fun us s2 ⟨vs,H1,I1,r,hl,q⟩=>?_) fun _ _ y=>y);refine⟨rfl,by rw[<- r.length];exact hl,I1.gC _ _ lk,?_,tl _ I1.gC,fun h' ea hm2=>?_⟩
  ·obtain⟨o,es',ep,ho,rr⟩:=hN;have z1:=I.gC _ _ lN;rw[ho] at z1;cases z1;exact⟨_,es',ep,I1.gC _ _ lN,rr⟩
  ·have hne:=I1.aD.none_of hm2.new;obtain⟨tt,g1,g2,g3⟩:=hm2.there;have fl:Fl h' ea (.ref C) none none:=⟨_,_,g1,rfl,rfl,rfl,rfl⟩;have I2:Inv X pins σ (upd H1 ea (.ext (kl ea (.ref C) none))) {s2 with heap:=h'}:=I1.un (t':=s2.toks) (Un.yA hm2.keeps hm2.new hne) (I1.aD.yA hm2.keeps hne fl.is.ok)
   refine q ea hne pins _ none I2 fl ⟨ah,?_,(fun a z=>by cases z),fun T z=>by cases z⟩
   cases q2:X.s₀.heap.get? ea with
   |none=>rfl
   |some o =>
    obtain⟨o',q3⟩:=I1.base.there ea o q2 (by rw[hex];simp)
    rw[hm2.new] at q3;cases q3
end
noncomputable def XH(H:Hp)(e:Addr)(x:T)(cls:Value)(d:Option Addr):Prop:=H e=some (.ext (kl e cls d))/\match x with
 |.exc c none=>c=cls/\d=none
 |.exc c (some (n,i))=>c=cls/\∃ a,d=some a/\H a=some (.xd [(n,.int i)])
 |_=>False
abbrev Xw:=T->Mu->Prop
abbrev Fv:=Value->Option Addr->Addr->St->Hp->Prop
abbrev UX:=Mu->(R->Mu->Prop)->Xw->Prop
abbrev iJ:=Ed->Xw->Mu->Prop
noncomputable def uD(F:Fx)(B:aE)(H:Hp)(Dx:Fv)(Xt:Xw):Prop:=∀(ad:Nat->Addr) (B':aE) (σ':St) (H':Hp) (μ':Mu) (x:T) (cls:Value) (d:Option Addr) (e:Addr),Rl F ad B' σ' H' μ'->Fr B H B' H'->XH H' e x cls d->¬ B' e->(∀ a,d=some a->¬ B' a)->Xt x μ'->Dx cls d e σ' H'
theorem uD.step{Dx:Fv}{Xt:Xw}(h:uD F B H Dx Xt)(f:Fr B H B1 H1):uD F B1 H1 Dx Xt:=fun ad B' σ' H' μ' x cls d e l f' tr n1 n2 q=>h ad B' σ' H' μ' x cls d e l (f.trans f') tr n1 n2 q
noncomputable def RX(K:Qa)(Dx:Fv)(te:TE)(ux:UX):Prop:=∀(F:Fx) (ad:Nat->Addr) (B:aE) (σ:St) (H:Hp) (μ:Mu) (Q:VK) (Qt:R->Mu->Prop) (Xt:Xw),F.K=K->Rl F ad B σ H μ->ux μ Qt Xt ->
 (∀ v H' r μ',Vr F ad B σ H' μ' v r->Fr B H (Bv B v r) H'->Kp μ μ'->Qt r μ'->Q v H')->uD F B H Dx Xt->te σ H Q
noncomputable def IJ(K:Qa)(Dx:Fv)(ts:TS)(us:iJ):Prop:=∀(F:Fx) (D:Ends) (E:Ed) (Xt:Xw) (ad:Nat->Addr) (B:aE) (σ:St) (H:Hp) (μ:Mu),F.K=K->Rl F ad B σ H μ->us E Xt μ->qk F B H D E->uD F B H Dx Xt->ts D σ H
structure YX (X:Cx) (e:Expr) (u:UX):Prop where
 ex:∃ t,QE X e t/\RX X.K (uY X) t u
structure zN (X:Cx) (st:Stmt) (u:iJ):Prop where
 ex:∃ t,QS X st t/\IJ X.K (uY X) t u
structure zP (X:Cx) (sts:List Stmt) (u:iJ):Prop where
 ex:∃ t,QB X sts t/\IJ X.K (uY X) t u
namespace Y
section
variable {X:Cx} {a b c e o tg:Expr} {es rest:List Expr} {ua ub uc ue uo:UE} {uA uB:UT} {us:UA} {pos pos' p p2 p3:Pos} {x:Str} {st:Stmt} {sts xs ys:List Stmt} {u w:US} {ux:UX} {uxs wxs:iJ}
theorem m5(h:YS X st u):zN X st (fun E _ μ=>u E μ):=by
 obtain⟨t,q,r⟩:=h;exact⟨t,q,fun F D E Xt ad B σ H μ hF l q h _=>r F D E ad B σ H μ hF l q h⟩
noncomputable def Dg(u w:iJ):iJ:=fun E Xt μ=>u {E with nx:=w E Xt} Xt μ
theorem fc(h:zN X st uxs):zP X [st] uxs:=by obtain⟨t,q,r⟩:=h;exact⟨t,Z.ay q,r⟩
theorem y9:zP X [] (fun E _ μ=>E.nx μ):=⟨_,Z.cW,fun F D E Xt ad B σ H μ hK l q h _=>h.nx ad B σ H μ l Fr.refl q⟩
theorem bp(h:zN X st uxs)(h2:zP X sts wxs):zP X (st::sts) (Dg uxs wxs):=by
 obtain⟨t,q,r⟩:=h;obtain⟨t',q',r'⟩:=h2;exact⟨_,Z.ai q q',fun F D E Xt ad B σ H μ hK l q h hX=>r F {D with nx:=t' D} {E with nx:=wxs E Xt} Xt ad B σ H μ hK l q
  ⟨fun ad1 B1 σ1 H1 μ1 l1 f1 q1=>r' F D E Xt ad1 B1 σ1 H1 μ1 hK l1 q1 (h.step f1) (hX.step f1),h.rt,h.bk,h.ct⟩ hX⟩
noncomputable def u3(ux:UX)(g:UG):iJ:=fun E Xt μ=>ux μ (fun r μ'=>g r μ' E.nx) Xt
theorem tO{Dx:Fv}{tg:TG}{g:UG}(he:RX K Dx te ux)(hg:RG K tg g):IJ K Dx (j6 te tg) (u3 ux g):=fun F D E Xt ad B σ H μ hK l q h hX =>
 he F ad B σ H μ _ _ Xt hK l q (fun v H' r μ' v1 f k1 q1=>hg F ad B σ H' μ' v r B H _ _ hK v1 f q1 fun ad' B' σ' H2 μ2 l2 f2 q2=>h.nx ad' B' σ' H2 μ2 l2 f2 q2) hX
theorem JE(hN:X.N.Nodup)(hi:X.N[i]?=some x)(hx:Loc X.env.scope x)(he:YX X e ux)(hs:autoParam (Z.C4 e=true) ℜ0)(hf:autoParam (X.fn x=true\/X.env.scope.names.lookup x=some .local) ℜ2):
  zN X (.Assign [.Name x pos'] e pos) (u3 ux (gN i)):=by
 obtain⟨t,q,r⟩:=he;exact⟨_,Z.set hN hi hx q hs hf,tO r iH⟩
theorem CU(hN:X.N.Nodup)(hi:X.N[i]?=some x)(hx:Loc X.env.scope x)(he:YX X e ux)(hs:autoParam (Z.C4 e=true) ℜ0)(hf:autoParam (X.fn x=true\/X.env.scope.names.lookup x=some .local) ℜ2):
  zN X (.Assign [.Name x pos'] e pos) (u3 ux (FD i)):=by
 obtain⟨t,q,r⟩:=he;exact⟨_,Z.set hN hi hx q hs hf,tO r gu⟩
noncomputable def AM(ux:UX):iJ:=fun E Xt μ=>ux μ E.rt Xt
theorem Kd(he:YX X e ux):zN X (.Return (some e) pos) (AM ux):=by
 obtain⟨t,q,r⟩:=he;exact⟨_,Z.ret q,fun F D E Xt ad B σ H μ hK l q h hX=>r F ad B σ H μ _ _ Xt hK l q (fun v H' rr μ' v1 _ _ q1=>h.rt ad B σ H' μ' v rr v1 q1) hX⟩
noncomputable def IF(c:UT)(u w:iJ):iJ:=fun E Xt μ=>c μ fun b μ'=>if b=true then u E Xt μ' else w E Xt μ'
theorem Fj(hc:YT X c uA)(ha:zP X xs uxs)(hb:zP X ys wxs):zN X (.If c xs ys pos) (IF uA uxs wxs):=by
 obtain⟨t,q,r⟩:=hc;obtain⟨t1,q1,r1⟩:=ha;obtain⟨t2,q2,r2⟩:=hb;refine⟨_,Z.hW q q1 q2,fun F D E Xt ad B σ H μ hK l q h hX=>r F ad B σ H μ _ _ hK l q fun b H' μ' l' f k1 qq=>?_⟩
 cases b with
 |true=>exact r1 F D E Xt ad B σ H' μ' hK l' (by simpa using qq) (h.step f) (hX.step f)
 |false=>exact r2 F D E Xt ad B σ H' μ' hK l' (by simpa using qq) (h.step f) (hX.step f)
noncomputable def Iq(u:U2)(ux:UX)(ub:UE):UX:=fun μ Q Xt=>ux μ (fun r1 μ1=>ub μ1 fun r2 μ2=>u r1.d r2.d μ2 Q) Xt
theorem KA{r:R2}{u:U2}(hr:rD X r)(h:ke X.K r u)(ha:YX X a ux)(hb:YE X b ub)(hs:autoParam (Z.sim b=true) ℜ0):YX X (.Subscript a b pos) (Iq u ux ub):=by
 obtain⟨t,q,ra⟩:=ha;obtain⟨t',q',rb⟩:=hb;refine⟨_,Z.ix hr q q' hs,fun F ad B σ H μ Q Qt Xt hK l q k hX=>ra F ad B σ H μ _ _ Xt hK l q (fun v1 H1 r1 μ1 w1 f1 k1 q1=>?_) hX⟩;refine rb F ad B σ H1 μ1 _ _ hK w1.rl q1 fun v2 H2 r2 μ2 w2 f2 k2 q2=>?_;refine h F ad B σ H2 μ2 _ _ v1 v2 r1.d r2.d hK w2.rl (w1.hv.fr f2.d k2) w2.hv q2 fun v H3 r3 μ3 w3 f3 k3 q3=>?_;exact k v H3 r3 μ3 w3 ((f1.d.trans f2.d).trans f3) ((k1.trans k2).trans k3) q3
end
end Y
abbrev vA:=List T->(R->List T->Prop)->(T->Prop)->Prop
noncomputable def sW(K:Qa)(md:List Bool)(tsp:vA):Sp:=fun vs H Q E=>∃ Et:T->Prop,spT K md (fun args Qt=>tsp args Qt Et) vs H Q E/\∀ x cls d e H',Et x->(∀ b o,H b=some o->b∉kv md vs->H' b=some o)->XH H' e x cls d->E cls (some e) H'
theorem nW:∀{md:List Bool} {vs:List V},md.all (fun b=>!b)=true->kv md vs=[]
 |[],_,_=>rfl
 |true::_,_,h=>by simp at h
 |false::md,[],_=>rfl
 |false::md,v::vs,h=>nW (md:=md) (vs:=vs) (by simpa using h)
namespace Y
theorem Br{md:List Bool}{E:XK}{Q:VK}{Qt:R->Mu->Prop}{rs:List R}(hF:F.K=K)(l1:Rl F ad B σ H1 μ1)(ps:Paired (Hv F ad B H1 μ1) vs rs)(ea:yn μ1 md rs=some args)
  (nd:(gx md rs).Nodup) (dj:∀ j∈gx md rs,j∉ib md rs) (q1:tsp args fun r outs=>(ib md rs=[]\/(fZ r=true/\outs.all ip=true))/\Qt r (putAll (gx md rs) outs μ1))
  (k:∀ v H' r μ',Vr F ad B σ H' μ' v r->Fr B H1 (Bv B v r) H'->Kp μ1 μ'->Qt r μ'->Q v H'):spT K md tsp vs H1 Q E:=by
 have hro:=jf (md:=md) ps;obtain⟨ag,eb,hb⟩:=CH l1 (ib md rs) ps ea (fun j h=>h) dj hro;rw[hF] at ag;have inj:∀{js:List Nat},js.Nodup->(∀ j∈js,∃(s:Sl) (c:T),μ1[j]?=some s/\s.box=some c)->(js.map ad).Nodup:=fun {js}=>by
  induction js with
  |nil=>exact fun _ _=>N0
  |cons j js ih =>
   intro nd hb;rw[LP] at nd;rw[Lz,LP];refine⟨fun hm=>?_,ih nd.2 fun i hi=>hb i (Le _ hi)⟩;obtain⟨i,hi,z⟩:=LD.mp hm;obtain⟨s1,c1,e1,b1⟩:=hb j Lj;obtain⟨s2,c2,e2,b2⟩:=hb i (Le _ hi);exact nd.1 (l1.inj i j s2 s1 c2 c1 e2 e1 b2 b1 z ▸ hi)
 refine⟨_,args,_,ag,fun b z=>l1.fq b z.1,by rw[eb];exact inj nd hb,q1,fun v H2 r outs hq keep res=>?_⟩
 rw[eb] at keep res;obtain⟨hfl,hq⟩:=hq;have nro:∀{b:Addr},ib md rs=[]->B b->B b/\∀ j∈ib md rs,b≠ad j:=fun {b} z h=>⟨h,fun j hj=>by rw[z] at hj;cases hj⟩
 cases r with
 |br i=>exact res.elim
 |tr t =>
  obtain⟨rv,po⟩:=res;have rv':Rep F.K H2 B v t:=by
   rw[hF];rcases hfl with z|z
   ·exact rv.fr (Fr.less fun b h=>nro z h)
   ·exact rv.flat z.1
  have po':Paired (Bx F.K H2 B) ((gx md rs).map ad) outs:=by
   rw[hF];rcases hfl with z|z
   ·exact Paired.ph po fun a c h=>h.of rfl (Fr.less fun b h=>nro z h)
   ·exact Paired.ow po z.2
  obtain⟨l2,k2,f2⟩:=l1.call hb nd keep (fun _ z=>z) (fun _ _ _ z=>z) (fun b z n=>absurd z n) po';exact k v H2 (.tr t) _ ⟨l2,rv'⟩ f2 k2 hq
 |fr c =>
  obtain⟨a,rfl,ha0,nBa,x,po⟩:=res;have nBa':¬ B a:=l1.kj ha0;have sub:ib md rs=[]->∀ b,more B a b->more (fun b=>B b/\∀ j∈ib md rs,b≠ad j) a b:=fun z b h=>h.imp id fun h=>nro z h;have x':Bx F.K H2 (more B a) a c:=by
   rw[hF];rcases hfl with z|z
   ·exact x.of rfl (Fr.less (sub z))
   ·exact x.flat z.1
  have po':Paired (Bx F.K H2 (more B a)) ((gx md rs).map ad) outs:=by
   rw[hF];rcases hfl with z|z
   ·exact Paired.ph po fun a' c h=>h.of rfl (Fr.less (sub z))
   ·exact Paired.ow po z.2
  have po2:Paired (Bx F.K H2 B) ((gx md rs).map ad) outs:=Paired.ph po' fun a' c h=>h.of rfl (Fr.less fun _ z=>.inr z);obtain⟨l2,k2,f2⟩:=l1.call hb nd keep (fun _ z=>z) (fun _ _ _ z=>z) (fun b z n=>absurd z n) po2;obtain⟨l3,_,f3⟩:=l1.call (B2:=more B a) hb nd keep (fun _ z=>.inr z) (fun b o e n z=>z.elim (fun z=>by rw[z,ha0] at e;cases e) n) (fun b z n=>z.elim (fun z=>by rw[z];exact x'.fq) fun z=>absurd z n) po'
  exact k _ H2 (.fr c) _ ⟨l2,a,rfl,nBa',l1.BL ha0,l3,x'⟩ f3 k2 hq
noncomputable def IL(md:List Bool)(tsp:vA)(us:UA):UX:=fun μ Q Xt=>us μ fun rs μ1=>match yn μ1 md rs with
 |some args=>(gx md rs).Nodup/\(∀ j∈gx md rs,j∉ib md rs)/\tsp args (fun r outs=>(ib md rs=[]\/(fZ r=true/\outs.all ip=true))/\Q r (putAll (gx md rs) outs μ1)) (fun x=>Xt x μ1)
 |none=>False
theorem IE{pos p:Pos}{ps:List Str}{tsp:vA}(K:Qa)(hK:X.K=K)(F:ae X.prog X.w X.K X.mg X.base (nF X.prog X.w) k x ps (sW K md tsp))(hr:aQ k X.A)(hg:Gl X x)(hex:X.ex=[])(ha:YA X (e::es) us)(h1:autoParam (bR e=true) ℜ0)(h2:autoParam (es.all bR=true) ℜ0)(hdb:autoParam ((x ==("__debug__":Str))=false) ℜ1)(hmd:autoParam (md.all (fun b=>!b)=true) ℜ0):
  YX X (.Call (.Name x p) (e::es) [] pos) (IL md tsp us):=by
 obtain⟨t,q,r⟩:=ha;subst hK;refine⟨_,⟨EU F hr hg hex q.h h1 h2 hdb⟩,fun F ad B σ H μ Q Qt Xt hF l q k hX=>?_⟩;refine r F ad B σ H μ _ _ hF l q fun vs H1 rs μ1 l1 ps f1 k1 q1=>?_
 split at q1
 ·rename_i args ea;obtain⟨nd,dj,q1⟩:=q1;refine⟨fun x=>Xt x μ1,Br (tsp:=fun args Qt=>tsp args Qt fun x=>Xt x μ1) hF l1 ps ea nd dj q1 fun v H' r μ' w f k2 q2=>k v H' r μ' w (f1.trans f) (k1.trans k2) q2,fun x cls d e H' he keep tr=>⟨e,d,rfl,tr.1,fun ne nd=>?_⟩⟩;have sm:ba H1 H':=fun b o z=>keep b o z (by rw[nW hmd];simp)
  exact hX ad B σ H' μ1 x cls d e (l1.same sm) (f1.trans (Fr.same sm)) tr (l1.kj ne) (fun a z=>l1.kj (nd a z)) he
 ·exact q1.elim
noncomputable def lU(C:Addr)(us:UA):iJ:=fun _ Xt μ=>us μ fun rs μ'=>rs.length<=10/\Xt (.exc (.ref C) none) μ'
theorem qF{C:Addr}{np pos:Pos}(hg:Gl X x)(hm:X.mg x=some (.ref C))(hk:pM X.K C)(hc:X.calm=true)(hex:X.ex=[])(ha:YA X (e::es) us)(h1:autoParam (bR e=true) ℜ0)(h2:autoParam (es.all bR=true) ℜ0)(hdb:autoParam ((x ==("__debug__":Str))=false) ℜ1):
  zN X (.Raise (some (.Call (.Name x np) (e::es) [] cpos)) none pos) (lU C us):=by
 obtain⟨t,q,r⟩:=ha;refine⟨_,⟨xg hg hm hk hc hex q.h h1 h2 hdb⟩,fun F D E Xt ad B σ H μ hF l q h hX=>?_⟩;refine r F ad B σ H μ _ _ hF l q fun vs H1 rs μ1 l1 ps f1 k1 q1=>⟨by rw[ps.length];exact Lr q1.1 (by decide),fun ea hn=>?_⟩
 have sm:ba H1 (upd H1 ea (.ext (kl ea (.ref C) none))):=ba.new hn;exact hX ad B σ _ μ1 (.exc (.ref C) none) (.ref C) none ea (l1.same sm) (f1.trans (Fr.same sm)) ⟨ah,rfl,rfl⟩ (l1.kj hn) (fun a z=>by cases z) q1.2
noncomputable def En(c:UT)(body:iJ):iJ:=fun E Xt μ=>∃ I:Nat->Mu->Prop,(∃ m,I m μ)/\∀ m μ,I m μ->c μ fun b μ'=>if b=true then body {E with nx:=fun μ2=>∃ m',m'<m/\I m' μ2,ct:=fun μ2=>∃ m',m'<m/\I m' μ2,bk:=E.nx} Xt μ' else E.nx μ'
theorem A6{c:Expr}{xs:List Stmt}{uA:UT}{u:iJ}{pos:Pos}(hp:PassesOwn (model X.prog X.w) X.A X.env X.xe)(hc:YT X c uA)(hb:zP X xs u):zN X (.While c xs [] pos) (En uA u):=by
 obtain⟨tc,qc,rc⟩:=hc;obtain⟨t,q,r⟩:=hb;refine⟨_,Z.jS hp qc q,fun F D E Xt ad B σ H μ hF l q h hX=>?_⟩;obtain⟨I,⟨m0,i0⟩,turn⟩:=q;refine⟨fun m σ' H'=>∃ ad' B' μ',Rl F ad' B' σ' H' μ'/\Fr B H B' H'/\I m μ',⟨m0,ad,B,μ,l,Fr.refl,i0⟩,?_⟩;rintro m σ1 H1 ⟨ad1,B1,μ1,l1,f1,i1⟩;refine rc F ad1 B1 σ1 H1 μ1 _ _ hF l1 (turn m μ1 i1) fun b H2 μ2 l2 f2 k2 q2=>?_
 cases b with
 |true =>
  rw[Lg rfl] at q2 ⊢;refine⟨fun σ' H'=>∃ m',m'<m/\∃ ad' B' μ',Rl F ad' B' σ' H' μ'/\Fr B H B' H'/\I m' μ',fun σ' H' h=>h,?_⟩;have hn:∀ ad' B' σ' H' μ',Rl F ad' B' σ' H' μ'->Fr B1 H2 B' H'->(∃ m',m'<m/\I m' μ')->∃ m',m'<m/\∃ ad' B' μ',Rl F ad' B' σ' H' μ'/\Fr B H B' H'/\I m' μ':=fun ad' B' σ' H' μ' l' f' ⟨m',hm,i'⟩=>⟨m',hm,ad',B',μ',l',(f1.trans f2).trans f',i'⟩;exact r F _ _ Xt ad1 B1 σ1 H2 μ2 hF l2 q2 ⟨hn,h.rt,fun ad' B' σ' H' μ' l' f' q'=>h.nx ad' B' σ' H' μ' l' ((f1.trans f2).trans f') q',hn⟩ (hX.step (f1.trans f2))
 |false =>
  rw[K_ Lm] at q2 ⊢;exact h.nx ad1 B1 σ1 H2 μ2 l2 (f1.trans f2) q2
end Y
noncomputable def xR(K:Qa)(mg:Str->Option Value)(x:Str)(f:Addr)(cdv:Value):Prop:=mg x=some (.ref f)/\∃(o:Obj) (fd:FuncData),K.lookup f=some o/\o.data=.func fd/\fd.code=cdv
theorem HasFn.Ec{st:Stmt}{N ps:List Str}{tsp:vA}(F:HasFn K mg x st ps)(S:aj N ps (aa st))(md:List Bool)(hmd:md.all (fun b=>!b)=true)(hm:md.length=ps.length)(hN:md.length<=N.length)
  (hbody:∀(args:List T) (Qt:R->List T->Prop) (Et:T->Prop),args.length=ps.length->tsp args Qt Et->∀(f:Addr) (cdv:Value) (A:Around) (outer:List Env) (s:Shared) (H:Hp) (E:XK),aQ k (A.deeper (envOfC x (aa st) s.heap.objs.size f cdv))->xR K mg x f cdv ->
   ∃ us,zP (gy (nF P w) P w K mg base N x (aa st) f cdv A outer s H E) (aS st) us/\us (vd md Qt) (fun x _=>Et x) (startM md args N.length)):ae P w K mg base (nF P w) (k+1) x ps (sW K md tsp):=by
 obtain⟨f,fd,F1,bnd,m⟩:=F.ex;obtain⟨oc,od,kV,doc,pm,an,cdv,ct,osl,rfl,lk,hcd⟩:=F1.ex;refine⟨f,_,m,F1.kp,bnd,BZ (CX:=nF P w) lk hcd S (fun vs H Q E h=>?_) (fun A outer s H vs Q E hr h=>?_)⟩
 ·obtain⟨Et,⟨B,args,Qt,ag,_⟩,_⟩:=h;rw[ag.len.1,hm]
 ·obtain⟨Et,⟨B,args,Qt,ag,bh,nd,ht,fin⟩,hE⟩:=h;obtain⟨us,⟨t,q,r⟩,hu⟩:=hbody args Qt Et (by rw[ag.len.2,hm]) ht f cdv A outer s H E hr ⟨m,_,_,lk,rfl,rfl⟩
  refine⟨t,q.h,?_⟩;have l0:=iY (N:=N) ag bh nd hN;have outs:∀ ad' B' σ' H' μ' (B2:aE),Rl (kA K H md vs B bh) ad' B' σ' H' μ'->(∀ b,B2 b->B' b)->Paired (Bx K H' B2) (kv md vs) (bJ md 0 μ'):=fun ad' B' σ' H' μ' B2 l hB=>by
   refine mD (ag.len.1) fun n e=>?_;obtain⟨v,t',e1,e2,q⟩:=ag.get e;rw[Lg rfl] at q;obtain⟨a,rfl,_⟩:=q;obtain⟨⟨c,hc⟩,ha⟩:=l.par n a (m7 e e1);have sl:=l.slot n _ hc;refine⟨a,c,e1,by rw[MT];exact hc,?_⟩
   rw[<- ha];exact (sl.2.2.2).of rfl (Fr.less hB)
  have keep:∀ ad' B' σ' H' μ',Rl (kA K H md vs B bh) ad' B' σ' H' μ'->∀ b o,H b=some o->b∉kv md vs->H' b=some o:=fun ad' B' σ' H' μ' l b o e n=>l.old b o e fun i z=>n (fu (fN z).1 (fN z).2);refine r (kA K H md vs B bh) _ _ (fun x _=>Et x) (me vs) B (start N vs) H _ rfl l0 hu ⟨fun ad' B' σ' H' μ' l _ q=>?_,fun ad' B' σ' H' μ' v rr h q=>?_,fun _ _ _ _ _ _ _ z=>z.elim,fun _ _ _ _ _ _ _ z=>z.elim⟩ (fun ad' B' σ' H' μ' x cls d e l _ tr _ _ z=>xa (hE x cls d e H' z (keep _ _ _ _ _ l) tr))
  ·exact fin .aw H' (.tr .aw) _ q (keep _ _ _ _ _ l) ⟨.aw,outs _ _ _ _ _ _ l l.bc⟩
  ·cases rr with
   |tr t=>exact fin v H' (.tr t) _ q (keep _ _ _ _ _ h.1) ⟨(show Rep K H' B' v t from h.2).fr (Fr.less h.1.bc),outs _ _ _ _ _ _ h.1 h.1.bc⟩
   |fr c =>
    obtain⟨l,a,rfl,n,h0,l2,x⟩:=h;have sub:∀ b,more B a b->more B' a b:=fun b z=>z.imp id (l.bc b);exact fin _ H' (.fr c) _ q (keep _ _ _ _ _ l) ⟨a,rfl,h0,fun z=>n (l.bc a z),x.of rfl (Fr.less sub),outs _ _ _ _ _ _ l2 sub⟩
   |br i =>
    have q':(match μ'[i]? with|some (.bx c)=>Qt (.fr c) (bJ md 0 μ')|_=>False):=q
    obtain⟨l,rfl,s',c',e1,e2⟩:=h
    split at q'
    ·rename_i c ec;have sl:=l.slot i _ ec;have sub:∀ b,more B (ad' i) b->B' b:=fun b z=>z.elim (fun z=>by rw[z];exact sl.2.1) (l.bc b)
     refine fin _ H' (.fr c) _ q' (keep _ _ _ _ _ l) ⟨ad' i,rfl,sl.2.2.1,fun z=>?_,(sl.2.2.2.2).of rfl (Fr.less sub),outs _ _ _ _ _ _ l sub⟩;obtain⟨o,e⟩:=bh _ z;have:H (ad' i)=none:=sl.2.2.1;rw[this] at e;cases e
    ·exact q'.elim
theorem HasFn.Ii{st:Stmt}{ps:List Str}{tsp:vA}(F:HasFn K mg x st ps)(S:aj N ps (aa st))(md:List Bool)(hmd:md.all (fun b=>!b)=true)(hm:md.length=ps.length)(hN:md.length<=N.length)
  (hbody:∀(args:List T) (Qt:R->List T->Prop) (Et:T->Prop),args.length=ps.length->tsp args Qt Et->∀(f:Addr) (cdv:Value) (A:Around) (outer:List Env) (s:Shared) (H:Hp) (E:XK),aQ k (A.deeper (envOfC x (aa st) s.heap.objs.size f cdv)) ->
   ∃ us,zP (gy (nF P w) P w K mg base N x (aa st) f cdv A outer s H E) (aS st) us/\us (vd md Qt) (fun x _=>Et x) (startM md args N.length)):ae P w K mg base (nF P w) (k+1) x ps (sW K md tsp):=
 F.Ec S md hmd hm hN fun args Qt Et hl h f cdv A outer s H E hr _=>hbody args Qt Et hl h f cdv A outer s H E hr
abbrev UJ:=Mu->(Mu->Prop)->Prop
structure YJ (X:Cx) (vs:List Expr) (u:UJ):Prop where
 run:∀(F:Fx) (ad:Nat->Addr) (B:aE) (σ:St) (H:Hp) (μ:Mu) (Qt:Mu->Prop) (pins:List (Addr×Obj)) (s:Shared) (acc:Str) (k:Nat) (R:Str->Shared->Prop),F.K=X.K->Rl F ad B σ H μ->u μ Qt->Inv X pins σ H s->acc.length<=2000*k->k+vs.length<=20 ->
  (∀ H' μ' s' (out:Str),Rl F ad B σ H' μ'->Fr B H B H'->Kp μ μ'->Qt μ'->Inv X pins σ H' s'->out.length<=40000->R out s')->Joins (model X.prog X.w) X.A X.xe (evalEach vs X.env) acc R s
theorem eY(a b:Str):(a++b).length=a.length+b.length:=OL
theorem eJ(h:n<=40000):n<=sizeLine:=Lr h (by decide)
namespace Y
section
variable {X:Cx} {e:Expr} {vs:List Expr} {ue:UE} {u:UJ} {pos p:Pos}
theorem EG:YJ X [] (fun μ Q=>Q μ):=⟨fun F ad B σ H μ Qt pins s acc k R hF l q I ha hk h=>h H μ s acc l Fr.refl (Kp.refl μ) q I (by simp at hk;lia)⟩
theorem uP{c:Str}{j:Nat}(h:YJ X vs u)(hc:autoParam (c.length<=2000) ℜ1)(he:autoParam (evalEach (.Constant (.str c) j p::vs) X.env=eval (.Constant (.str c) j p) X.env::evalEach vs X.env) ℜ0):YJ X (.Constant (.str c) j p::vs) u:=by
 refine⟨fun F ad B σ H μ Qt pins s acc k R hF l q I ha hk hR=>?_⟩;rw[he];refine bE ((Z.str (X:=X) (i:=c) (j:=j) (pos:=p)).h pins s σ H (fun v H1=>v=.str c/\H1=H) I ⟨rfl,rfl⟩) fun v s1 ⟨v',H1,I1,r1,e1,e2⟩=>?_;subst e1;subst e2;obtain⟨t,rfl⟩:=r1;have hl:(acc++c).length<=2000*(k+1):=by rw[eY];lia
 rw[KZ] at hk;exact⟨c,t,rfl,eJ (by lia),h.run F ad B σ H1 μ Qt pins s1 (acc++c) (k+1) R hF l q I1 hl (by lia) hR⟩
noncomputable def IC(ue:UE)(u:UJ):UJ:=fun μ Q=>ue μ fun r μ'=>match r with
 |.tr (.int i)=>i.natAbs<2^1900/\u μ' Q
 |_=>False
theorem D9(he:YE X e ue)(h:YJ X vs u)(hev:autoParam (evalEach (.FormattedValue e (-1) none p::vs) X.env=eval (.FormattedValue e (-1) none p) X.env::evalEach vs X.env) ℜ0):YJ X (.FormattedValue e (-1) none p::vs) (IC ue u):=by
 obtain⟨t,qe,r⟩:=he;refine⟨fun F ad B σ H μ Qt pins s acc k R hF l q I ha hk hR=>?_⟩;rw[hev];refine wpAny_FormattedValue_plain ?_;refine bE (qe.h pins s σ H (fun v H1=>∃ r1 μ1,Vr F ad B σ H1 μ1 v r1/\Fr B H (Bv B v r1) H1/\Kp μ μ1/\(match r1 with
  |.tr (.int i)=>i.natAbs<2^1900/\u μ1 Qt
  |_=>False)) I (r F ad B σ H μ _ _ hF l q fun v H1 r1 μ1 w f k1 q1=>⟨r1,μ1,w,f,k1,q1⟩)) fun v s1 ⟨v',H1,I1,rv,r1,μ1,w,f,k1,q1⟩=>?_
 split at q1
 ·rename_i i;obtain⟨l1,rp⟩:=w;cases rp;obtain⟨t',rfl⟩:=rv;obtain⟨hi,q1⟩:=q1;have hlog:i.natAbs.log2<1920:=by
   by_cases z:i.natAbs=0
   ·rw[z];decide
   ·exact (Pz z).mpr (L4 hi (Mb (by decide) (by decide)))
  have hlen:(Str.ofString (toString i)).length<=1921:=by
   have:=int_text_length_le (k:=1920) (by decide) hlog
   rw[PySem.ofString_length];exact this
  refine wpAny_formatField_int hlog ⟨_,_,rfl,?_,?_⟩
  ·rw[eY];exact eJ (by rw[KZ] at hk;lia)
  ·rw[KZ] at hk;exact h.run F ad B σ H1 μ1 Qt pins _ (acc++Str.ofString (toString i)) (k+1) R hF l1 q1 (I1.tok _) (by rw[eY];lia) (by lia) fun H' μ' s' out l' f' k'=>hR H' μ' s' out l' (f.trans f') (k1.trans k')
 ·exact q1.elim
noncomputable def Ic(u:UJ):UE:=fun μ Q=>u μ fun μ'=>∀ z:Str,z.length<=40000->Q (.tr (.str z)) μ'
theorem Dc{v1 v2:Expr}{rest:List Expr}(h:YJ X (v1::v2::rest) u)(hn:autoParam ((v1::v2::rest).length<=20) ℜ1):YE X (.JoinedStr (v1::v2::rest) pos) (Ic u):=by
 refine⟨fun σ H Q=>∀ pins s,Inv X pins σ H s->wpAny (model X.prog X.w) X.A (eval (.JoinedStr (v1::v2::rest) pos) X.env) (EP X pins σ Q) X.xe s,⟨fun pins s σ H Q I h=>h pins s I⟩,?_⟩;intro F ad B σ H μ Q Qt hF l q k pins s I;refine wpAny_JoinedStr (h.run F ad B σ H μ _ pins s Str.empty 0 _ hF l q I (by decide) (by rw[MT];exact hn) fun H' μ' s' out l' f' k' q' I' ho=>⟨eJ ho,?_⟩)
 exact⟨.str out,H',I'.tok _,⟨_,rfl⟩,k _ H' (.tr (.str out)) μ' ⟨l',.str out⟩ f' k' (q' out ho)⟩
end
end Y
namespace A
theorem IC(ue:UE)(u:UJ)(μ:Mu)(Q:Mu->Prop):Y.IC ue u μ Q=ue μ fun r μ'=>match r with
 |.tr (.int i)=>i.natAbs<2^1900/\u μ' Q
 |_=>False:=rfl
theorem Ic(u:UJ)(μ:Mu)(Q:R->Mu->Prop):Y.Ic u μ Q=u μ fun μ'=>∀ z:Str,z.length<=40000->Q (.tr (.str z)) μ':=rfl
theorem u3(ux:UX)(g:UG)(E:Ed)(Xt:Xw)(μ:Mu):Y.u3 ux g E Xt μ=ux μ (fun r μ'=>g r μ' E.nx) Xt:=rfl
theorem AM(ux:UX)(E:Ed)(Xt:Xw)(μ:Mu):Y.AM ux E Xt μ=ux μ E.rt Xt:=rfl
theorem IF(c:UT)(u w:iJ)(E:Ed)(Xt:Xw)(μ:Mu):Y.IF c u w E Xt μ=c μ fun b μ'=>if b=true then u E Xt μ' else w E Xt μ':=rfl
theorem Iq(u:U2)(ux:UX)(ub:UE)(μ:Mu)(Q:R->Mu->Prop)(Xt:Xw):Y.Iq u ux ub μ Q Xt=ux μ (fun r1 μ1=>ub μ1 fun r2 μ2=>u r1.d r2.d μ2 Q) Xt:=rfl
theorem IL(md:List Bool)(tsp:vA)(us:UA)(μ:Mu)(Q:R->Mu->Prop)(Xt:Xw):Y.IL md tsp us μ Q Xt=us μ fun rs μ1=>match yn μ1 md rs with
 |some args=>(gx md rs).Nodup/\(∀ j∈gx md rs,j∉ib md rs)/\tsp args (fun r outs=>(ib md rs=[]\/(fZ r=true/\outs.all ip=true))/\Q r (putAll (gx md rs) outs μ1)) (fun cls=>Xt cls μ1)
 |none=>False:=rfl
theorem lU(C:Addr)(us:UA)(E:Ed)(Xt:Xw)(μ:Mu):Y.lU C us E Xt μ=us μ fun rs μ'=>rs.length<=10/\Xt (.exc (.ref C) none) μ':=rfl
end A
theorem oJ{u w:iJ}{E:Ed}{Xt:Xw}(h:∀ N,N=w E Xt->u {E with nx:=N} Xt μ):Y.Dg u w E Xt μ:=h _ rfl
namespace Y
noncomputable def i7(t:T)(xs:List T):Bool:=xs.any fun y=>Jg y t
theorem sQ{x:V}{t:T}(h:Rep K H B x t)(f:bf t=true):∀{ys:List V} {us:List T},ak K H B ys us->us.all bf=true->d8 x=true/\ys.all d8=true/\Iz x ys=i7 t us
 |_,_,.nil,_=>by
  refine⟨?_,rfl,rfl⟩
  cases h<;>first|rfl|cases f
 |_,_,.cons h2 r,f2=>by
  rw[L_,LS] at f2;obtain⟨a1,a2,a3⟩:=sQ h f r f2.2;obtain⟨b1,b2,b3⟩:=Co h2 h f2.1 f;refine⟨a1,by rw[L_,b1,a2];rfl,?_⟩
  unfold Iz i7 at a3 ⊢;rw[OB,OB,b3,a3]
noncomputable def Gx(K:Qa)(neg:Bool):R2:=fun x y H Q=>Ky K neg x y H Q\/∃ i j,x=.str i/\y=.str j/\Q (.bl (if neg then !(!(Builtin.Str.occurrences j i 0 j.length 1).isEmpty) else !(Builtin.Str.occurrences j i 0 j.length 1).isEmpty)) H
theorem r9(K:Qa)(hK:X.K=K):d7 X (compareOp .In) (Gx K false):=by subst hK;exact vf.or vi
noncomputable def Kt(i j:Str):Bool:=!(Builtin.Str.occurrences j i 0 j.length 1).isEmpty
noncomputable def IH(neg:Bool):T->T->Mu->(R->Mu->Prop)->Prop:=fun t u μ Q=>match u with
 |.tup xs=>bf t=true/\xs.all bf=true/\Q (.tr (.bl (if neg then !i7 t xs else i7 t xs))) μ
 |.lst xs=>bf t=true/\xs.all bf=true/\Q (.tr (.bl (if neg then !i7 t xs else i7 t xs))) μ
 |.dk xs=>bf t=true/\xs.all bf=true/\Q (.tr (.bl (if neg then !i7 t xs else i7 t xs))) μ
 |.str j=>(match t with|.str i=>Q (.tr (.bl (if neg then !Kt i j else Kt i j))) μ|_=>False)
 |_=>False
theorem Vw.fZ{v:V}{t:T}(h:Vw K H B v t)(f:bf t=true):Rep K H B v t:=by
 cases h with
 |aw=>exact .aw
 |bl b=>exact .bl b
 |int i=>exact .int i
 |str x=>exact .str x
 |tup=>cases f
 |dk=>cases f
 |lst=>cases f
 |dU=>cases f
 |dB=>cases f
 |n9=>cases f
 |exc=>cases f
 |AV=>cases f
theorem zI{neg:Bool}:ke K (Gx K neg) (uR (IH neg)):=fR fun F ad B σ H μ Q Qt x y t u hK l v1 v2 q k=>by
 subst hK;unfold IH at q
 split at q
 ·obtain⟨f1,f2,q⟩:=q
  cases v2 with
  |tup ha ra =>
   obtain⟨a1,a2,a3⟩:=sQ (Vw.fZ v1 f1) f1 ra f2;exact .inl ⟨_,_,rfl,.inr (aV.of ha),a1,a2,by rw[a3];exact k _ H _ (Vr.flat l (.bl _)) Fr.refl q⟩
 ·obtain⟨f1,f2,q⟩:=q
  cases v2 with
  |lst ha ra =>
   obtain⟨a1,a2,a3⟩:=sQ (Vw.fZ v1 f1) f1 ra f2;exact .inl ⟨_,_,rfl,.inl (bz.of ha),a1,a2,by rw[a3];exact k _ H _ (Vr.flat l (.bl _)) Fr.refl q⟩
 ·obtain⟨f1,f2,q⟩:=q
  cases v2 with
  |dk ha ra =>
   obtain⟨a1,a2,a3⟩:=sQ (Vw.fZ v1 f1) f1 ra f2;exact .inl ⟨_,_,rfl,.inr (.inr ha),a1,a2,by rw[a3];exact k _ H _ (Vr.flat l (.bl _)) Fr.refl q⟩
 ·split at q
  ·cases v1;cases v2
   exact .inr ⟨_,_,rfl,rfl,k _ H _ (Vr.flat l (.bl _)) Fr.refl q⟩
  ·exact q.elim
 ·exact q.elim
end Y
namespace A
theorem JL(neg:Bool)(t:T)(xs:List T)(μ:Mu)(Q:R->Mu->Prop):Y.IH neg t (.tup xs) μ Q=(bf t=true/\xs.all bf=true/\Q (.tr (.bl (if neg then !Y.i7 t xs else Y.i7 t xs))) μ):=rfl
theorem JI(neg:Bool)(t:T)(xs:List T)(μ:Mu)(Q:R->Mu->Prop):Y.IH neg t (.dk xs) μ Q=(bf t=true/\xs.all bf=true/\Q (.tr (.bl (if neg then !Y.i7 t xs else Y.i7 t xs))) μ):=rfl
end A
theorem ja{k:Str}{t t':Tok}{prog:Program}{w:World}{A:Around}{E:Value->Shared->Prop}{Q:Option Fin×Unit->Shared->Prop}(hit:items[j]?=some (.str k t'))(hno:∀ m,m<j->∃ y ty,items[m]?=some (.str y ty)/\y≠k):∀(m i c:Nat) (s:Shared),i+m=j->m<c->Q (some (.done (.ret (.int (j:Nat) s.toks))),()) {s with toks:=s.toks+1} ->
  wpAny (model prog w) A (forIn (List.range' i c) ((none,()):Option Fin×Unit) fun i __s=>match items[i]? with
      |some y=>do
       let __do_lift <- eqBool y (Value.str k t)
       if __do_lift=true then do
         let __do_lift <- retInt (i:Nat)
         pure (ForInStep.done (some __do_lift,()))
        else pure (ForInStep.yield (none,()))
      |x=>pure (ForInStep.yield (none,()))) Q E s:=by
 intro m
 induction m with
 |zero =>
  intro i c s e hc h
  cases c with
  |zero=>exact absurd hc (NG _)
  |succ c =>
   obtain rfl:i=j:=e;rw[Me,NF];simp only[hit];refine KR (KR (OT ?_));rw[Mi rfl]
   wp_walk
   exact h
 |succ m ih =>
  intro i c s e hc h
  cases c with
  |zero=>exact absurd hc (NG _)
  |succ c =>
   obtain⟨y,ty,hy,ne⟩:=hno i (by lia)
   rw[Me,NF];simp only[hy];refine KR (KR (OT ?_));rw[L0 ne];exact Lk (ih (i+1) c s (by lia) (by lia) h)
theorem uT{n:Nat}{dd:Option Addr}{sl:Array (Option Value)}{k:Str}{t t':Tok}(hit:items[j]?=some (.str k t'))(hno:∀ m,m<j->∃ y ty,items[m]?=some (.str y ty)/\y≠k):
  Meets (Builtin.«tuple.index» ⟨[.ref p,.str k t],[]⟩) (fun A R s=>s.heap.get? p=some {cls:=.type "tuple",dict:=dd,data:=.seq items n,slots:=sl}/\R (.ok (.ret (.int (j:Nat) s.toks))) {s with toks:=s.toks+1}):=by
 intro prog w A R s h;obtain⟨hp,g,d,tk,os⟩:=s;obtain⟨ho,h⟩:=h;unfold Builtin.«tuple.index»;simp only[Std.Legacy.Range.forIn_eq_forIn_range'];wp_walk using Oi ho;have hj:j<items.size:=by
  rcases M5 j items.size with z|z
  ·exact z
  ·rw[OG.mpr z] at hit;cases hit
 refine ja hit hno j 0 _ _ (MT _) ?_ ?_
 ·simp[Std.Legacy.Range.size];exact hj
 ·exact Lk h
noncomputable def Jj(K:Qa):V->List V->Hp->VK->Prop:=fun x vs H Q=>∃(a:Addr) (ws:List Str) (k:Str) (j:Nat),x=.ref a/\aV K H a (ws.map V.str)/\vs=[.str k]/\ws[j]?=some k/\(∀ m,m<j->ws[m]?≠some k)/\Q (.int (j:Nat)) H
theorem gj:∀{ws:List Str} {its:List Value},Vals (ws.map V.str) its->∀(m:Nat) (y:Str),ws[m]?=some y->∃ t,its[m]?=some (.str y t):=fun r m y e=>by
 obtain⟨u,h1,h2⟩:=r.get (i:=m) (x:=V.str y) (by rw[Lw,e];rfl)
 obtain⟨t,rfl⟩:=(show RelV (.str y) u from h2);exact⟨t,h1⟩
theorem DL:uS X "tuple.index" (Jj X.K):=by
 intro pins s σ H x xs v us Q I rx rs h;obtain⟨a,ws,k,j,rfl,hq,rfl,hj,hno,q⟩:=h;obtain rfl:v=Value.ref a:=rx;obtain⟨u,rfl,t,rfl⟩:=vals1 rs;obtain⟨its,r,pl,hz⟩:=I.tuple hq;obtain⟨⟨oc,od,oda,osl⟩,ho,hc,n,hd⟩:=id pl;obtain rfl:oc=.type "tuple":=hc;obtain rfl:oda=.seq its.toArray n:=hd;obtain⟨t',hit⟩:=gj r j k hj;refine Mr PySem.F.slot_tuple_index ⟨_,ho,rfl⟩ PySem.F.entry_tuple_index (PySem.F.args_tuple_index_2 _ _) (uT (j:=j) (t':=t') (by rw[Mj];exact hit) fun m hm=>?_) ⟨ho,⟨.int (j:Nat),H,I.tok _,⟨_,rfl⟩,q⟩⟩
 have hl:m<ws.length:=PY hm (Li.mp hj).1;have e:=KY hl;obtain⟨ty,hy⟩:=gj r m _ e;exact⟨_,ty,by rw[Mj];exact hy,fun z=>hno m hm (by rw[e,z])⟩
open Builtin Builtin.Str
namespace Y
noncomputable def zM:UC:=fun rs μ Q=>match rs with
 |[.tr (.int i)]=>i.natAbs.log2<1920/\Q (.tr (.str (toString i))) μ
 |[.tr (.str z)]=>Q (.tr (.str z)) μ
 |_=>False
theorem EX:RC K Hz zM:=by
 intro F ad B σ H μ Q Qt xs rs hK l p q k;unfold zM at q
 split at q
 ·cases p with
  |cons h1 p=>cases p;cases aL h1;exact⟨q.1,k _ H _ μ (Vr.flat l (.str _)) Fr.refl (Kp.refl μ) q.2⟩
 ·cases p with
  |cons h1 p=>cases p;cases aL h1;exact k _ H _ μ (Vr.flat l (.str _)) Fr.refl (Kp.refl μ) q
 ·exact q.elim
end Y
namespace A
theorem Gw(i:Int)(μ:Mu)(Q:R->Mu->Prop):Y.zM [.tr (.int i)] μ Q=(i.natAbs.log2<1920/\Q (.tr (.str (toString i))) μ):=rfl
end A
open PySem PySem.Spec PyProof PyProof.Rows
variable{K:Qa}{es:List Expr}{p:Pos}{X:Cx}{items:List T}
noncomputable def Ac(K:Qa)(a:Addr):It:=
 ⟨fun i H=>∃ x,getL K a i H x,fun i H x H'=>∃ p y,(∀ xs,bz K H a xs->xs[i]?=some y)/\H p=none/\x=.ref p/\H'=upd H p (.tup [.int i,y]),Kh K a⟩
theorem qW{P:Program}{w:World}{tk:Nat}{tp:Pos}(a it e:Addr)(hne:e≠it):Turn P w K (.Tuple es tk tp) (Ac K a) [e,it] e (fun i h=>(∃ old,IsEnum h e it i old)/\h.IsListIter it a i) where
 mem:=by simp
 obj:=fun i h st b hb=>by
  obtain⟨⟨old,he⟩,o,eo,c,d⟩:=st;rcases Ll.mp hb with z|z
  ·subst z;exact⟨_,he,fun v z=>by cases z⟩
  ·have z:b=it:=by simpa using z
   subst z;exact⟨o,eo,fun v z=>by rw[d] at z;cases z⟩
 keep:=fun i h h' st k=>by
  obtain⟨⟨old,he⟩,o,eo,r⟩:=st;exact⟨⟨old,k e (by simp) _ he⟩,o,k it (by simp) o eo,r⟩
 item:=by
  intro X hP hw hK hc i pins s σ H E I hf st hg;subst hP hw hK;obtain⟨x,xs,hq,hx⟩:=hg;obtain⟨⟨old,he⟩,hit⟩:=st;obtain⟨its,rv,p,hz⟩:=I.list hq;obtain⟨u,hu,ru⟩:=rv.get hx;obtain⟨g0,g1,g2,g3,g4,g5⟩:=hf e (by simp)
  obtain⟨f0,f1,f2,f3,f4,f5⟩:=hf it (by simp)
  have ht:s.heap.IsList a its.toArray:=p.isList;have ha:a≠it:=by
   rintro rfl;obtain⟨o,e1,c1,_⟩:=hit;obtain⟨o',e2,c2,_⟩:=ht;rw[e1] at e2;cases e2;rw[c1] at c2;exact absurd (Value.type.inj c2) (by decide)
  have hea:e≠a:=by
   rintro rfl;obtain⟨o',e2,c2,_⟩:=ht;have e1:s.heap.get? e=some _:=he;rw[e1] at e2;cases e2;exact absurd (Value.type.inj c2) (by decide)
  have hi:i<its.toArray.size:=by
   have:=(Li.mp hu).1
   simpa using this
  refine Pg (Draws.list (A:=X.A.in1) (I.ok.hd hc) it a ha its.toArray) he ⟨hit,ht⟩ hi hne (by simp[hne,hea]) fun x' h' tk' hP ho hs' hT hsz hk=>?_
  have ex:x'=u:=by
   have hP':its.toArray[i]?=some x':=hP;rw[Mj,hu] at hP';exact (Option.some.inj hP').symm
  subst ex;refine⟨.ref s.heap.objs.size,rfl,OC ho fun h2 he2 hs2=>?_⟩;have fr:H s.heap.objs.size=none:=I.aD.fresh (Lf _);have hle:e≠s.heap.objs.size:=L9 (Lq he);have hT2:h2.get? s.heap.objs.size=some {cls:=.type "tuple",data:=.seq #[.int i tk',x']}:=(hs2.2 _ (Ne.symm hle)).trans hT;have I2:Inv X pins σ (upd H s.heap.objs.size (.tup [.int i,x])) {s with heap:=h2,toks:=tk'+1}:=by
   refine I.mB (fp:=[e,it]) hf (Lf _) (fun b o hb eb=>?_) ⟨by show 2<=sizeLine;decide,[.int i tk',x'],.cons ⟨_,rfl⟩ (.cons ru .nil),⟨_,hT2,rfl,_,rfl,rfl⟩⟩
   have n1:b≠e:=fun z=>hb (by simp[z])
   have n2:b≠it:=fun z=>hb (by simp[z])
   exact (hs2.2 b n1).trans (hk b o n1 n2 eb)
  refine⟨.ref s.heap.objs.size,_,I2,rfl,⟨s.heap.objs.size,x,fun ys hy=>by rw[I.jB hy hq];exact hx,fr,rfl,rfl⟩,⟨⟨x',?_⟩,?_⟩,fun b hb=>?_⟩
  ·have e:(((i+1:Nat)):Int)=(i:Int)+1:=by lia
   rw[e];exact he2
  ·obtain⟨o,e1,r⟩:=hs'.1;exact⟨o,(hs2.2 it (Ne.symm hne)).trans e1,r⟩
  ·have n:b≠s.heap.objs.size:=by
    rcases Ll.mp hb with z|z
    ·subst z;exact hle
    ·have z:b=it:=by simpa using z
     subst z;obtain⟨o,e1,_⟩:=hit;exact L9 (Lq e1)
   rw[af n];exact (hf b hb).1
 done:=by
  intro X hP hw hK hc i pins s σ H E I hf st hg;subst hP hw hK;obtain⟨xs,hq,hx⟩:=hg;obtain⟨⟨old,he⟩,hit⟩:=st;obtain⟨its,rv,p,hz⟩:=I.list hq;have ht:s.heap.IsList a its.toArray:=p.isList;have ha:a≠it:=by
   rintro rfl;obtain⟨o,e1,c1,_⟩:=hit;obtain⟨o',e2,c2,_⟩:=ht;rw[e1] at e2;cases e2;rw[c1] at c2;exact absurd (Value.type.inj c2) (by decide)
  have hl:=rv.length;have hsz:its.toArray.size=i:=by simp;lia
  refine Py (Draws.list (A:=X.A.in1) (I.ok.hd hc) it a ha its.toArray) he (by rw[hsz];exact⟨hit,ht⟩) fun h' eb=>⟨rfl,?_⟩
  exact I.turns (t':=s.toks) hf fun b o hb e1=>eb b o (fun z=>hb (by simp[z])) e1
 self:=fun A i s Q E st h=>by
  obtain⟨⟨old,he⟩,_⟩:=st;exact NP he h
section
variable {X:Cx} {es:List Expr} {tk:Nat} {tp:Pos}
noncomputable def EL(K:Qa)(ta:TA):TI:=fun σ H R=>ta σ H fun vs H1=>∃ a,vs=[.ref a]/\(∃ xs,bz K H1 a xs)/\R (Ac K a) H1
theorem yR{e:Expr}{ta:TA}{pos:Pos}(hg:Gl X "enumerate")(hm:X.mg "enumerate"=none)(ha:PA X [e] ta)(h1:autoParam (bR e=true) ℜ0)(hv:autoParam (bootBuiltins "enumerate"=some (.type "enumerate")) ℜ6):
  PI X (.Tuple es tk tp) (.Call (.Name "enumerate" p) [e] [] pos) (EL X.K ta):=by
 intro pins s σ H R I h;refine Call_ (eE I hg hm hv (Mn (bE (ha pos pins s σ H _ I h) fun us s1 ⟨vs,H1,I1,r1,q1⟩=>?_) (bZ h1) rfl));obtain⟨a,e,⟨xs,hq⟩,q⟩:=q1;subst e;obtain⟨u,rfl,ru⟩:=vals1 r1;cases ru;obtain⟨its,rv,pt,hz⟩:=I1.list hq;refine call_enumerate_list pt.isList fun h' he hit hsz hk=>?_;refine NP he ?_;have I2:Inv X pins σ H1 {s1 with heap:=h'}:=I1.kept (t':=s1.toks) hk
 refine⟨s1.heap.objs.size+1,[s1.heap.objs.size+1,s1.heap.objs.size],_,_,H1,rfl,I2,qW a s1.heap.objs.size (s1.heap.objs.size+1) (Nd (Nat.lt_succ_self _)),⟨⟨_,he⟩,hit⟩,fun b hb=>?_,q⟩;have hb':s1.heap.objs.size<=b:=by
  rcases Ll.mp hb with z|z
  ·rw[z];exact Nr _
  ·have z:b=s1.heap.objs.size:=by simpa using z
   rw[z];exact Lf _
 exact I1.pF hb' (I1.aD.fresh hb')
end
theorem A0{a:Addr}{ts:List T}:i8 K (Ac K a) (fun H B=>∃ vs,bz K H a vs/\ak K H B vs ts) (pairs ts):=by
 refine⟨fun H B i t hb ⟨vs,h,r⟩ e=>?_,fun H B ⟨vs,h,r⟩=>⟨vs,h,by rw[r.length];simp[pairs]⟩⟩
 unfold pairs at e;rw[Lw] at e;have hi:i<ts.length:=by
  rcases M5 i ts.length with z|z
  ·exact z
  ·rw[Mf.mpr (by simpa using z)] at e;cases e
 rw[ML hi] at e;have e':T.tup [.int (i:Nat),(ts[i]?).getD .aw]=t:=Option.some.inj e;have et:ts[i]?=some ts[i]:=KY hi;obtain⟨v,e1,rv⟩:=r.get et;refine⟨⟨v,vs,h,e1⟩,fun x H2 y=>?_⟩;obtain⟨p,y,hy,hp,rfl,rfl⟩:=y;have:=hy vs h;rw[e1] at this;cases this;subst e';rw[et];refine⟨ba.new hp,.tup (fun z=>?_) ah (.cons (.int _) (.cons (rv.fr (Fr.same (ba.new hp))) .nil))⟩;obtain⟨o,q⟩:=hb p z;rw[hp] at q;cases q
namespace Y
noncomputable def A2(us:UA):UI:=fun μ Rt=>us μ fun rs μ'=>match rs with
 |[.tr (.lst ts)]=>Rt (pairs ts) none μ'
 |_=>False
theorem CK{e:Expr}{us:UA}{pos:Pos}(K:Qa)(hK:X.K=K){k:Nat}{tp:Pos}(hg:Gl X "enumerate")(hm:X.mg "enumerate"=none)(ha:YA X [e] us)(h1:autoParam (bR e=true) ℜ0):YI X (.Tuple es k tp) (.Call (.Name "enumerate" p) [e] [] pos) (A2 us):=by
 obtain⟨t,q,r⟩:=ha;subst hK;refine⟨_,⟨yR hg hm q.h h1⟩,fun F ad B σ H μ R Rt hF l q k=>r F ad B σ H μ _ _ hF l q fun vs H' rs μ' l1 ps f k1 q1=>?_⟩
 split at q1
 ·rename_i ts
  cases ps with
  |cons h1 ps =>
   cases ps;have rp:=aL h1
   cases rp with
   |@lst a vs _ n h rr =>
    have sr:∀ H B,Rep F.K H B (.ref a) (.lst ts)->∃ vs,bz X.K H a vs/\ak X.K H B vs ts:=fun H B h=>by
     rw[hF] at h
     cases h with|lst n h r=>exact⟨_,bz.of h,r⟩
    exact⟨a,rfl,⟨vs,bz.of h⟩,k (Ac X.K a) H' μ' (pairs ts) none (fun H B=>Rep F.K H B (.ref a) (.lst ts)) l1 f k1 (A0.imp sr) (.lst n h rr) (fun B1 H1 B2 H2 f h=>h.fr f) (fun j ls z=>by cases z) q1⟩
 ·exact q1.elim
end Y
namespace A
theorem A2(us:UA)(μ:Mu)(Rt:List T->Option (Nat×List T)->Mu->Prop):Y.A2 us μ Rt=us μ fun rs μ'=>match rs with
 |[.tr (.lst ts)]=>Rt (pairs ts) none μ'
 |_=>False:=rfl
end A
noncomputable def xZ(K:Qa)(ws:List Str)(v:Value):Prop:=∃ p,v=.ref p/\GV K p (ws.map V.str)
structure mh (K:Qa) (a:Addr) (D:List (Str×List Str)):Prop where
 low:(a == sysModules)=false
 ex:∃ o es ep,K.lookup a=some o/\o.ExactDict/\o.data=.dict es ep/\KTD.Rows (xZ K) es.toList D
section
variable {prog:Program} {w:World} {A:Around} {E:Value->Shared->Prop} {s:Shared} {K:Qa} {a:Addr} {D:List (Str×List Str)} {k:Str} {tk:Tok}
theorem mh.typeIs(T:mh K a D)(X:K.In s.heap):s.TypeIs (.ref a) "dict":=let ⟨o,_,_,ho,hc,_⟩:=T.ex;⟨o,X _ _ ho,hc.1⟩
theorem wb{Q:Option Value->Shared->Prop}(T:mh K a D)(X:K.In s.heap)(h1:∀ d v,KTD.datumAt k D=some d->xZ K d v->Q (some v) {s with toks:=s.toks+1})(h2:KTD.datumAt k D=none->Q none {s with toks:=s.toks+1}):
  wpAny (model prog w) A (dictGet a (.str k tk)) Q E s:=by
 obtain⟨o,es,ep,ho,hc,hd,hr⟩:=T.ex;have ho:=X _ _ ho;unfold dictGet
 try with_reducible refine LV ?_
 refine KR (wpAny_pyHash_str (KR (KTD.kt_dictFind_strs (s:={s with toks:=s.toks+1}) ho hd (by obtain⟨l⟩:=es;simpa using hr.exact) ?_)))
 have hq:Q (findBy (fun k v=>v.isStr k) es k) {s with toks:=s.toks+1}:=by
  have hf:findBy (fun k v=>v.isStr k) es k=(es.toList.find? fun e=>e.key.isStr k).map (·.val):=by
   obtain⟨l⟩:=es;simp[findBy]
  rw[hf]
  cases hat:KTD.datumAt k D with
  |some d=>obtain⟨v,hv,hfl⟩:=hr.find_some hat;rw[hv];exact h1 d v hat hfl
  |none=>rw[hr.find_none hat];exact h2 hat
 rw[findBy_of_findIdx?] at hq
 cases hi:es.findIdx? fun e=>e.key.isStr k with
 |none=>rw[hi] at hq;exact Lk hq
 |some i=>rw[hi] at hq;exact KR (NR (s:={s with toks:=s.toks+1}) ho hd (Lk hq))
end
namespace Y
theorem JG{pos:Pos}{x:Str}{k:Nat}{ps:List Str}{md:List Bool}{tsp:dX}{E:XK}(K:Qa)(hK:X.K=K)(F:ae X.prog X.w X.K X.mg X.base aT k x ps (spT K md tsp))(hr:aQ k X.A)(hg:Gl X x)(hx:Passes aT X E)(hdb:autoParam ((x ==("__debug__":Str))=false) ℜ1):
  YE X (.Call (.Name x p) [] [] pos) (Eh md tsp ve):=by
 subst hK;exact⟨_,Z.JG F hr hg hx hdb,Cj (fun F ad B σ H μ Q Qt hK l q k=>k [] H [] μ l .nil Fr.refl (Kp.refl μ) q)⟩
noncomputable def ig(g:UG)(body:iJ)(E:Ed)(Xt:Xw):List T->Mu->Prop
 |[],μ=>E.nx μ
 |t::ts,μ=>g (.tr t) μ fun μ1=>body {E with nx:=ig g body E Xt ts,ct:=ig g body E Xt ts,bk:=E.nx} Xt μ1
noncomputable def BS(ui:UI)(g:UG)(body:iJ):iJ:=fun E Xt μ=>ui μ fun items gd μ'=>gd=none/\ig g body E Xt items μ'
theorem vz{Dx:Fv}{g:TG}{ug:UG}{tb:TS}{body:iJ}{F:Fx}{D:Ends}{E:Ed}{Xt:Xw}{J:It}{Src:Hp->aE->Prop}{B0:aE}{H0:Hp}(hF:F.K=K)(hg:RG K g ug)(hb:IJ K Dx tb body)(it:i8 K J Src items)
  (pe:∀ B1 H1 B2 H2,Fr B1 H1 B2 H2->Src H1 B1->Src H2 B2) (hE:qk F B0 H0 D E) (hX:uD F B0 H0 Dx Xt) {ad:Nat->Addr} {B:aE} {σ:St} {H:Hp} {μ:Mu} (l:Rl F ad B σ H μ) (f:Fr B0 H0 B H) (sr:Src H B) (q:ig ug body E Xt items μ) :
  ∃ W:Nat->Nat->St->Hp->Prop,(∃ m,W 0 m σ H)/\∀ i m σ H,W i m σ H ->
   (J.stop i H/\D.nx σ H)\/(J.go i H/\∃ N:St->Hp->Prop,(∀ σ' H',N σ' H'->∃ m',m'<m/\W (i+1) m' σ' H')/\∀ x H',J.Ar i H x H'->g x σ H' fun σ2 H2=>tb {D with nx:=N,ct:=N,bk:=D.nx} σ2 H2):=by
 refine⟨fun i m σ H=>m=items.length-i/\i<=items.length/\∃ ad B μ,Rl F ad B σ H μ/\Fr B0 H0 B H/\Src H B/\ig ug body E Xt (items.drop i) μ,⟨items.length,by simp,LA _,ad,B,μ,l,f,sr,q⟩,?_⟩
 rintro i m σ H ⟨rfl,hi,ad,B,μ,l,f,sr,q⟩;by_cases hlt:i<items.length
 ·have ei:items[i]?=some items[i]:=KY hlt;rw[LJ hlt] at q;obtain⟨go,yl⟩:=it.step H B i _ l.fq sr ei;refine .inr ⟨go,fun σ' H'=>∃ ad' B' μ',Rl F ad' B' σ' H' μ'/\Fr B0 H0 B' H'/\Src H' B'/\ig ug body E Xt (items.drop (i+1)) μ',fun σ' H' h=>⟨items.length-(i+1),by lia,rfl,hlt,h⟩,fun x H2 y=>?_⟩
  obtain⟨sm,rp⟩:=yl x H2 y;refine hg F ad B σ H2 μ x (.tr _) B H2 _ _ hF ⟨l.same sm,by show Rep F.K H2 B x _;rw[hF];exact rp⟩ Fr.refl q fun ad3 B3 σ3 H3 μ3 l3 f3 q3=>?_
  have f03:Fr B0 H0 B3 H3:=(f.trans (Fr.same sm)).trans f3;have s3:Src H3 B3:=pe _ _ _ _ ((Fr.same sm).trans f3) sr;exact hb F _ _ Xt ad3 B3 σ3 H3 μ3 hF l3 q3 ⟨fun ad' B' σ' H' μ' l' f' q'=>⟨ad',B',μ',l',f03.trans f',pe _ _ _ _ f' s3,q'⟩,hE.rt,fun ad' B' σ' H' μ' l' f' q'=>hE.nx ad' B' σ' H' μ' l' (f03.trans f') q',fun ad' B' σ' H' μ' l' f' q'=>⟨ad',B',μ',l',f03.trans f',pe _ _ _ _ f' s3,q'⟩⟩ (hX.step f03)
 ·have e:i=items.length:=by lia
  subst e;rw[N6] at q;exact .inl ⟨it.stop H B sr,hE.nx ad B σ H μ l f q⟩
theorem GO{tg it:Expr}{xs:List Stmt}{pos:Pos}{ui:UI}{g:UG}{u:iJ}(hp:PassesOwn (model X.prog X.w) X.A X.env X.xe)(hc:X.calm=true)(hi:YI X tg it ui)(hg:YG X tg g)(hb:zP X xs u)(hs:autoParam (∀ x,foldedSetIterable it X.env x=pure x) ℜ3):zN X (.For tg it xs [] pos) (BS ui g u):=by
 obtain⟨ti,qi,ri⟩:=hi;obtain⟨tg',qg,rg⟩:=hg;obtain⟨t,q,r⟩:=hb;refine⟨_,Z.e_ hp hc qi qg q hs,fun F D E Xt ad B σ H μ hF l q h hX=>ri F ad B σ H μ _ _ hF l q fun J H' μ' items gd Src l1 f1 k1 it sr so gok q1=>?_⟩;obtain⟨rfl,q1⟩:=q1;exact vz hF rg r it so h hX l1 f1 sr q1
end Y
theorem yy{g:UG}{body:iJ}{E:Ed}{Xt:Xw}(I:List T->Mu->Prop){μ:Mu}(h0:I items μ)(hn:∀ μ,I [] μ->E.nx μ)
  (hs:∀ t ts μ (N:Mu->Prop),I (t::ts) μ->(∀ μ',I ts μ'->N μ')->g (.tr t) μ fun μ1=>body {E with nx:=N,ct:=N,bk:=E.nx} Xt μ1):Y.ig g body E Xt items μ:=by
 induction items generalizing μ with
 |nil=>exact hn μ h0
 |cons t ts ih=>exact hs t ts μ _ h0 fun μ' h=>ih h
namespace A
theorem BS(ui:UI)(g:UG)(body:iJ)(E:Ed)(Xt:Xw)(μ:Mu):Y.BS ui g body E Xt μ=ui μ fun items gd μ'=>gd=none/\Y.ig g body E Xt items μ':=rfl
end A
noncomputable def fU{α:Type}(xs:List α)(i:Nat)(y:α):List α:=xs.take i++y::xs.drop i
noncomputable def sX:V->List V->Hp->VK->Prop:=fun x vs H Q=>∃ l xs i y,x=.ref l/\vs=[.int i,y]/\H l=some (.lst xs)/\0<=i/\i<2^63/\xs.length<sizeLine/\Q .aw (upd H l (.lst (fU xs (min i.toNat xs.length) y)))
theorem vb:FF X "list.insert" sX:=by
 intro pins s σ H x vs v us Q I rx rv h;obtain⟨l,xs,i,y,rfl,rfl,hH,h0,h1,hz,q⟩:=h;cases rx;obtain⟨u,w',rfl,⟨t,rfl⟩,rw'⟩:=vals2 rv;obtain⟨z,its,n,r,hl,e⟩:=I.kg hH;have hfit:¬ (!Builtin.List.listFitsIndex i)=true:=by
  have:=PD (k:=i) (by lia) h1
  rw[this];exact Lm
 refine Mr F.slot_list_insert ⟨_,e,rfl⟩ F.entry_list_insert (F.args_list_insert_3 _ _ _) (AutoSeq1.list_insert_list_int_val_1 l its.toArray n i t w' hfit (by rw[Lh];lia)) ⟨e,?_⟩
 have el:its.length=xs.length:=hl.symm;refine⟨.aw,_,I.Ad (its':=fU its (min i.toNat its.length) w') hH e ?_ ?_ ?_,rfl,q⟩
 ·show (have k:=if i<0 then _ else min i.toNat its.toArray.size;(its.toArray.extract 0 k).push w'++its.toArray.extract k)=_
  rw[K_ (by lia)]
  apply Array.toList_inj.mp;unfold fU;simp[List.extract_eq_take_drop,MQ]
 ·rw[el];unfold fU;exact (r.take _).append (.cons rw' (r.drop _))
 ·unfold fU;rw[KW,KZ,LR,Nf];lia
namespace Y
noncomputable def gH:UM:=fun j rs μ Q=>match rs with
 |[.tr (.int i),.tr t]=>(match (μ[j]?).bind Sl.box with
  |some (.lst ts)=>0<=i/\i<2^63/\ts.length<sizeLine/\Q (.tr .aw) (cB μ j (.lst (fU ts (min i.toNat ts.length) t)))
  |_=>False)
 |_=>False
theorem uJ:RM K sX gH:=by
 intro F ad B σ H μ Q Qt j s c xs rs hF l e b ps q k;unfold gH at q
 split at q
 ·rename_i i t
  cases ps with
  |cons h1 ps=>cases ps with
   |cons h2 ps =>
    cases ps
    cases aL h1
    have rt:=aL h2;rw[e] at q;have q':(match s.box with|some (.lst ts)=>0<=i/\i<2^63/\ts.length<sizeLine/\Qt (.tr .aw) (cB μ j (.lst (fU ts (min i.toNat ts.length) t)))|_=>False):=q
    rw[b] at q';rcases ((l.slot j s e).boxed b).2.2.1.is with ⟨ts,vs,rfl,hl,rv⟩|⟨_,_,_,rfl,_⟩
    case inr=>exact q'.elim
    obtain⟨h0,h1,hz,q2⟩:=(show 0<=i/\i<2^63/\ts.length<sizeLine/\_ from q');refine⟨_,vs,i,_,rfl,rfl,hl,h0,h1,by rw[rv.length];exact hz,?_⟩
    have l3:=l.put e b (show ak F.K H B (fU vs (min i.toNat vs.length) _) (fU ts (min i.toNat ts.length) t) from by rw[rv.length];exact (rv.take _).append (.cons rt (rv.drop _)))
    unfold cB at q2;rw[e] at q2;exact k _ _ (.tr .aw) _ (Vr.flat l3 .aw) (Fr.set ((l.slot j s e).boxed b).2.1) (Kp.set e b (Sl.gI b)) q2
 ·exact q.elim
end Y
namespace A
theorem gH(j:Nat)(i:Int)(t:T)(μ:Mu)(Q:R->Mu->Prop):Y.gH j [.tr (.int i),.tr t] μ Q=(match (μ[j]?).bind Sl.box with
  |some (.lst ts)=>0<=i/\i<2^63/\ts.length<sizeLine/\Q (.tr .aw) (cB μ j (.lst (fU ts (min i.toNat ts.length) t)))
  |_=>False):=rfl
end A
open Builtin Builtin.Str
open PySem PySem.Spec PyProof PyProof.Rows
variable{X:Cx}{K:Qa}
inductive Ou where
 |no
 |ok (r:R)
 |ck (c:Prop) (r:R)
noncomputable def nE(o:Ou)(Q:R->Prop):Prop:=match o with
 |.no=>False
 |.ok r=>Q r
 |.ck c r=>c/\Q r
noncomputable def u5(o:Option Sl)(i:Nat):Ou:=match o with
 |some (.tr t)=>.ok (.tr t)
 |some (.bx _)=>.ok (.br i)
 |some (.pb _)=>.ok (.br i)
 |_=>.no
noncomputable def vp(a b:Option T):Ou:=match a,b with
 |some (.int i),some (.int j)=>.ok (.tr (.int (i+j)))
 |some (.str i),some (.str j)=>.ck (i.length+j.length<=sizeLine) (.tr (.str (i++j)))
 |some (.lst xs),some (.lst ys)=>.ck (xs.length+ys.length<=sizeLine) (.fr (.lst (xs++ys)))
 |some (.tup xs),some (.tup ys)=>.ck (xs.length+ys.length<=sizeLine) (.tr (.tup (xs++ys)))
 |_,_=>.no
noncomputable def oQ(o:Option T):Ou:=match o with
 |some t=>.ok (.tr t)
 |none=>.no
noncomputable def FJ(a b:Option T):Ou:=match a,b with
 |some (.lst xs),some (.int i)=>oQ (b9 xs i)
 |some (.tup xs),some (.int i)=>oQ (b9 xs i)
 |some (.dk xs),some (.int i)=>oQ (b9 xs i)
 |some (.str z),some (.int i)=>(match b9 z.cps.toList i with|some c=>.ck (z.length<=sizeLine) (.tr (.str ⟨#[c]⟩))|none=>.no)
 |_,_=>.no
noncomputable def nR(a:T):Ou:=match a with
 |.lst xs=>.ok (.tr (.int xs.length))
 |.tup xs=>.ok (.tr (.int xs.length))
 |.dU xs=>.ok (.tr (.int xs.length))
 |.dk xs=>.ok (.tr (.int xs.length))
 |.str z=>.ck (z.length<=sizeLine) (.tr (.int z.length))
 |_=>.no
noncomputable def EB(a:Option T)(lo hi:Option Int):Ou:=match a with
 |some (.lst xs)=>.ok (.fr (.lst (Y.bM xs lo hi)))
 |some (.dU xs)=>.ok (.fr (.lst (Y.bM xs lo hi)))
 |some (.tup xs)=>.ok (.tr (.tup (Y.bM xs lo hi)))
 |some (.str z)=>.ck (z.length<=sizeLine) (.tr (.str (Y.gM z lo hi)))
 |_=>.no
theorem jv(p:Prop):(True/\p)=p:=propext ⟨fun h=>h.2,fun h=>⟨trivial,h⟩⟩
theorem Kc(o:Option Sl)(i:Nat)(Q:R->Prop):lP (EK o i) Q=nE (u5 o i) Q:=by
 cases o with
 |none=>rfl
 |some s=>cases s<;>first|rfl|exact jv _
theorem IW(a b:Option T)(Q:R->Prop):lP (Es a b) Q=nE (vp a b) Q:=by
 cases a with
 |none=>rfl
 |some a=>cases b with
  |none=>cases a<;>rfl
  |some b=>cases a<;>cases b<;>first|rfl|exact jv _
theorem bg(a b:Option T)(Q:R->Prop):lP (Jy a b) Q=nE (FJ a b) Q:=by
 cases a with
 |none=>rfl
 |some a=>cases b with
  |none=>cases a<;>rfl
  |some b =>
   cases a<;>cases b<;>first
    |rfl
    | (rename_i xs i;show lP (oT (b9 xs i)) Q=nE (oQ (b9 xs i)) Q;cases b9 xs i with|none=>rfl|some t=>exact jv _)
    | (rename_i z i;show lP (match b9 z.cps.toList i with|some c=>some (z.length<=sizeLine,.tr (.str ⟨#[c]⟩))|none=>none) Q=nE (match b9 z.cps.toList i with|some c=>.ck (z.length<=sizeLine) (.tr (.str ⟨#[c]⟩))|none=>.no) Q;cases b9 z.cps.toList i<;>rfl)
theorem Kg(a:T)(Q:R->Prop):lP (FX a) Q=nE (nR a) Q:=by cases a<;>first|rfl|exact jv _
theorem KO(a:Option T)(lo hi:Option Int)(Q:R->Prop):lP (Y.D3 a lo hi) Q=nE (EB a lo hi) Q:=by
 cases a with
 |none=>rfl
 |some a=>cases a<;>first|rfl|exact jv _
namespace Y
noncomputable def jg(i:Nat):UE:=fun μ Q=>nE (u5 μ[i]? i) fun r=>Q r μ
noncomputable def tP:U2:=fun r1 r2 μ Q=>nE (vp (cont μ r1) (cont μ r2)) fun r=>Q r μ
noncomputable def wu:U2:=fun r1 r2 μ Q=>nE (FJ (cont μ r1) (cont μ r2)) fun r=>Q r μ
noncomputable def yV(t:T)(μ:Mu)(Q:R->Mu->Prop):Prop:=nE (nR t) fun r=>Q r μ
noncomputable def Ao(ue:UE)(ul uh:UO):UE:=fun μ Q=>ue μ fun r μ1=>ul μ1 fun lo μ2=>uh μ2 fun hi μ3=>nE (EB (cont μ3 r.d) lo hi) fun r=>Q r μ3
noncomputable def wB(ue:UE):UI:=fun μ Rt=>ue μ fun r μ'=>Gu (BI r μ') fun ts g=>Rt ts g μ'
noncomputable def FA(n:Nat)(gs:rX):UG:=fun r μ Q=>match xJ (cont μ r.d) with|some ts=>ts.length=n/\gs ts μ Q|none=>False
noncomputable def zh(ue:UE):UT:=fun μ Q=>ue μ fun r μ'=>match we r with|some b=>Q b μ'|none=>False
theorem Ja(i:Nat):mI i=jg i:=funext fun μ=>funext fun Q=>(A.mI i μ Q).trans (Kc _ _ _)
theorem JU:fX=tP:=funext fun r1=>funext fun r2=>funext fun μ=>funext fun Q=>(A.fX r1 r2 μ Q).trans (IW _ _ _)
theorem KN:rC=wu:=funext fun r1=>funext fun r2=>funext fun μ=>funext fun Q=>(A.rC r1 r2 μ Q).trans (bg _ _ _)
theorem Ki:oZ=yV:=funext fun t=>funext fun μ=>funext fun Q=>(A.oZ t μ Q).trans (Kg _ _)
theorem KP(ue:UE)(ul uh:UO):DC ue ul uh=Ao ue ul uh:=funext fun μ=>funext fun Q=>by
 unfold DC Ao;congr 1;funext r μ1;congr 1;funext lo μ2;congr 1;funext hi μ3;exact KO _ _ _ _
theorem K2(ue:UE):CM ue=wB ue:=funext fun μ=>funext fun Rt=>A.CM ue μ Rt
theorem eT(n:Nat)(gs:rX):gT n gs=FA n gs:=funext fun r=>funext fun μ=>funext fun Q=>A.gT n gs r μ Q
theorem Ke(ue:UE):nJ ue=zh ue:=funext fun μ=>funext fun Q=>A.nJ ue μ Q
theorem vS{x:Str}{pos:Pos}(i:Nat)(hN:autoParam (X.N[i]?=some x) ℜ0)(hv:autoParam (EC X.env.scope x) ℜ4)(hd:autoParam ((x ==("__debug__":Str))=false) ℜ1)
  (hcd:autoParam ((x ==("__classdict__":Str))=false) ℜ1):YE X (.Name x pos) (jg i):=Ja i ▸ v i hN hv hd hcd
theorem aC:ke K (xC K) tP:=JU ▸ Dy
theorem ar:ke K (H_ K) wu:=KN ▸ Gb
theorem aN:RC K (xP K) (vK yV):=Ki ▸ DU
theorem je{e:Expr}{ue:UE}{p2 pos:Pos}{lo hi:Option Expr}{ul uh:UO}(K:Qa)(hK:X.K=K)(he:YE X e ue)(hl:YO X lo ul)(hu:YO X hi uh):YE X (.Subscript e (.Slice lo hi none p2) pos) (Ao ue ul uh):=KP ue ul uh ▸ Fh K hK he hl hu
theorem anyS{tg e:Expr}{ue:UE}(K:Qa)(hK:X.K=K)(he:YE X e ue):YI X tg e (wB ue):=K2 ue ▸ any K hK he
theorem o8{es:List Expr}{pos:Pos}(K:Qa)(hK:X.K=K){k n:Nat}{gs:rX}(hc:X.calm=true)(h:GK X es gs)(hn:autoParam ((assignEach es X.env).length=n) ℜ0)(hst:autoParam ((assignEach es X.env).findIdx? (·.1)=none) ℜ0):YG X (.Tuple es k pos) (FA n gs):=eT n gs ▸ pZ K hK hc h hn hst
theorem t4{a:Expr}{ua:UE}(K:Qa)(hK:X.K=K)(ha:YE X a ua)(he:autoParam (Z.Ia a=true) ℜ0):YT X a (zh ua):=Ke ua ▸ Dq K hK ha he
end Y
namespace A3
theorem AW(t:T):oQ (some t)=.ok (.tr t):=rfl
theorem mI(i:Nat)(μ:Mu)(Q:R->Mu->Prop):Y.jg i μ Q=nE (u5 μ[i]? i) fun r=>Q r μ:=rfl
theorem fX(r1 r2:R)(μ:Mu)(Q:R->Mu->Prop):Y.tP r1 r2 μ Q=nE (vp (cont μ r1) (cont μ r2)) fun r=>Q r μ:=rfl
theorem FG(r1 r2:R)(μ:Mu)(Q:R->Mu->Prop):Y.wu r1 r2 μ Q=nE (FJ (cont μ r1) (cont μ r2)) fun r=>Q r μ:=rfl
theorem oZ(t:T)(μ:Mu)(Q:R->Mu->Prop):Y.yV t μ Q=nE (nR t) fun r=>Q r μ:=rfl
theorem Jx(ue:UE)(ul uh:UO)(μ:Mu)(Q:R->Mu->Prop):Y.Ao ue ul uh μ Q=ue μ fun r μ1=>ul μ1 fun lo μ2=>uh μ2 fun hi μ3=>nE (EB (cont μ3 r.d) lo hi) fun r=>Q r μ3:=rfl
theorem CM(ue:UE)(μ:Mu)(Rt:List T->Option (Nat×List T)->Mu->Prop):Y.wB ue μ Rt=ue μ fun r μ'=>Gu (BI r μ') fun ts g=>Rt ts g μ':=rfl
theorem gT(n:Nat)(gs:rX)(r:R)(μ:Mu)(Q:Mu->Prop):Y.FA n gs r μ Q=(match xJ (cont μ r.d) with|some ts=>ts.length=n/\gs ts μ Q|none=>False):=rfl
theorem nJ(ue:UE)(μ:Mu)(Q:Bool->Mu->Prop):Y.zh ue μ Q=ue μ fun r μ'=>match we r with|some b=>Q b μ'|none=>False:=rfl
theorem Jt(t:T)(i:Nat):u5 (some (.tr t)) i=.ok (.tr t):=rfl
theorem Ji(t:T)(i:Nat):u5 (some (.bx t)) i=.ok (.br i):=rfl
theorem JT(t:T)(i:Nat):u5 (some (.pb t)) i=.ok (.br i):=rfl
theorem HE(i j:Int):vp (some (.int i)) (some (.int j))=.ok (.tr (.int (i+j))):=rfl
theorem GU(i j:Str):vp (some (.str i)) (some (.str j))=.ck (i.length+j.length<=sizeLine) (.tr (.str (i++j))):=rfl
theorem add_l(xs ys:List T):vp (some (.lst xs)) (some (.lst ys))=.ck (xs.length+ys.length<=sizeLine) (.fr (.lst (xs++ys))):=rfl
theorem JH(xs:List T)(i:Int):FJ (some (.lst xs)) (some (.int i))=oQ (b9 xs i):=rfl
theorem JK(xs:List T)(i:Int):FJ (some (.tup xs)) (some (.int i))=oQ (b9 xs i):=rfl
theorem JW(z:Str)(i:Int):FJ (some (.str z)) (some (.int i))=(match b9 z.cps.toList i with|some c=>.ck (z.length<=sizeLine) (.tr (.str ⟨#[c]⟩))|none=>.no):=rfl
theorem GR(xs:List T):nR (.lst xs)=.ok (.tr (.int xs.length)):=rfl
theorem HW(xs:List T):nR (.tup xs)=.ok (.tr (.int xs.length)):=rfl
theorem FT(xs:List T):nR (.dU xs)=.ok (.tr (.int xs.length)):=rfl
theorem Gq(z:Str):nR (.str z)=.ck (z.length<=sizeLine) (.tr (.int z.length)):=rfl
theorem IP(xs:List T)(lo hi:Option Int):EB (some (.lst xs)) lo hi=.ok (.fr (.lst (Y.bM xs lo hi))):=rfl
theorem IX(xs:List T)(lo hi:Option Int):EB (some (.dU xs)) lo hi=.ok (.fr (.lst (Y.bM xs lo hi))):=rfl
theorem JY(xs:List T)(lo hi:Option Int):EB (some (.tup xs)) lo hi=.ok (.tr (.tup (Y.bM xs lo hi))):=rfl
theorem JJ(z:Str)(lo hi:Option Int):EB (some (.str z)) lo hi=.ck (z.length<=sizeLine) (.tr (.str (Y.gM z lo hi))):=rfl
end A3
open Builtin Builtin.Str
open PySem PySem.Spec PyProof PyProof.Rows
section
variable {prog:Program} {w:World} {A:Around} {E:Value->Shared->Prop} {s:Shared} {K:Qa} {a:Addr} {D:List (Str×List Str)} {k:Str} {tk:Tok}
theorem u6{ws:List Str}{Q:Value->Shared->Prop}(T:mh K a D)(X:K.In s.heap)(hk:KTD.datumAt k D=some ws)(h:∀ v,xZ K ws v->Q v {s with toks:=s.toks+1}):wpAny (model prog w) A (getItem (.ref a) (.str k tk)) Q E s:=by
 have hT:=T.typeIs X;unfold getItem
 try with_reducible refine LV ?_
 refine KR (wpAny_sequenceKey hT (by decide) ?_)
 refine KR (LY (name:=Str.ofString "__getitem__") hT PySem.F.slot_dict_getitem
  (Mo PySem.F.slot_dict_getitem hT PySem.F.entry_dict_getitem ?_ (args_dict_getitem _ _)))
 show wpAny _ _ (dictGet a (.str k tk) >>= _) _ _ s;refine KR (wb T X (fun d v e r=>?_) fun e=>?_)
 ·rw[hk] at e;cases e;exact Lk ⟨v,rfl,Lk (h v r)⟩
 ·rw[hk] at e;cases e
end
variable{Q:Value->Shared->Prop}{X:Cx}{body e:Expr}{D:List (Str×List Str)}{ue:UE}{q x y:Str}{apos kpos lpos p p1 p2 p3:Pos}{a b:List Nat}{e1 ep i j k m:Nat}{α:Type}{c c' f kS:Addr}{s:Shared}{N:List Str}{σf:List (Option V)}{scope:Scope}{cl:List (Str×Addr)}{params:Arguments}{ctv pm:Value}{H H1:Hp}{h h':Heap}{P:PySem.Fin->Shared->Prop}{us:List Value}{kz:List Int}{xs:List V}{K:Qa}{B:aE}{ts:List T}{mg:Str->Option Value}{w:World}{es:Array DictEntry}{prog:Program}
noncomputable def J8(K:Qa)(D:List (Str×List Str))(te:TE):TE:=fun σ H Q=>te σ H fun y H1=>∃ k ws,y=.str k/\KTD.datumAt k D=some ws/\∀ p,GV K p (ws.map V.str)->Q (.ref p) H1
theorem D6{o:Expr}{te:TE}{pos:Pos}{d:Addr}(ho:PE X o (tC (.ref d)))(hD:mh X.K d D)(he:PE X e te)(hs:Fd e):PE X (.Subscript o e pos) (J8 X.K D te):=by
 intro pins s σ H Q I h;refine A9 PySem.F.slot_dict_getitem.lookup hs (bE (ho pins s σ H (fun v H'=>v=.ref d/\H'=H) I ⟨rfl,rfl⟩) fun u s1 ⟨x,H1,I1,rx,ex,eh⟩=>?_);subst ex eh;obtain rfl:u=Value.ref d:=rx;refine bE (he pins s1 σ H1 _ I1 h) fun iv s2 ⟨y,H2,I2,ry,k,ws,ek,e1,q⟩=>?_;subst ek;obtain⟨t,rfl⟩:=ry;refine⟨hD.typeIs I2.gC,u6 hD I2.gC e1 fun v r=>?_⟩;obtain⟨p,rfl,r⟩:=r;exact⟨.ref p,H2,I2.tok _,rfl,q p r⟩
theorem Z.seq{tg l:Expr}{tl:TE}(K:Qa)(hK:X.K=K)(hl:QE X l tl):QI X tg l (yt K tl):=by subst hK;exact⟨xh hl.h⟩
theorem Ap.yt(K:Qa)(tl:TE)(σ:St)(H:Hp)(R:It->Hp->Prop):L2.yt K tl σ H R=tl σ H fun x H1=>∃ a,x=V.ref a/\(((∃ xs,bz K H1 a xs)/\R (rH K a) H1)\/((∃ xs,aV K H1 a xs)/\R (vL K a) H1)):=rfl
namespace Y
noncomputable def Ai(D:List (Str×List Str))(ue:UE):UE:=fun μ Q=>ue μ fun r μ'=>match r with
 |.tr (.str k)=>(match KTD.datumAt k D with
  |some ws=>Q (.tr (.dk (ws.map T.str))) μ'
  |none=>False)
 |_=>False
theorem Kq{pos:Pos}(K:Qa)(hK:X.K=K)(hg:Gl X x)(hd:∃ d,X.mg x=some (.ref d)/\mh K d D)(he:YE X e ue)(hs:Fd e:=by exact fun _ _=>rfl)(hdb:autoParam ((x ==("__debug__":Str))=false) ℜ1):
  YE X (.Subscript (.Name x p) e pos) (Ai D ue):=by
 obtain⟨t,q,r⟩:=he;obtain⟨d,hm,hd⟩:=hd;subst hK;refine⟨_,⟨D6 (mi hg hm rfl hdb) hd q.h hs⟩,fun F ad B σ H μ Q Qt hF l q k=>r F ad B σ H μ _ _ hF l q fun v H' r1 μ' v1 f k1 q1=>?_⟩
 split at q1
 ·rename_i z;obtain⟨l1,rp⟩:=v1;cases rp
  cases e1:KTD.datumAt z D with
  |none=>rw[e1] at q1;exact q1.elim
  |some ws =>
   rw[e1] at q1;exact⟨z,ws,rfl,e1,fun p kt=>k _ H' (.tr (.dk (ws.map T.str))) μ' ⟨l1,.dk (by rw[hF];exact kt) (kN ws)⟩ f.d k1 q1⟩
 ·exact q1.elim
end Y
namespace A
theorem Ai(D:List (Str×List Str))(ue:UE)(μ:Mu)(Q:R->Mu->Prop):Y.Ai D ue μ Q=ue μ fun r μ'=>match r with
 |.tr (.str k)=>(match KTD.datumAt k D with
  |some ws=>Q (.tr (.dk (ws.map T.str))) μ'
  |none=>False)
 |_=>False:=rfl
end A
namespace Y
noncomputable def G7:V->List V->Hp->VK->Prop:=fun x vs H Q=>∃(a:Addr) (ws:List Str) (k:Str) (j:Nat),x=.ref a/\H a=some (.lst (ws.map V.str))/\vs=[.str k]/\ws[j]?=some k/\(∀ m,m<j->ws[m]?≠some k)/\Q (.int (j:Nat)) H
theorem BG:FF X "list.index" G7:=by
 intro pins s σ H x xs v us Q I rx rs h;obtain⟨a,ws,k,j,rfl,hH,rfl,hj,hno,q⟩:=h;cases rx;obtain⟨u,rfl,t,rfl⟩:=vals1 rs;obtain⟨z,its,n,r,hl,e⟩:=I.kg hH;obtain⟨t',hit⟩:=gj r j k hj;have hjl:j<ws.length:=(Li.mp hj).1;rw[Ld] at z hl;have hji:j<its.toArray.size:=by rw[Lh];lia
 have sz:(sizeLine:Int)<2^63-1:=by decide
 have hje:its.toArray[j]=.str k t':=by
  have:its.toArray[j]?=some (.str k t'):=by rw[Mj];exact hit
  exact (LN.mp this).2
 have hall:∀(m:Nat) (hm:m<its.toArray.size),∃ y ty,its.toArray[m]=.str y ty/\ws[m]?=some y:=fun m hm=>by
  have hm':m<ws.length:=by rw[Lh] at hm;lia
  have e1:=KY hm';obtain⟨ty,hy⟩:=gj r m _ e1;have:its.toArray[m]?=some (.str ws[m] ty):=by rw[Mj];exact hy
  exact⟨_,ty,(LN.mp this).2,e1⟩
 refine Mr PySem.F.slot_list_index ⟨_,e,rfl⟩ PySem.F.entry_list_index (PySem.F.args_list_index_2 _ _) (SeqAt.list_indexAt a its.toArray n none _ (.str k t) (fun y=>match y with|.str y _=>y == k|_=>false) j hji (by lia) (by rw[hje];exact N5 k) fun m hm hmj=>?_) ⟨e,fun y hy=>?_,⟨.int (j:Nat),H,I.tok _,⟨_,rfl⟩,q⟩⟩
 ·obtain⟨y,ty,ey,ew⟩:=hall m hm;rw[ey];exact MK.mpr fun z=>hno m hmj (by rw[ew,z])
 ·obtain⟨m,hm,rfl⟩:=Array.mem_iff_getElem.mp hy;obtain⟨y,ty,ey,ew⟩:=hall m hm;rw[ey];exact SeqAt.EqAt.str_str _ _ _ _
end Y
open PySem PySem.Spec PyProof PyProof.Rows PySem.W
namespace SP
section
variable (k:Nat->Int)
noncomputable def R(i j:Nat):Prop:=k i<k j\/(k i=k j/\i<j)
variable {k}
theorem R.le{a b:Nat}(h:R k a b):k a<=k b:=by unfold R at h;lia
end
structure PI (n m:Nat) (p:Array Nat) (a:List Nat):Prop where
 eq:p.toList=a++List.range' m (n-m)
 perm:a.Perm (List.range m)
 le:m<=n
section
variable {n m:Nat} {p:Array Nat} {a:List Nat}
theorem PI.len(h:PI n m p a):a.length=m:=by rw[h.perm.length_eq,L7]
theorem PI.lt(h:PI n m p a){x:Nat}(hx:x∈a):x<m:=LZ.mp (h.perm.mem_iff.mp hx)
theorem PI.size(h:PI n m p a):p.size=n:=by
 have:=h.len;have:=h.le;rw[<- LH,h.eq,KW,LU,h.len];lia
theorem PI.at(h:PI n m p a){x:Nat}(hi:a[i]?=some x):p.getD i 0=x:=by
 have:p[i]?=some x:=by
  rw[<- L8,h.eq,MD (Li.mp hi).1];exact hi
 rw[O7,this];rfl
theorem PI.nx(h:PI n m p a)(hm:m<n):p.getD m 0=m:=by
 have:p[m]?=some m:=by
  rw[<- L8,h.eq,Mq (by rw[h.len];exact Lf m),h.len,Oq,List.getElem?_range' (by lia)];simp
 rw[O7,this];rfl
theorem PI.step(h:PI n m p a)(hm:m<n):PI n (m+1) p (a++[m]):=by
 refine⟨?_,?_,hm⟩
 ·rw[h.eq,Ly,show n-m=(n-(m+1))+1 by lia,Me];rfl
 ·rw[MF];exact h.perm.append_right [m]
theorem PI.last(h:PI n m p a){y:Nat}(e:a=b++[y]):p.getD (m-1) 0=y:=by
 refine h.at ?_;have:=h.len;rw[e,KW] at this;simp only[KZ,LI] at this;rw[e,Mq (by lia),show m-1-b.length=0 by lia];rfl
end
theorem wZ{xs:Array α}{l:Nat}{y:α}(hy:xs[k]?=some y)(hl:l<=k):(bubble xs k (k-l)).toList=xs.toList.take l++y::(xs.toList.drop l).take (k-l)++xs.toList.drop (k+1):=by
 have hk:k<xs.size:=(LN.mp hy).1;have hL:xs.toList.length=xs.size:=by simp
 apply OO;intro i;rw[L8,getElem?_bubble hk _ (by lia),show k-(k-l)=l by lia]
 rw[Ly,N7];have ht:(xs.toList.take l).length=l:=by rw[LR];lia
 rw[ht];by_cases h1:i<l
 ·rw[Lg h1,K_ (by lia),K_ (by lia),Nq,Lg h1,L8]
 ·rw[K_ h1];by_cases h2:i=l
  ·subst h2;rw[Lg rfl,Oq,hy];rfl
  ·rw[K_ h2,show i-l=(i-l-1)+1 by lia,MA,Ph,N7]
   have hm:((xs.toList.drop l).take (k-l)).length=k-l:=by rw[LR,Nf];lia
   rw[hm];by_cases h3:i-l-1<k-l
   ·rw[Lg h3,Lg (by lia),Nq,Lg h3,MC,L8]
    congr 1;lia
   ·rw[K_ h3,K_ (by lia),MC,L8]
    congr 1;lia
theorem xX{xs:Array α}(hi:i<=j)(hj:j<=xs.size):(mirror xs i j ((j-i) / 2)).toList=xs.toList.take i++((xs.toList.drop i).take (j-i)).reverse++xs.toList.drop j:=by
 have hL:xs.toList.length=xs.size:=by simp
 apply OO;intro k;rw[L8,getElem?_mirror_all hj,Ly,N7];have ht:(xs.toList.take i).length=i:=by rw[LR];lia
 have hm:((xs.toList.drop i).take (j-i)).length=j-i:=by rw[LR,Nf];lia
 rw[ht];by_cases h1:k<i
 ·rw[Lg h1,K_ (by lia),Nq,Lg h1,L8]
 ·rw[K_ h1,N7,Nk,hm];by_cases h2:k<j
  ·rw[Lg (by lia),Lg (by lia),List.getElem?_reverse (by lia),hm,Nq,Lg (by lia),MC,L8]
   congr 1;lia
  ·rw[K_ (by lia),K_ (by lia),MC,L8]
   congr 1;lia
theorem PI.rev{n:Nat}{p:Array Nat}{c:List Nat}(h:PI n m p (b++c)):PI n m (kas_rev p b.length m) (b++c.reverse):=by
 have hl:b.length+c.length=m:=by rw[<- h.len,KW]
 refine⟨?_,((List.reverse_perm c).append_left b).trans h.perm,h.le⟩;unfold kas_rev;rw[xX (by lia) (by rw[h.size];exact h.le),h.eq,Ly b c,List.take_left,List.drop_left,show m-b.length=c.length by lia,List.take_left,<- Ly b c,List.drop_left' (by rw[KW];exact hl)]
theorem mW(h:a.length=m)(hm:1<=m):∃ b y,a=b++[y]:=by
 rcases List.eq_nil_or_concat a with rfl|⟨b,y,rfl⟩
 ·cases h;exact absurd hm (by decide)
 ·exact⟨b,y,by simp⟩
section
variable {k:Nat->Int} {n:Nat} {cmp:Nat->Nat->(Bool->Shared->Prop)->Shared->Prop} {I:Shared->Prop}
noncomputable def oh(k:Nat->Int)(n:Nat)(cmp:Nat->Nat->(Bool->Shared->Prop)->Shared->Prop)(I:Shared->Prop):Prop:=∀ i j C s,i<n->j<n->I s->(∀ s',I s'->C (decide (k i<k j)) s')->cmp i j C s
theorem qY(hc:oh k n cmp I){p:Array Nat}{G:Nat->Shared->Prop}:∀(f m:Nat) (a:List Nat) (s:Shared),PI n m p a->1<=m->f=n-m->a.Pairwise (R k)->I s ->
  (∀ m' a' s',PI n m' p a'->m<=m'->a'.Pairwise (R k)->I s'->(∀ b y,a'=b++[y]->m'<n->k m'<k y)->G m' s')->(kas_asc p f m).kasWp cmp G s
 |0,m,a,s,h,h1,hf,hp,hI,g=>g m a s h (Lf m) hp hI fun _ _ _ hl=>by have:=h.le;lia
 |f+1,m,a,s,h,h1,hf,hp,hI,g=>by
  have hm:m<n:=by lia
  obtain⟨b,y,e⟩:=mW h.len h1;show cmp (p.getD m 0) (p.getD (m-1) 0) _ s;rw[h.nx hm,h.last e];have hy:y<m:=h.lt (by rw[e];simp)
  refine hc m y _ s hm (by lia) hI fun s' hI'=>?_
  by_cases c:k m<k y
  ·rw[Mi c];exact g m a s' h (Lf m) hp hI' fun b' y' e' _=>by
    rw[e] at e';have:[y]=[y']:=(List.append_inj' e' rfl).2
    cases this;exact c
  ·rw[L0 c];refine qY hc f (m+1) (a++[m]) s' (h.step hm) (by lia) (by lia) ?_ hI' fun m' a' s2 h' hm' hp' hI2 gl=>g m' a' s2 h' (by lia) hp' hI2 gl
   refine My.mpr ⟨hp,by simp,fun x hx z hz=>?_⟩
   rw[Ln.mp hz];have hxm:=h.lt hx;have:k x<=k y:=by
    rw[e] at hx hp;rcases L1.mp hx with hx|hx
    ·exact ((My.mp hp).2.2 x hx y (by simp)).le
    ·rw[Ln.mp hx];exact MR _
   unfold R;lia
structure DI (k:Nat->Int) (b c:List Nat):Prop where
 EM:b.Pairwise fun x y=>R k y x
 less:∀ y∈b,∀ x∈c,k x<k y
 one:∀ x∈c,∀ y∈c,k x=k y
 up:c.Pairwise (· < ·)
theorem DI.rise{c:List Nat}(h:DI k b c):(b++c.reverse).reverse.Pairwise (R k):=by
 rw[O0,Ot];refine My.mpr ⟨?_,Ob.mpr h.EM,fun x hx y hy=>.inl (h.less y (NZ.mp hy) x hx)⟩;exact Pc (fun {x y} hx hy hl=>.inr ⟨h.one x hx y hy,hl⟩) h.up
theorem DI.next{c:List Nat}{x:Nat}(h:DI k b c)(hc:c≠[])(hx:∀ y∈c,k x<k y):DI k (b++c.reverse) [x]:=by
 refine⟨My.mpr ⟨h.EM,Ob.mpr (Pc (fun {x y} hx hy hl=>.inr ⟨h.one x hx y hy,hl⟩) h.up),fun y hy z hz=>.inl (h.less y hy z (NZ.mp hz))⟩,fun y hy z hz=>?_,fun y hy z hz=>?_,by simp⟩
 ·rw[Ln.mp hz];rcases L1.mp hy with hy|hy
  ·obtain⟨w,hw⟩:=OR c hc;exact Int.lt_trans (hx w hw) (h.less y hy w hw)
  ·exact hx y (NZ.mp hy)
 ·rw[Ln.mp hy,Ln.mp hz]
theorem DI.more{c:List Nat}{x:Nat}(h:DI k b c)(he:∀ y∈c,k x=k y)(hc:c≠[])(hl:∀ y∈c,y<x):DI k b (c++[x]):=by
 refine⟨h.EM,fun y hy z hz=>?_,fun y hy z hz=>?_,My.mpr ⟨h.up,by simp,fun y hy z hz=>by rw[Ln.mp hz];exact hl y hy⟩⟩
 ·rcases L1.mp hz with hz|hz
  ·exact h.less y hy z hz
  ·rw[Ln.mp hz];obtain⟨w,hw⟩:=OR c hc;rw[he w hw];exact h.less y hy w hw
 ·rcases L1.mp hy with hy|hy<;>rcases L1.mp hz with hz|hz
  ·exact h.one y hy z hz
  ·rw[Ln.mp hz];exact (he y hy).symm
  ·rw[Ln.mp hy];exact he z hz
  ·rw[Ln.mp hy,Ln.mp hz]
theorem iN(hc:oh k n cmp I){G:Array Nat×Nat×Nat->Shared->Prop}:∀(f:Nat) (p:Array Nat) (m q:Nat) (b c:List Nat) (s:Shared),PI n m p (b++c)->c.length=q+1->DI k b c->f=n-m->I s ->
  (∀ p' m' q' b' c' s',PI n m' p' (b'++c')->c'.length=q'+1->DI k b' c'->I s'->G (p',m',q') s')->(kas_desc f p m q).kasWp cmp G s
 |0,p,m,q,b,c,s,h,hl,hd,hf,hI,g=>g p m q b c s h hl hd hI
 |f+1,p,m,q,b,c,s,h,hl,hd,hf,hI,g=>by
  have hm:m<n:=by lia
  obtain⟨c0,y,e⟩:=mW hl (by lia)
  have hbl:b.length+(q+1)=m:=by rw[<- hl,<- KW,h.len]
  have ne:c≠[]:=by rw[e];simp
  have hy:y∈c:=by rw[e];simp
  have hya:y<m:=h.lt (L5 _ hy);have e1:p.getD m 0=m:=h.nx hm;have e2:p.getD (m-1) 0=y:=h.last (b:=b++c0) (by rw[e,Ly])
  show cmp (p.getD m 0) (p.getD (m-1) 0) _ s;rw[e1,e2];refine hc m y _ s hm (by lia) hI fun s' hI'=>?_
  by_cases c1:k m<k y
  ·rw[Mi c1];have hx:∀ z∈c,k m<k z:=fun z hz=>by rw[hd.one z hz y hy];exact c1
   show KasT.kasWp cmp (if q > 0 then _ else _) G s'
   by_cases hq:q > 0
   ·rw[Lg hq,show m-(q+1)=b.length by lia]
    exact iN hc f _ (m+1) 0 (b++c.reverse) [m] s' (h.rev.step hm) rfl (hd.next ne hx) (by lia) hI' g
   ·rw[K_ hq];have e3:c.reverse=c:=by
     have:c.length=1:=by lia
     obtain⟨z,rfl⟩:=Nt.mp this;rfl
    exact iN hc f p (m+1) 0 (b++c.reverse) [m] s' (by rw[e3];exact h.step hm) rfl (hd.next ne hx) (by lia) hI' g
  ·rw[L0 c1];show cmp y m _ s';refine hc y m _ s' (by lia) hm hI' fun s2 hI2=>?_
   by_cases c2:k y<k m
   ·rw[Mi c2];exact g p m q b c s2 h hl hd hI2
   ·rw[L0 c2];refine iN hc f p (m+1) (q+1) b (c++[m]) s2 (by rw[<- Ly];exact h.step hm) (by rw[KW,hl];rfl) (hd.more (fun z hz=>?_) ne fun z hz=>h.lt (L5 _ hz)) (by lia) hI2 g
    rw[hd.one z hz y hy];lia
theorem tD(hc:oh k n cmp I){G:Nat×Array Nat->Shared->Prop}{p:Array Nat}(h:PI n m p a)(h1:1<=m)(hr:a.reverse.Pairwise (R k))(hI:I s)
  (g:∀ m' p' a' s',PI n m' p' a'->1<=m'->a'.Pairwise (R k)->I s'->G (m',p') s'):(kas_tail3 m n p).kasWp cmp G s:=by
 unfold kas_tail3;rw[NH];have hv:=PI.rev (b:=[]) (c:=a) h;exact qY hc (n-m) m a.reverse s hv h1 rfl hr hI fun m' a' s' h' hm' hp' hI' _=>g m' _ a' s' h' (by lia) hp' hI'
theorem rP(hc:oh k n cmp I){G:Nat×Array Nat->Shared->Prop}{p:Array Nat}(h:PI n m p a)(hm:m<n)(hd:DI k a [m])(hI:I s)
  (g:∀ m' p' a' s',PI n m' p' a'->1<=m'->a'.Pairwise (R k)->I s'->G (m',p') s'):(kas_descPart m n p).kasWp cmp G s:=by
 unfold kas_descPart;rw[NH];refine iN hc (n-(m+1)) p (m+1) 0 a [m] s (h.step hm) rfl hd rfl hI fun p' m' q' b' c' s' h' hl' hd' hI'=>?_;have hbl:b'.length+(q'+1)=m':=by rw[<- hl',<- KW,h'.len]
 show KasT.kasWp cmp (if q' > 0 then _ else _) G s'
 by_cases hq:q' > 0
 ·rw[Lg hq];show (kas_tail3 m' n (kas_rev p' (m'-(q'+1)) m')).kasWp cmp G s';rw[show m'-(q'+1)=b'.length by lia]
  exact tD hc h'.rev (by lia) hd'.rise hI' g
 ·rw[K_ hq];have e3:c'.reverse=c':=by
   have:c'.length=1:=by lia
   obtain⟨z,rfl⟩:=Nt.mp this;rfl
  exact tD hc h' (by lia) (by rw[<- e3];exact hd'.rise) hI' g
theorem xi(hc:oh k n cmp I){G:Nat×Array Nat->Shared->Prop}(hn:1<=n)(hI:I s)
  (g:∀ m' p' a' s',PI n m' p' a'->1<=m'->a'.Pairwise (R k)->I s'->G (m',p') s'):(kas_count n (List.toArray (List.range n))).kasWp cmp G s:=by
 unfold kas_count;rw[NH];have h0:PI n 1 (List.toArray (List.range n)) [0]:=by
  refine⟨?_,List.Perm.refl _,hn⟩;show List.range n=[0]++List.range' 1 (n-1);rw[Mp,show n=(n-1)+1 by lia,Me];rfl
 refine qY hc (n-1) 1 [0] s h0 (Lf 1) rfl (by simp) hI fun m a s' h hm hp hI' gl=>?_
 show KasT.kasWp cmp (if (m == n)=true then _ else _) G s'
 by_cases e:m=n
 ·subst e;rw[Lg (N5 m)];exact g m _ a s' h hm hp hI'
 ·rw[K_ (by simpa using e)]
  have hmn:m<n:=by have:=h.le;lia
  obtain⟨b,y,ea⟩:=mW h.len hm;have ky:=gl b y ea hmn;have hya:y<m:=h.lt (by rw[ea];simp)
  by_cases h2:m > 1
  ·rw[Lg h2];obtain⟨x,r,ex⟩:∃ x r,a=x::r:=by
    cases a with
    |nil=>have:=h.len;rw[LI] at this;lia
    |cons x r=>exact⟨x,r,rfl⟩
   have hxa:x<m:=h.lt (by rw[ex];simp)
   show cmp ((List.toArray (List.range n)).getD 0 0) ((List.toArray (List.range n)).getD (m-1) 0) _ s';rw[h.at (i:=0) (x:=x) (by rw[ex];rfl),h.last ea]
   refine hc x y _ s' (by lia) (by lia) hI' fun s2 hI2=>?_
   by_cases c:k x<k y
   ·rw[Mi c];exact g m _ a s2 h hm hp hI2
   ·rw[L0 c];have hv:=PI.rev (b:=[]) (c:=a) h;refine rP hc hv hmn ⟨Ob.mpr hp,fun z hz w hw=>?_,fun z hz w hw=>by rw[Ln.mp hz,Ln.mp hw],by simp⟩ hI2 g
    rw[Ln.mp hw];have hz':=NZ.mp hz;have hxz:k x<=k z:=by
     rw[ex] at hz' hp;rcases Ll.mp hz' with rfl|hz'
     ·exact MR _
     ·exact ((LG.mp hp).1 z hz').le
    lia
  ·rw[K_ h2];have hm1:m=1:=by lia
   have hb:b=[]:=by
    have:=h.len;rw[ea,KW,hm1] at this;simp only[KZ,LI] at this;exact Pj.mp (by lia)
   subst hb;refine rP hc h hmn ⟨by rw[ea];simp,fun z hz w hw=>?_,fun z hz w hw=>by rw[Ln.mp hz,Ln.mp hw],by simp⟩ hI' g
   rw[Ln.mp hw];rw[ea] at hz;rw[Ln.mp hz];exact ky
theorem jQ(hc:oh k n cmp I){G:Nat->Shared->Prop}{t:Nat}{p:Array Nat}(h:PI n t p a)(ht:t<n)(hp:a.Pairwise (R k)):∀(f l r:Nat) (s:Shared),l<=r->r<=t->r-l<=f->(∀ i x,i<l->a[i]?=some x->k x<=k t)->(∀ i x,r<=i->a[i]?=some x->k t<k x)->I s ->
  (∀ l' s',l'<=t->(∀ i x,i<l'->a[i]?=some x->k x<=k t)->(∀ i x,l'<=i->a[i]?=some x->k t<k x)->I s'->G l' s')->(kas_place p t f l r).kasWp cmp G s
 |0,l,r,s,h1,h2,h3,hlo,hhi,hI,g=>g l s (by lia) hlo (fun i x hi e=>hhi i x (by lia) e) hI
 |f+1,l,r,s,h1,h2,h3,hlo,hhi,hI,g=>by
  show KasT.kasWp cmp (if l >= r then _ else _) G s
  by_cases hlr:l >= r
  ·rw[Lg hlr];exact g l s (by lia) hlo (fun i x hi e=>hhi i x (by lia) e) hI
  ·rw[K_ hlr];have hmid:(l+r) / 2<a.length:=by rw[h.len];lia
   have em:a[(l+r) / 2]?=some a[(l+r) / 2]:=KY hmid;have hma:a[(l+r) / 2]<t:=h.lt (LL hmid);have mono:∀ i j x y,i<=j->a[i]?=some x->a[j]?=some y->k x<=k y:=fun i j x y hij ex ey=>by
    rcases M5 i j with c|c
    ·obtain⟨hi,rfl⟩:=Li.mp ex;obtain⟨hj,rfl⟩:=Li.mp ey;exact (NI.mp hp i j hi hj c).le
    ·have:i=j:=Nat.le_antisymm hij c;subst this;rw[ex] at ey;cases ey;exact MR _
   show cmp (p.getD t 0) (p.getD ((l+r) / 2) 0) _ s;rw[h.nx ht,h.at em];refine hc t _ _ s ht (by lia) hI fun s' hI'=>?_
   by_cases c:k t<k a[(l+r) / 2]
   ·rw[Mi c];exact jQ hc h ht hp f l ((l+r) / 2) s' (by lia) (by lia) (by lia) hlo (fun i x hi e=>Int.lt_of_lt_of_le c (mono _ i _ x hi em e)) hI' g
   ·rw[L0 c];exact jQ hc h ht hp f ((l+r) / 2+1) r s' (by lia) h2 (by lia) (fun i x hi e=>PZ (mono i _ x _ (by lia) e em) (by lia)) hhi hI' g
theorem vX(hc:oh k n cmp I){G:Array Nat->Shared->Prop}:∀(f:Nat) (p:Array Nat) (t:Nat) (a:List Nat) (s:Shared),PI n t p a->a.Pairwise (R k)->f=n-t->I s ->
  (∀ p' a' s',PI n n p' a'->a'.Pairwise (R k)->I s'->G p' s')->(kas_bin f p t).kasWp cmp G s
 |0,p,t,a,s,h,hp,hf,hI,g=>by
  have:t=n:=by have:=h.le;lia
  subst this;exact g p a s h hp hI
 |f+1,p,t,a,s,h,hp,hf,hI,g=>by
  have ht:t<n:=by lia
  show KasT.kasWp cmp ((kas_place p t t 0 t).bind _) G s;rw[NH];refine jQ hc h ht hp t 0 t s (LA _) (Lf _) (by lia) (fun i x hi _=>absurd hi (NG i)) (fun i x hi e=>?_) hI fun l s' hl hlo hhi hI'=>?_
  ·have:=(Li.mp e).1;rw[h.len] at this;lia
  ·have et:p[t]?=some t:=by
    rw[<- L8,h.eq,Mq (by rw[h.len];exact Lf t),h.len,Oq,List.getElem?_range' (by lia)];simp
   have hla:l<=a.length:=by rw[h.len];exact hl
   have e1:(bubble p t (t-l)).toList=(a.take l++t::a.drop l)++List.range' (t+1) (n-(t+1)):=by
    rw[wZ et hl,h.eq,List.take_append_of_le_length hla,List.drop_append_of_le_length hla,show n-t=(n-(t+1))+1 by lia,Me]
    have e2:(a.drop l).length=t-l:=by rw[Nf,h.len]
    have e3:∀ r:List Nat,(a++t::r).drop (t+1)=r:=fun r=>by
     rw[show a++t::r=(a++[t])++r by simp]
     exact List.drop_left' (by rw[KW,h.len];rfl)
    rw[List.take_left' e2,e3]
   have hP:PI n (t+1) (bubble p t (t-l)) (a.take l++t::a.drop l):=by
    refine⟨e1,?_,ht⟩;have:(a.take l++t::a.drop l).Perm (a++[t]):=by
     have h1:(a.take l++t::a.drop l).Perm (t::(a.take l++a.drop l)):=LW;rw[Mk] at h1;exact h1.trans (List.perm_append_singleton t a).symm
    rw[MF];exact this.trans (h.perm.append_right [t])
   refine vX hc f _ (t+1) _ s' hP ?_ (by lia) hI' g
   have hp1:=(Mk l a) ▸ hp;obtain⟨q1,q2,q3⟩:=My.mp hp1;refine My.mpr ⟨q1,LG.mpr ⟨fun x hx=>?_,q2⟩,fun x hx y hy=>?_⟩
   ·obtain⟨i,hi⟩:=N3.mp hx;rw[MC] at hi;exact .inl (hhi (l+i) x (by lia) hi)
   ·rcases Ll.mp hy with rfl|hy
    ·obtain⟨i,hi⟩:=N3.mp hx;rw[Nq] at hi
     split at hi
     ·rename_i hil;have:=hlo i x hil hi;have hxt:=h.lt (Ov hx);unfold R;lia
     ·cases hi
    ·exact q3 x hx y hy
theorem An(hc:oh k n cmp I){G:Array Nat->Shared->Prop}(hn:1<=n)(hI:I s)(g:∀ p s',p.toList.Perm (List.range n)->p.toList.Pairwise (R k)->I s'->G p s'):(kas_sort n).kasWp cmp G s:=by
 unfold kas_sort;rw[NH];have fin:∀ p a s',PI n n p a->a.Pairwise (R k)->I s'->G p s':=fun p a s' h hp hI'=>by
  have e:p.toList=a:=by rw[h.eq,Oq,List.range'_zero,L3]
  refine g p s' ?_ ?_ hI'<;>rw[e]
  ·exact h.perm
  ·exact hp
 refine xi hc hn hI fun m p a s' h h1 hp hI'=>?_;show KasT.kasWp cmp (if m<n then _ else _) G s'
 by_cases hm:m<n
 ·rw[Lg hm];show (kas_bin (n-max m 1) p (max m 1)).kasWp cmp G s';rw[show max m 1=m by lia]
  exact vX hc (n-m) p m a s' h hp rfl hI' fin
 ·rw[K_ hm];have:m=n:=by have:=h.le;lia
  subst this;exact fin p a s' h hp hI'
end
end SP
abbrev D_(qual:Str)(scope:Scope)(L f:Addr)(cd:Value)(cl:List (Str×Addr)):Env:=PySem.W.envX qual scope L f cd cl
noncomputable def sG(X:Cx)(A:Around)(N:List Str)(qual:Str)(scope:Scope)(f:Addr)(cd:Value)(cl:List (Str×Addr))(s:Shared)(H:Hp):Cx where
 prog:=X.prog
 w:=X.w
 K:=X.K
 mg:=X.mg
 base:=X.base
 A:=A.deeper (D_ qual scope s.heap.objs.size f cd cl)
 N:=N
 s₀:=s
 H₀:=H
 env:=D_ qual scope s.heap.objs.size f cd cl
 outer:=X.stack
 stack:=D_ qual scope s.heap.objs.size f cd cl::X.stack
 ex:=[]
 calm:=true
 fn:=fun _=>false
 pn:=[]
 xe:=fun _ _=>False
section
variable {X:Cx} {pins:List (Addr×Obj)} {σ:St} {H:Hp} {s:Shared}
theorem B9(I:Inv X pins σ H s){A:Around}(hA:A.frames=some X.stack)(hd:A.handled=none){qual:Str}{v:V}{u:Value}{cd:Value}{h₁:Heap}{tk:Nat}
  (hk:scope.kind=.function) (rv:RelV v u) (hloc:scope.names.lookup x=some .local) (hns:h₁.Ns s.heap.objs.size (fun y=>[(x,u)].reverse.lookup y)) (old:∀ b o,s.heap.get? b=some o->h₁.get? b=some o)
  (hlen:σf.length=N.length) (hcl:∀ y c,cl.lookup y=some c->X.env.cells.lookup y=some c) (hhas:∀ y,(scope.names.lookup y=some .cell\/scope.names.lookup y=some .free)->∃ c,cl.lookup y=some c)
  (hf:∀(i:Nat) (y:Str) (v:V),N[i]?=some y->σf[i]?=some (some v)->scope.names.lookup y=some .free/\∃ c u,cl.lookup y=some c/\s.heap.IsCell c (some u)/\RelV v u) :
  Inv (sG X A (x::N) qual scope f cd cl s H) [] (some v::σf) H {s with heap:=h₁,toks:=tk}:=by
 have noA:∀ b:Addr,b∉(sG X A (x::N) qual scope f cd cl s H).ex:=fun b z=>absurd (show b∈([]:List Addr) from z) (by simp)
 refine⟨⟨I.ok.mod,hk,rfl,rfl,Lf _,fun y z c e1 e2=>I.ok.inj y z c (hcl y c e1) (hcl z c e2),hhas,fun y c z _=>(by cases z),fun _=>hd,Around.frames_deeper hA,.inr ⟨rfl,rfl⟩,fun b z=>absurd z (noA b),I.bs,Lr I.ok.Ae I.sz,fun b _ _=>noA b,fun b z=>absurd z (noA b),I.stack,I.iF,I.ok.tabs.un I.base⟩,
  rfl,I.bare,Un.kept old,⟨_,hns,fun i y w e1 e2 e3=>?_⟩,fun y c e=>?_,I.aD.fresh (Lf _),fun y c e=>I.dw y c (hcl y c e),fun p hp=>absurd (show p∈([]:List (Addr×Obj)) from hp) (by simp),I.aD.kept old,?_⟩
 ·cases i with
  |zero =>
   have e1':some x=some y:=e1;have e2':some (some v)=some (some w):=e2
   cases e1';cases e2'
   exact⟨u,rv,.inl ⟨hloc,by simp⟩⟩
  |succ i =>
   obtain⟨h1,c,u',h2,h3,h4⟩:=hf i y w e1 e2;obtain⟨o,ho,hd'⟩:=h3;exact⟨u',h4,.inr ⟨.inr h1,c,h2,o,old _ _ ho,hd'⟩⟩
 ·obtain⟨v',o,ho,hd'⟩:=I.cell y c (hcl y c e);exact⟨v',o,old _ _ ho,hd'⟩
 ·show (some v::σf).length=(x::N).length;rw[KZ,KZ,hlen]
theorem xl(I:Inv X pins σ H s){A:Around}(hr:aQ (k+1) A)(hA:A.frames=some X.stack){qual:Str}{v:V}{u:Value}{f:Addr}{t:TE}{Q:VK}
  (hk:scope.kind=.function) (hco:scope.isCoroutine=false) (hgen:scope.isGenerator=false) (hcell:∀ y∈scope.names,y.2≠.cell) (rv:RelV v u) (hloc:scope.names.lookup x=some .local)
  (ho:s.heap.get? f=some (PySem.W.kla_obj "<lambda>" qual params body scope cl pm c' ctv)) (hcd:s.heap.CodeRec (.ref c') qual)
  (hbind:∀ u,bindArgs (PySem.W.kla_fn "<lambda>" qual params body scope cl pm (.ref c') ctv) ⟨[u],[]⟩=pure [(x,u)])
  (hlen:σf.length=N.length) (hcl:∀ y c,cl.lookup y=some c->X.env.cells.lookup y=some c) (hhas:∀ y,(scope.names.lookup y=some .cell\/scope.names.lookup y=some .free)->∃ c,cl.lookup y=some c)
  (hf:∀(i:Nat) (y:Str) (v:V),N[i]?=some y->σf[i]?=some (some v)->scope.names.lookup y=some .free/\∃ c u,cl.lookup y=some c/\s.heap.IsCell c (some u)/\RelV v u)
  (hb:PE (sG X A (x::N) qual scope f (.ref c') cl s H) body t) (hq:t (some v::σf) H Q) :
  wpAny (model X.prog X.w) A (call (.ref f) [u]) (EP X pins σ Q) (fun _ _=>False) s:=by
 refine wpAny_call (PySem.W.kla_callFunE hr.depth ho rfl hco hgen rfl hcd ?_);rw[hbind];refine Lk (wpAny_newFunctionEnv hcell (fun y hy=>by rw[Ln.mp hy];exact hloc) (fun h₁ hns hsb=>⟨I.nolimit.fresh _ hsb,?_⟩) hk)
 have old:∀ b o,s.heap.get? b=some o->h₁.get? b=some o:=fun b o e=>hsb.extBut b o (L9 (Lq e)) (KU _ e);have J:=B9 (tk:=s.toks+1) (qual:=qual) (f:=f) (cd:=.ref c') I hA hr.hd hk rv hloc hns old hlen hcl hhas hf;refine PySem.W.kla_codeExpr (Mg (hb [] _ _ H Q J hq) (fun w s' h=>?_) fun _ _ h=>h.elim);obtain⟨v',H',J',r',q'⟩:=h;exact I.after ⟨v',H',J'.os,J'.bare,J'.base,J'.aD,r',q'⟩
end
inductive dD:Hp->Hp->Prop
 |refl {H:Hp}:dD H H
 |more {H H1:Hp} {p:Addr} {o:HO}:dD H H1->H1 p=none->dD H (upd H1 p o)
theorem dD.same(g:dD H H1):ba H H1:=by
 induction g with
 |refl=>exact ba.refl _
 |more g n ih=>exact fun b o e=>by rw[af (ao (ih b o e) n)];exact ih b o e
theorem dD.trans{H2:Hp}(a:dD H H1)(b:dD H1 H2):dD H H2:=by
 induction b with
 |refl=>exact a
 |more _ n ih=>exact .more ih n
theorem iy{i j:Int}{ti tj:Tok}{c:Value}:∀ l:List Value,TriplesOk l->TriplesOk (l++[.int i ti,.int j tj,c])
 |[],_=>trivial
 |.int _ _::.int _ _::_::r,h=>iy r (show TriplesOk r from h)
theorem lg{i j:Int}{ti tj:Tok}{c cv:Value}:∀ l:List Value,TriplesOk l->codeAmong p (l++[.int i ti,.int j tj,c])=some cv->codeAmong p l=some cv\/cv=c
 |[],_,e=>by
  have e':(if (i == p.line && j == p.col)=true then some c else codeAmong p [])=some cv:=e
  by_cases z:(i == p.line && j == p.col)=true
  ·rw[Lg z] at e';cases e';exact .inr rfl
  ·rw[K_ z] at e';cases e'
 |.int a ta::.int b tb::d::r,h,e=>by
  have e':(if (a == p.line && b == p.col)=true then some d else codeAmong p (r++[.int i ti,.int j tj,c]))=some cv:=e
  show (if (a == p.line && b == p.col)=true then some d else codeAmong p r)=some cv\/_
  by_cases z:(a == p.line && b == p.col)=true
  ·rw[Lg z] at e' ⊢;exact .inl e'
  ·rw[K_ z] at e' ⊢;exact lg r (show TriplesOk r from h) e'
theorem tH(q:Str)(more:Array Value):xn (#[.str q 0]++more)=q:=by
 unfold xn;rw[NC];rfl
structure iw (H:Hp) (f:Addr) (q:Str) (params:Arguments) (body:Expr) (scope:Scope) (cl:List (Str×Addr)) (c':Addr) (pm ctv:Value):Prop where
 fn:H f=some (.gK (PySem.W.kla_obj "<lambda>" q params body scope cl pm c' ctv) (.own f))
 cd:CT H q (.ref c')
section
variable {X:Cx} {pins:List (Addr×Obj)} {σ:St} {H:Hp} {s:Shared} {E:Value->Shared->Prop}
theorem iw.up(x:iw H f q params body scope cl c' pm ctv)(g:∀ b o u,H b=some (.gK o u)->H1 b=some (.gK o u)):iw H1 f q params body scope cl c' pm ctv:=
 ⟨g _ _ _ x.fn,let ⟨c,oc,vs,t,e1,e2,e3⟩:=x.cd;⟨c,oc,vs,t,e1,g _ _ _ e2,e3⟩⟩
theorem iw.get(x:iw H f q params body scope cl c' pm ctv)(I:Inv X pins σ H s):
  s.heap.get? f=some (PySem.W.kla_obj "<lambda>" q params body scope cl pm c' ctv)/\s.heap.CodeRec (.ref c') q:=by
 obtain⟨c,oc,vs,t,e1,e2,e3,e4⟩:=x.cd;exact⟨(I.aD f _ x.fn).1,c,oc,vs,t,e1,(I.aD c _ e2).1,e3,e4⟩
theorem Inv.yd{o:Obj}{t':Nat}(I:Inv X pins σ H s)(k:∀ b u,s.heap.get? b=some u->h'.get? b=some u)(hp:s.heap.objs.size<=f)(e:h'.get? f=some o):Inv X pins σ (upd H f (.gK o (.own f))) {s with heap:=h',toks:=t'}:=
 I.laid k hp ⟨e,o,e⟩
theorem zC(I:Inv X pins σ H s){P:Addr}(hx:x∈cQ)(ht:PySem.W.tabIn X.K x=some (c,P))(hcode:X.env.code=.ref c)(hq:X.env.qual=x++".<locals>."){pos:Pos}
  (hdef:defaultsOf params X.env=([],[])) (hcl:closureFor scope X.env=pure cl)
  (h:∀ f c' pm ctv H1 s1,dD H H1->Inv X pins σ H1 s1->iw H1 f ((x++".<locals>.")++"<lambda>") params body scope cl c' pm ctv->Q (.ref f) s1) :
  wpAny (model X.prog X.w) X.A (eval (.Lambda params body scope pos) X.env) Q E s:=by
 have hm:(c,P,(x++".<locals>.")++"<lambda>")∈bA X.K:=NL.mpr ⟨x,hx,by rw[ht];rfl⟩
 obtain⟨more,hP⟩:=(I.ok.tabs.un I.base) _ hm;have C:PySem.W.CodeHd s.heap c P:=(I.ok.mod.codes _ hm).keeps I.bk;obtain⟨qs,eP,tr,fa⟩:=I.aD P _ hP;have hns:=I.ok.mod.glob.keeps I.bk;have hgP:mainGlobals≠P:=fun z=>by
  obtain⟨o,es,ep,e,_⟩:=I.ok.mod.glob;have:=(I.bs _ _ e).2;rw[z,hP] at this;cases this
 have hb:s.heap.BuiltinsAt X.mg P:=by
  obtain⟨bm,ob,b1,b2,b3,b4,b5⟩:=I.ok.mod.bm;refine⟨bm,ob,b1,b2,fun z=>?_,fun z=>?_,I.bk _ _ b3,b4,b5⟩
  ·obtain⟨o,es,ep,e,hd,_⟩:=I.ok.mod.glob;rw[z,e] at b3;cases b3;rw[hd] at b5;cases b5.2
  ·have:=(I.bs _ _ b3).2;rw[z,hP] at this;cases this
 refine PySem.W.kla_eval hdef ?_;rw[hq]
 cases ca:codeAmong pos qs.toList with
 |some cv =>
  have il:=fa pos cv ca;rw[tH] at il;obtain⟨c',oc,vs,t,rfl,e2,e3⟩:=il;refine PySem.W.kla_makeFunctionHit hcl I.ok.glob hns hcode C eP tr ca hb fun ctv h' tk hk hsz=>?_;have n0:H h'.objs.size=none:=I.aD.fresh hsz;have J:=I.yd (f:=h'.objs.size) (t':=tk) (h':=h'.push {cls:=.type "function",data:=.func (PySem.W.kla_fn "<lambda>" ((x++".<locals>.")++"<lambda>") params body scope cl ((X.mg "__name__").getD .none) (.ref c') ctv)}) (fun b u e=>KU _ (hk b u e)) hsz (Lo _ rfl);exact h _ c' _ ctv _ _ (.more .refl n0) J ⟨ah,c',oc,vs,t,rfl,by rw[af (ao e2 n0)];exact e2,e3⟩
 |none =>
  refine PySem.W.kla_makeFunction hcl I.ok.glob hns hcode C eP tr ca hgP hb fun c' ctv h' tk hx2 hge hlt hrec htb=>?_;obtain⟨c2,oc,vs,t,e2,hoc,hd,hv⟩:=hrec;cases e2;have nP:P≠c':=fun z=>absurd (Lq eP) (by rw[z];exact PJ.mpr hge)
  have n1:H c'=none:=I.aD.fresh hge;have keep:∀ b u,b≠P->s.heap.get? b=some u->h'.get? b=some u:=fun b u hb' e=>hx2 b u hb' e;have H1ne:∀ b u,H b=some u->upd H c' (.gK oc (.own c')) b=some u:=fun b u e=>by rw[af (ao e n1)];exact e
  have hoP:∀ y,H P≠some (.own y):=fun y z=>by rw[hP] at z;cases z
  have J1:Inv X pins σ (upd H c' (.gK oc (.own c'))) {s with heap:=h',toks:=tk}:=by
   refine I.un ⟨fun b o e n _ _=>keep b o (fun z=>by rw[z,hP] at n;cases n) e,fun b o e n _ _=>⟨o.slots,keep b o (fun z=>by rw[z,hP] at n;cases n) e⟩,fun b o e n _=>?_,fun b o e _=>?_,fun b xs e=>H1ne b _ e,fun b o u e=>H1ne b _ e,fun b ps e=>⟨#[],by rw[H1ne b _ e,O5]⟩⟩ fun b u e=>?_
   ·rw[af (fun z=>absurd (Lq e) (by rw[z];exact PJ.mpr hge))];exact n
   ·by_cases z:b=P
    ·rw[z];exact⟨_,htb⟩
    ·exact⟨o,keep b o z e⟩
   ·by_cases z:b=c'
    ·subst z;rw[ah] at e;cases e;exact⟨hoc,oc,hoc⟩
    ·rw[af z] at e;by_cases z2:b=P
     ·subst z2;rw[hP] at e;cases e;refine⟨_,htb,by rw[NC];exact iy _ tr,fun p cv hc=>?_⟩
      rw[NC] at hc;rcases lg _ tr hc with q|q
      ·obtain⟨c2,oc2,vs2,t2,g1,g2,g3⟩:=fa p cv q;exact⟨c2,oc2,vs2,t2,g1,H1ne _ _ g2,g3⟩
      ·rw[tH];exact⟨c',oc,vs,t,q,ah,hd,hv⟩
     ·refine (I.aD b u e).jz (fun c v hc q=>keep c v ?_ q) (fun c q=>H1ne c _ q) (fun c xs q=>H1ne c _ q) fun c _ _ q=>H1ne c _ q;rcases hc with rfl|hc
      ·exact z2
      ·exact fun z3=>hoP b (by rw[<- z3];exact hc)
  have n2:upd H c' (.gK oc (.own c')) h'.objs.size=none:=J1.aD.fresh (Lf _);have J:=J1.yd (f:=h'.objs.size) (t':=tk) (h':=h'.push (PySem.W.kla_obj "<lambda>" ((x++".<locals>.")++"<lambda>") params body scope cl ((X.mg "__name__").getD .none) c' ctv)) (fun b u e=>KU _ e) (Lf _) (Lo _ rfl);exact h _ c' _ ctv _ _ (.more (.more .refl n1) n2) J ⟨ah,c',oc,vs,t,rfl,by rw[af (ao ah n2)];exact ah,hd,hv⟩
end
section
variable {α β:Type}
noncomputable def gc(p:Int×α):List (Int×α)->List (Int×α)
 |[]=>[p]
 |q::r=>if p.1<=q.1 then p::q::r else q::gc p r
noncomputable def e9:List (Int×α)->List (Int×α)
 |[]=>[]
 |p::r=>gc p (e9 r)
abbrev FC(l:List (Int×α)):Prop:=l.Pairwise fun p q=>p.1<=q.1
noncomputable def atK(a:Int)(l:List (Int×α)):List (Int×α):=l.filter fun p=>decide (p.1=a)
theorem fw(p:Int×α):∀ l,(gc p l).Perm (p::l)
 |[]=>.refl _
 |q::r=>by
  unfold gc;split
  ·exact .refl _
  ·exact ((fw p r).cons q).trans (List.Perm.swap p q r)
theorem bU:∀ l:List (Int×α),(e9 l).Perm l
 |[]=>.refl _
 |p::r=>(fw p _).trans ((bU r).cons p)
theorem sT{p:Int×α}:∀{l:List (Int×α)},FC l->FC (gc p l)
 |[],_=>Pn _ _
 |q::r,h=>by
  obtain⟨h1,h2⟩:=LG.mp h;unfold gc;split
  ·rename_i c;exact LG.mpr ⟨fun z hz=>by
    rcases Ll.mp hz with rfl|hz
    ·exact c
    ·exact PZ c (h1 z hz),h⟩
  ·rename_i c;refine LG.mpr ⟨fun z hz=>?_,sT h2⟩;rcases Ll.mp ((fw p r).mem_iff.mp hz) with rfl|hz
   ·lia
   ·exact h1 z hz
theorem jJ:∀ l:List (Int×α),FC (e9 l)
 |[]=>List.Pairwise.nil
 |_::r=>sT (jJ r)
theorem aJ(a:Int)(p:Int×α)(l:List (Int×α)):atK a (p::l)=if p.1=a then p::atK a l else atK a l:=by
 unfold atK;rw[Nh];by_cases z:p.1=a
 ·rw[Lg z,Lg (Mi z)]
 ·rw[K_ z,K_ (by simp[z])]
theorem sY{a:Int}{p:Int×α}:∀{l:List (Int×α)},atK a (gc p l)=atK a (p::l)
 |[]=>rfl
 |q::r=>by
  unfold gc;split
  ·rfl
  ·rename_i c;rw[aJ,sY,aJ,aJ,aJ];by_cases z:p.1=a
   ·have z2:¬ q.1=a:=by lia
    simp only[z,z2,M1,M8]
   ·simp only[z,M8]
theorem pd{a:Int}:∀ l:List (Int×α),atK a (e9 l)=atK a l
 |[]=>rfl
 |p::r=>by
  show atK a (gc p (e9 r))=_;rw[sY,aJ,aJ,pd r]
theorem j9{a:Int}:∀{l:List (Int×α)},(∀ p∈l,a<p.1)->atK a l=[]
 |[],_=>rfl
 |p::r,h=>by
  have:=h p (Lj ..);rw[aJ,K_ (by lia),j9 fun q hq=>h q (Le _ hq)]
theorem kY:∀{l m:List (Int×α)},FC l->FC m->(∀ a,atK a l=atK a m)->l=m
 |[],[],_,_,_=>rfl
 |[],q::m,_,_,h=>by
  have:=h q.1;rw[aJ,Lg rfl] at this;cases this
 |p::l,[],_,_,h=>by
  have:=h p.1;rw[aJ,Lg rfl] at this;cases this
 |p::l,q::m,hl,hm,h=>by
  obtain⟨l1,l2⟩:=LG.mp hl;obtain⟨m1,m2⟩:=LG.mp hm;have e:p.1=q.1:=by
   rcases Int.lt_trichotomy p.1 q.1 with z|z|z
   ·have q1:=h p.1;rw[aJ,Lg rfl,aJ,K_ (by lia),j9 (l:=m) fun r hr=>by have:=m1 r hr;lia] at q1
    cases q1
   ·exact z
   ·have q1:=h q.1;rw[aJ,K_ (by lia),aJ,Lg rfl,j9 (l:=l) fun r hr=>by have:=l1 r hr;lia] at q1
    cases q1
  have q1:=h p.1;rw[aJ,Lg rfl,aJ,Lg e.symm] at q1;obtain⟨q2,q3⟩:=List.cons.inj q1;subst q2;congr 1;refine kY l2 m2 fun a=>?_;have q4:=h a;rw[aJ,aJ] at q4;by_cases z:p.1=a
  ·rw[Lg z,Lg z] at q4;exact (List.cons.inj q4).2
  ·rw[K_ z,K_ z] at q4;exact q4
theorem yj{l m:List (Int×α)}(hm:FC m)(h:∀ a,atK a m=atK a l):m=e9 l:=kY hm (jJ l) fun a=>by rw[h a,pd]
abbrev FN(R:α->β->Prop):List (Int×α)->List (Int×β)->Prop:=Paired fun p q=>p.1=q.1/\R p.2 q.2
theorem zB{R:α->β->Prop}{p:Int×α}{q:Int×β}(h:p.1=q.1/\R p.2 q.2){l:List (Int×α)}{m:List (Int×β)}(k:FN R l m):FN R (gc p l) (gc q m):=by
 induction k with
 |nil=>exact .cons h .nil
 |cons r t ih =>
  unfold gc;split
  ·rename_i z;rw[Lg (by rw[<- h.1,<- r.1];exact z)]
   exact .cons h (.cons r t)
  ·rename_i z;rw[K_ (by rw[<- h.1,<- r.1];exact z)]
   exact .cons r ih
theorem uX{R:α->β->Prop}{l:List (Int×α)}{m:List (Int×β)}(k:FN R l m):FN R (e9 l) (e9 m):=by
 induction k with
 |nil=>exact .nil
 |cons r t ih=>exact zB r ih
theorem xY{R:α->β->Prop}{ks:List Int}{l:List α}{m:List β}(k:Paired R l m):FN R (ks.zip l) (ks.zip m):=by
 induction k generalizing ks with
 |nil=>rw[List.zip_nil_right,List.zip_nil_right];exact .nil
 |cons r t ih =>
  cases ks with
  |nil=>exact .nil
  |cons k ks=>exact .cons ⟨rfl,r⟩ ih
theorem yu{R:α->β->Prop}{l:List (Int×α)}{m:List (Int×β)}(k:FN R l m):Paired R (l.map (·.2)) (m.map (·.2)):=by
 induction k with
 |nil=>exact .nil
 |cons r t ih=>exact .cons r.2 ih
noncomputable def eH(ks:List Int)(l:List α):List α:=(e9 (ks.zip l)).map (·.2)
theorem iG{R:α->β->Prop}{ks:List Int}{l:List α}{m:List β}(h:Paired R l m):Paired R (eH ks l) (eH ks m):=yu (uX (xY h))
theorem s_{ks:List Int}{l:List α}(h:ks.length=l.length):(eH ks l).length=l.length:=by
 unfold eH;rw[Ld,(bU _).length_eq,List.length_zip,h,OY]
theorem iU{ks:List Int}{l:List α}(h:ks.length=l.length):(eH ks l).Perm l:=by
 have h2:((ks.zip l).map (·.2))=l:=List.map_snd_zip (by lia)
 have h3:=(bU (ks.zip l)).map (·.2);rw[h2] at h3;exact h3
end
theorem iq:∀{xs:List V} {us:List Value},Vals xs us->Paired RelV xs us
 |_,_,.nil=>.nil
 |_,_,.cons r t=>.cons r (iq t)
theorem h_:∀{xs:List V} {us:List Value},Paired RelV xs us->Vals xs us
 |_,_,.nil=>.nil
 |_,_,.cons r t=>.cons r (h_ t)
theorem tE:∀{us:List Value} {ns:List Int},IntsAre us ns->∀{i:Nat},i<ns.length->∃ t,us.getD i Value.none=.int (ns.getD i 0) t
 |_,_,.cons n t h,0,_=>⟨t,rfl⟩
 |_,_,.cons n t h,i+1,hi=>tE h (i:=i) (by simpa using hi)
theorem zK{p:List Nat}(hl:kz.length=us.length)(hp:p.Perm (List.range us.length))(hr:p.Pairwise (SP.R fun i=>kz.getD i 0)):p.map (fun i=>us.getD i Value.none)=eH kz us:=by
 have ez:(List.range us.length).map (fun i=>(kz.getD i 0,us.getD i Value.none))=kz.zip us:=by
  apply N_
  ·rw[Ld,L7,List.length_zip,hl,OY]
  ·intro i h1 h2;rw[Ld,L7] at h1;rw[List.getElem_map,List.getElem_range,List.getElem_zip];simp[h1,hl]
 have e1:p.map (fun i=>(kz.getD i 0,us.getD i Value.none))=e9 (kz.zip us):=by
  refine yj ?_ fun a=>?_
  ·exact NS.mpr (hr.imp fun h=>h.le)
  ·have fl:∀ l:List Nat,atK a (l.map fun i=>(kz.getD i 0,us.getD i Value.none))=(l.filter fun i=>decide (kz.getD i 0=a)).map fun i=>(kz.getD i 0,us.getD i Value.none):=fun l=>by
    unfold atK;rw[List.filter_map];rfl
   rw[<- ez,fl,fl];congr 1;refine List.Perm.eq_of_pairwise (le:=(· < ·)) (fun a b _ _ h g=>absurd h (Nat.lt_asymm g)) ?_ (P0.filter _) (hp.filter _);rw[List.pairwise_filter];refine hr.imp fun {i j} h hi hj=>?_;have hi:=Nx hi;have hj:=Nx hj;rcases h with h|h
   ·exfalso;have h':kz.getD i 0<kz.getD j 0:=h;lia
   ·exact h.2
 unfold eH;rw[<- e1,Ml];rfl
section
variable {X:Cx} {pins:List (Addr×Obj)} {σ:St} {H:Hp} {s:Shared} {E:Value->Shared->Prop}
theorem Inv.take{D:Addr}{ob:Obj}{o:HO}{t':Nat}(I:Inv X ((D,ob)::pins) σ H s)(hs0:X.s₀.heap.objs.size<=D)(hnp:∀ p∈X.pn++pins,p.1≠D)(k:∀ b u,b≠D->s.heap.get? b=some u->h'.get? b=some u)(new:aU X.prog X.w (upd H D o) h' D o):
  Inv X pins σ (upd H D o) {s with heap:=h',toks:=t'}:=by
 obtain⟨g1,g2,g3,g4,g5⟩:=I.pin (D,ob) (L5 _ (Lj ..));have I0:Inv X pins σ H s:=⟨I.ok,I.os,I.bare,I.base,I.loc,I.cell,I.free,I.dw,fun p hp=>I.pin p ((L1.mp hp).elim (fun z=>Of _ z) fun z=>L5 _ (Le _ z)),I.aD,I.len⟩;have ne:∀ b u,H b=some u->b≠D:=fun b u e=>ao e g2;refine I0.step (g':=s.gens) (d':=s.drawn) (ch:=[D]) (fun b hb=>?_) (fun b o' _ _ hc e _=>k b o' (fun z=>hc (by rw[z];exact Ln.mpr rfl)) e) (fun b o' _ _ hc e _=>⟨o'.slots,k b o' (fun z=>hc (by rw[z];exact Ln.mpr rfl)) e⟩) (fun b o' hc e n=>by rw[af (fun z=>hc (by rw[z];exact Ln.mpr rfl))];exact n)
  (fun b o' hc e=>⟨o',k b o' (fun z=>hc (by rw[z];exact Ln.mpr rfl)) e⟩) (fun b xs e=>by rw[af (ne b _ e)];exact e) (fun b o' u e=>by rw[af (ne b _ e)];exact e) (fun b ps e=>⟨#[],by rw[af (ne b _ e),e,O5]⟩) (fun m hm=>?_) (fun b u e=>?_) I.bare
 ·rw[Ln.mp hb];refine⟨.inr hs0,g3,fun x c e z=>?_,hnp⟩;obtain⟨v,o',ho',hd⟩:=I.cell x c e;rw[z,g1] at ho';cases ho';exact g5 v hd
 ·obtain⟨o',es,ep,ho',r⟩:=hm;exact⟨o',es,ep,k _ _ (Ne.symm g3) ho',r⟩
 ·by_cases z:b=D
  ·subst z;rw[ah] at e;cases e;exact new
  ·rw[af z] at e;refine (I.aD b u e).jz (fun c v hc q=>k c v ?_ q) (fun c q=>by rw[af (ne c _ q)];exact q) (fun c xs q=>by rw[af (ne c _ q)];exact q) fun c _ _ q=>by rw[af (ne c _ q)];exact q
   rcases hc with rfl|hc
   ·exact z
   ·exact ne c _ hc
theorem tM{A:Around}{D:Nat}{st:SortSt}
  (I:Inv X ((D,seqObj "list" #[] e1)::pins) σ (upd H kS (.lst (kz.map V.int))) s) (hkS:H kS=none) (hD:H D=none) (hkD:kS≠D) (hs0:X.s₀.heap.objs.size<=D) (hnp:∀ p∈X.pn++pins,p.1≠D)
  (hv:Vals xs us) (hlen:kz.length=us.length) (h64:us.length<64) (ho:((arrOf st).map (·.2)).toList=eH kz us) (hfl:failedOf st=none)
  (h:∀ s',Inv X pins σ (upd (upd H kS (.lst [])) D (.lst (eH kz xs))) s'->P (.done (.ret .none)) s') :
  wpAny (model X.prog X.w) A (ksk_tail D false e1 (.ref kS) st) P E s:=by
 obtain⟨_,its,n,vr,ek⟩:=I.aD kS _ ah;have hz:its.toArray.size<=sizeLine:=by
  rw[Lh,<- vr.length,Ld,hlen,MP];lia
 have pD:=I.pin _ (L5 _ (Lj ..));have hout:((arrOf st).map (·.2)).size=us.length:=by
  rw[<- LH,ho,s_ hlen]
 have s1:=M3 s.heap kS (Obj.mapSeq fun _=>(#[]:Array Value));obtain⟨c1,hc1⟩:∃ c,(s.heap.update kS (Obj.mapSeq fun _=>(#[]:Array Value))).get? kS=some (seqObj "list" #[] c):=⟨_,Om ek fun _=>#[]⟩;have J1:Inv X ((D,seqObj "list" #[] e1)::pins) σ (upd H kS (.lst [])) {s with heap:=s.heap.update kS (Obj.mapSeq fun _=>(#[]:Array Value))}:=by
  have J:=I.write (x:=kS) (e:=kS) (o:=.lst []) (t':=s.toks) (h':=s.heap.update kS (Obj.mapSeq fun _=>(#[]:Array Value))) (by rw[ah];trivial) (.inl rfl) (fun b u hb q=>(s1.2 b hb).trans q) ⟨_,hc1⟩ ⟨LA _,[],c1,.nil,hc1⟩
  rw[t7] at J;exact J
 have pD1:=J1.pin _ (List.mem_append_right _ (List.mem_cons_self ..));have s2:=Heap.SameBut.update (s.heap.update kS (Obj.mapSeq fun _=>(#[]:Array Value))) D (Obj.mapSeq fun _=>(arrOf st).map (·.2));obtain⟨c2,hc2⟩:∃ c,((s.heap.update kS (Obj.mapSeq fun _=>(#[]:Array Value))).update D (Obj.mapSeq fun _=>(arrOf st).map (·.2))).get? D=some (seqObj "list" ((arrOf st).map (·.2)) c):=⟨_,get?_update_seq pD1.1 fun _=>(arrOf st).map (·.2)⟩;have vB:Vals (eH kz xs) (eH kz us):=h_ (iG (iq hv));unfold ksk_tail;dsimp only;refine wpAny_bind (listUpdate_at ek rfl ?_ hz (Nat.zero_le _));refine wpAny_bind (wpAny_letGo ?_);refine wpAny_bind (seqEpoch_at pD1.1 rfl ?_);refine wpAny_bind (listUpdate_at pD1.1 rfl ?_ (Nat.zero_le _) (by show ((arrOf st).map (·.2)).size<=_;rw[hout,sizeLine_eq];lia))
 rw[hfl];simp only[bne_self_eq_false,Ma,M8];refine Lk (h _ (J1.take hs0 hnp (fun b u hb q=>(s2.2 b hb).trans q) ⟨?_,eH kz us,c2,vB,?_⟩))
 ·rw[vB.length,s_ hlen,MP];lia
 ·rw[<- ho,N8];exact hc2
theorem Ea{A:Around}{D:Nat}{us:List Value}{kz:List Int}{keys:Array Value}
  (I:Inv X ((D,seqObj "list" #[] e1)::pins) σ (upd H kS (.lst (kz.map V.int))) s) (hkS:H kS=none) (hD:H D=none) (hkD:kS≠D) (hs0:X.s₀.heap.objs.size<=D) (hnp:∀ p∈X.pn++pins,p.1≠D)
  (hv:Vals xs us) (hlen:kz.length=us.length) (h64:us.length<64) (hk:IntsAre keys.toList kz)
  (h:∀ s',Inv X pins σ (upd (upd H kS (.lst [])) D (.lst (eH kz xs))) s'->P (.done (.ret .none)) s') :
  wpAny (model X.prog X.w) A (ksk_end D false us.toArray e1 (.ref kS) keys) P E s:=by
 have hsz:keys.size=us.length:=by
  have z:=hk.length;rw[LH] at z;exact z.trans hlen
 have hzs:(keys.zip us.toArray).size=us.length:=by
  rw[Array.size_zip,hsz,Lh,OY]
 unfold ksk_end;dsimp only;rw[if_neg Bool.false_ne_true,if_neg Bool.false_ne_true];by_cases h2:us.toArray.size<2
 ·rw[if_pos h2,if_pos h2];refine wpAny_bind (wpAny_pure ?_);rw[StateT.run_pure];refine wpAny_bind (wpAny_pure ?_);dsimp only;refine tM I hkS hD hkD hs0 hnp hv hlen h64 ?_ rfl h;rw[List.size_toArray] at h2;have:=zK (us:=us) (kz:=kz) (p:=List.range us.length) hlen (List.Perm.refl _) (by
   rcases us with _|⟨x,_|⟨y,r⟩⟩
   ·exact .nil
   ·simp
   ·exfalso;simp only[KZ] at h2;lia)
  rw[<- this];show ((keys.zip us.toArray).map (·.2)).toList=_;rw[Array.toList_map,Array.toList_zip,List.map_snd_zip (by simp only[LH,Lh];lia)]
  apply N_
  ·simp
  ·intro i h1 h2;have h1':i<us.length:=h1;simp[h1']
 ·rw[K_ h2,K_ h2];rw[Lh] at h2;rw[ksk_kind hk (by lia)]
  refine KR (Lk ?_);have ek:keys=keys.toList.toArray:=(N8).symm;have hkl:keys.toList.length=us.length:=by rw[LH,hsz]
  have hat:∀ i,i<us.length->∃ t,keys.toList.getD i Value.none=.int (kz.getD i 0) t:=fun i hi=>tE hk (by rw[hlen];exact hi)
  generalize keys.toList=ks at *;subst ek;refine KR (Mg (PySem.W.kat_run (ks:=ks) (vs:=us) (κ:=oneType') (Q:=fun st' s'=>s'=s/\failedOf st'=none/\((arrOf st').map (·.2)).toList=eH kz us)
   (G:=fun p s'=>s'=s/\p.toList.Perm (List.range us.length)/\p.toList.Pairwise (SP.R fun i=>kz.getD i 0)) hkl (by lia) h64 (fun p st' s' a1 a2 a3 a4=>⟨a4.1,a3,by rw[PySem.W.kat_snds hkl a2];exact zK hlen a4.2.1 a4.2.2⟩) ?_) ?_ fun _ _ e=>e)
  ·refine SP.An (k:=fun i=>kz.getD i 0) (I:=fun s'=>s'=s) (fun i j C s' hi hj hI hC=>?_) (by lia) rfl fun p s' hp hr hI=>⟨hI,hp,hr⟩
   subst hI;obtain⟨t1,e1⟩:=hat i hi;obtain⟨t2,e2⟩:=hat j hj;unfold PySem.W.kas_ask;rw[e1,e2];exact PySem.W.kat_lt_int (hC _ rfl)
  rintro⟨⟨⟩,st'⟩ s' ⟨rfl,hf,ho⟩;dsimp only;exact tM I hkS hD hkD hs0 hnp hv hlen h64 ho hf h
theorem jG:∀{us:List Value} {ns:List Int},Vals (ns.map V.int) us->IntsAre us ns
 |_,[],.nil=>.nil
 |_,n::ns,.cons ⟨t,e⟩ r=>by subst e;exact .cons n t (jG r)
theorem AU{A:Around}{D:Nat}{f:Value}
  (I:Inv X ((D,seqObj "list" #[] e1)::pins) σ (upd H kS (.lst [])) s) (hkS:H kS=none) (hD:H D=none) (hkD:kS≠D) (hs0:X.s₀.heap.objs.size<=D) (hnp:∀ p∈X.pn++pins,p.1≠D)
  (hv:Vals xs us) (hlen:kz.length=us.length) (h64:us.length<64)
  (turn:∀(i:Nat) (u:Value) (k:Int),us[i]?=some u->kz[i]?=some k->∀ pins' H' s',dD H H'->Inv X pins' σ H' s'->wpAny (model X.prog X.w) A (call f [u]) (fun r s2=>(∃ t,r=.int k t)/\Inv X pins' σ H' s2) (fun _ _=>False) s')
  (h:∀ s',Inv X pins σ (upd (upd H kS (.lst [])) D (.lst (eH kz xs))) s'->P (.done (.ret .none)) s') :
  wpAny (model X.prog X.w) A (ksk_rest D f false us.toArray e1 (.ref kS)) P E s:=by
 unfold ksk_rest;refine KR (OQ ?_)
 first
  |rw[List.forIn_toArray]
  | (rw[<- Array.forIn_toList];simp only[O1])
 refine KR (ksk_fold (fun i s'=>Inv X ((D,seqObj "list" #[] e1)::pins) σ (upd H kS (.lst ((kz.take i).map V.int))) s') us 0 s I ?one ?all)
 case one =>
  intro j u s' hu J;rw[MT] at J ⊢;have hj:j<us.length:=(Li.mp hu).1;obtain⟨k,hkj⟩:∃ k,kz[j]?=some k:=⟨_,KY (by lia)⟩
  refine wpAny_bind (wpAny_attempt (wpAny_mono (turn j u k hu hkj _ _ s' (.more .refl hkS) J) (fun r s2 hr=>?_) fun _ _ z=>z.elim));obtain⟨⟨t,rfl⟩,J2⟩:=hr;dsimp only;obtain⟨_,its,n,vr,ek⟩:=J2.aD kS _ ah;have lenI:its.length<=us.length:=by
   rw[<- vr.length,Ld,LR];lia
  have s1:=M3 s2.heap kS (Obj.mapSeq (·.push (.int k t)));obtain⟨c1,hc1⟩:∃ c,(s2.heap.update kS (Obj.mapSeq (·.push (.int k t)))).get? kS=some (seqObj "list" (its.toArray.push (.int k t)) c):=⟨_,Om ek (·.push (.int k t))⟩;have et:kz.take (j+1)=kz.take j++[k]:=by
   rw[OM,hkj];rfl
  have vr2:Vals ((kz.take (j+1)).map V.int) (its++[.int k t]):=by
   rw[et,Lv];exact vr.append (.cons ⟨t,rfl⟩ .nil)
  refine KR (listUpdate_at ek rfl ?_ (by rw[Lh,MP];lia) (by show (its.toArray.push (.int k t)).size<=_;rw[Array.size_push,Lh,MP];lia))
  refine Lk ⟨rfl,?_⟩;have J3:=J2.write (x:=kS) (e:=kS) (o:=.lst ((kz.take (j+1)).map V.int)) (t':=s2.toks) (h':=s2.heap.update kS (Obj.mapSeq (·.push (.int k t)))) (by rw[ah];trivial) (.inl rfl) (fun b u hb q=>(s1.2 b hb).trans q) ⟨_,hc1⟩
   ⟨by rw[Ld,LR,MP];lia,its++[.int k t],c1,vr2,by rw[hc1,List.push_toArray]⟩
  rw[t7] at J3;exact J3
 case all =>
  intro s' J;have ez:kz.take (0+us.length)=kz:=MQ (by lia)
  have J':Inv X ((D,seqObj "list" #[] e1)::pins) σ (upd H kS (.lst (kz.map V.int))) s':=by
   rw[<- ez];rw[ez];simpa only[ez] using J
  obtain⟨_,its,n,vr,ek⟩:=J'.aD kS _ ah;refine KR (O_ ek rfl ?_);exact Ea J' hkS hD hkD hs0 hnp hv hlen h64 (by rw[O1];exact jG vr) h
theorem Af{A:Around}{D:Addr}{n0:Nat}{h0:Heap}{f:Value}
  (I:Inv X pins σ H s) (k0:∀ b o,s.heap.get? b=some o->h0.get? b=some o) (hDs:s.heap.objs.size<=D) (ho:h0.get? D=some (seqObj "list" us.toArray n0)) (hv:Vals xs us) (hlen:kz.length=us.length) (h64:us.length<64)
  (turn:∀(i:Nat) (u:Value) (k:Int),us[i]?=some u->kz[i]?=some k->∀ pins' H' s',dD H H'->Inv X pins' σ H' s'->wpAny (model X.prog X.w) A (call f [u]) (fun r s2=>(∃ t,r=.int k t)/\Inv X pins' σ H' s2) (fun _ _=>False) s')
  (h:∀ H' s',dD H H'->H' D=none->Inv X pins σ (upd H' D (.lst (eH kz xs))) s'->P (.done (.ret .none)) s') :
  wpAny (model X.prog X.w) A (ksk_tree D f false) P E {s with heap:=h0}:=by
 have hsz0:D<h0.objs.size:=Lq ho;have s1:=M3 h0 D (Obj.mapSeq fun _=>(#[]:Array Value));obtain⟨e1,ho1⟩:∃ e,(h0.update D (Obj.mapSeq fun _=>(#[]:Array Value))).get? D=some (seqObj "list" #[] e):=⟨_,Om ho fun _=>#[]⟩;have hkz:((h0.update D (Obj.mapSeq fun _=>(#[]:Array Value))).push (seqObj "tuple" us.toArray 0)).objs.size=h0.objs.size+1:=by
  rw[size_push',Pa]
 have nD:∀ b o,s.heap.get? b=some o->b≠D:=fun b o e=>L9 (L4 (Lq e) hDs);have keep:∀ b o,s.heap.get? b=some o->(((h0.update D (Obj.mapSeq fun _=>(#[]:Array Value))).push (seqObj "tuple" us.toArray 0)).push (seqObj "list" #[] 0)).get? b=some o:=fun b o e =>
  KU _ (KU _ ((s1.2 b (nD b o e)).trans (k0 b o e)))
 have hle:s.heap.objs.size<=h0.objs.size+1:=Lr hDs (Nat.le_succ_of_le (Nc hsz0));have hkD:h0.objs.size+1≠D:=Nd (OK hsz0);have hkS:H (h0.objs.size+1)=none:=I.aD.fresh hle;have hD:H D=none:=I.aD.fresh hDs;have hnp:∀ p∈X.pn++pins,p.1≠D:=fun p hp=>nD _ _ (I.pin p hp).1;have J0:Inv X pins σ (upd H (h0.objs.size+1) (.lst [])) {s with heap:=((h0.update D (Obj.mapSeq fun _=>(#[]:Array Value))).push (seqObj "tuple" us.toArray 0)).push (seqObj "list" #[] 0)}:=
  I.laid (t':=s.toks) keep hle ⟨LA _,[],0,.nil,by rw[<- hkz];exact Lo _ rfl⟩
 have J:Inv X ((D,seqObj "list" #[] e1)::pins) σ (upd H (h0.objs.size+1) (.lst [])) {s with heap:=((h0.update D (Obj.mapSeq fun _=>(#[]:Array Value))).push (seqObj "tuple" us.toArray 0)).push (seqObj "list" #[] 0)}:=by
  refine J0.mQ fun p hp=>?_;rcases Ll.mp hp with rfl|hp
  ·exact⟨KU _ (KU _ ho1),by rw[af (Ne.symm hkD)];exact hD,fun z=>absurd I.lt (by rw[<- z];exact PJ.mpr hDs),I.FR hDs,fun v z=>by cases z⟩
  ·exact J0.pin p (L5 _ hp)
 unfold ksk_tree;refine KR (O_ ho rfl ?_);refine KR (listUpdate_at ho rfl ?_ (by rw[Lh,MP];lia) (LA _))
 refine KR (seqEpoch_at ho1 rfl ?_);refine KR (wpAny_newTuple ?_ (by show us.length<=_;rw[MP];lia))
 refine KR (OF ?_ (LA _));refine LV ?_;show wpAny _ _ (ksk_rest D f false us.toArray e1 (.ref ((h0.update D (Obj.mapSeq fun _=>(#[]:Array Value))).push (seqObj "tuple" us.toArray 0)).objs.size)) _ _ _;rw[hkz];exact AU J hkS hD hkD (Lr I.sz hDs) hnp hv hlen h64 turn fun s' K=>h _ s' (.more .refl hkS) (by rw[af (Ne.symm hkD)];exact hD) K
end
noncomputable def xE(q:Str)(params:Arguments)(body:Expr)(scope:Scope)(cl:List (Str×Addr)):TE:=fun _ H Q=>∀ f c' pm ctv H1,dD H H1->iw H1 f q params body scope cl c' pm ctv->Q (.ref f) H1
theorem zF{P:Addr}(hx:x∈cQ)(ht:PySem.W.tabIn X.K x=some (c,P))(hcode:X.env.code=.ref c)(hq:X.env.qual=x++".<locals>."){pos:Pos}
  (hdef:defaultsOf params X.env=([],[])) (hcl:closureFor scope X.env=pure cl):PE X (.Lambda params body scope pos) (xE ((x++".<locals>.")++"<lambda>") params body scope cl):=fun pins s σ H Q I h =>
 zC I hx ht hcode hq hdef hcl fun f c' pm ctv H1 s1 g J l=>⟨.ref f,H1,J,rfl,h f c' pm ctv H1 g l⟩
section
variable {X:Cx} {pins:List (Addr×Obj)} {σ:St} {H:Hp} {s:Shared} {E:Value->Shared->Prop}
noncomputable def rL(X:Cx)(A:Around)(s:Shared)(l:Addr)(xs:List V):Prop:=∀(Q:List Value->Shared->Prop) (E:Value->Shared->Prop),(∀ h0 tk us,(∀ b o,s.heap.get? b=some o->h0.get? b=some o)->s.heap.objs.size<=h0.objs.size->Vals xs us->Q us {s with heap:=h0,toks:=tk})->wpAny (model X.prog X.w) A (collect (.ref l)) Q E s
theorem uM{A:Around}{l:Addr}{Q:VK}(I:Inv X pins σ H s)(hcol:rL X A.in1 s l xs)(hlen:kz.length=xs.length)(h64:xs.length<64)
  (turn:∀(i:Nat) (v:V) (u:Value) (k:Int),xs[i]?=some v->RelV v u->kz[i]?=some k->∀ pins' H' s',dD H H'->Inv X pins' σ H' s'->wpAny (model X.prog X.w) A.in1.in1 (call (.ref f) [u]) (fun r s2=>(∃ t,r=.int k t)/\Inv X pins' σ H' s2) (fun _ _=>False) s')
  (h:∀ H' D,dD H H'->H' D=none->Q (.ref D) (upd H' D (.lst (eH kz xs)))) :
  wpAny (model X.prog X.w) A (call (.builtin "sorted") [.ref l] [(Str.ofString "key",.ref f)]) (EP X pins σ Q) E s:=by
 refine call_function_entry_kw kind_sorted plain_sorted entry_sorted (ksk_s1 _ _) ?_;unfold Builtin.«sorted»;refine KR (m:=checkCount "sorted" 1 1 _) (Lk (KR (hcol _ _ fun h0 tk us k0 hz hv=>?_)));have ul:us.length=xs.length:=hv.length.symm;refine KR (OF ?_ (by rw[ul,MP];lia))
 have hoL:(h0.push (seqObj "list" us.toArray 0)).get? h0.objs.size=some (seqObj "list" us.toArray 0):=Lo _ rfl;refine KR (LV (wpAny_call_entry_kw slot_list_sort ⟨_,hoL,rfl⟩ entry_list_sort ?srt (ksk_l1 _ _)))
 case srt =>
  show wpAny _ A.in1.in1 (Builtin.«list.sort» ⟨[.ref h0.objs.size],[(Str.ofString "key",.ref f)]⟩) _ _ _;rw[ksk_t1];refine Af (s:={s with toks:=tk}) (h0:=h0.push (seqObj "list" us.toArray 0)) (I.tok tk) (fun b o e=>KU _ (k0 b o e)) hz hoL hv (by rw[ul];exact hlen) (by rw[ul];exact h64)
   (fun i u k hu hk pins' H' s' g J=>?_) fun H' s' g n J=>⟨_,rfl,?_⟩
  ·have hi:i<xs.length:=by rw[<- ul];exact (Li.mp hu).1
   obtain⟨u',hu',rv⟩:=hv.get (KY hi);rw[hu] at hu';cases hu';exact turn i _ u k (KY hi) rv hk pins' H' s' g J
  ·exact Lk ⟨_,rfl,.ref h0.objs.size,_,J,rfl,h H' _ g n⟩
theorem rj{A:Around}{l:Addr}(I:Inv X pins σ H s)(hl:bz X.K H l xs)(h64:xs.length<64):rL X A s l xs:=fun Q E h=>by
 obtain⟨its,rv,pl,hz⟩:=I.list hl;refine collect_list pl.isList (h _ s.toks its (fun b o e=>?_) ?_ rv) (by rw[<- rv.length];exact hz)
 ·rw[Heap.get?_update_ne _ _ _ _ (L9 (Lq e))];exact KU _ e
 ·rw[Pa,size_push'];exact Nr _
noncomputable def pQ(src:Hp->Addr->List V->Prop)(pre:V->Int->Hp->St->Prop)(fr:St->St)(t:TA):TE:=fun σ H Q=>t σ H fun vs H1=>∃ l xs kz,vs=[.ref l]/\src H1 l xs/\kz.length=xs.length/\xs.length<64 /\
 (∀(i:Nat) (v:V) (k:Int),xs[i]?=some v->kz[i]?=some k->∀ H',dD H1 H'->pre v k H' (fr σ))/\∀ H2 D,dD H1 H2->H2 D=none->Q (.ref D) (upd H2 D (.lst (eH kz xs)))
theorem oj{t:TA}{pos:Pos}{src:Hp->Addr->List V->Prop}{pre:V->Int->Hp->St->Prop}{fr:St->St}
  (hg:Gl X "sorted") (hm:X.mg "sorted"=none) (ha:PA X [e] t) (h1:bR e=true) (hr:aQ (k+3) X.A) (hL:PE X (.Lambda params body scope lpos) (xE q params body scope cl))
  (hsrc:∀ pins σ H s H1 l xs A,Inv X pins σ H s->src H1 l xs->dD H1 H->A.handled=none->xs.length<64->rL X A s l xs)
  (hk:scope.kind=.function) (hco:scope.isCoroutine=false) (hgen:scope.isGenerator=false) (hcell:∀ y∈scope.names,y.2≠.cell) (hloc:scope.names.lookup x=some .local)
  (hbind:∀ c' pm ctv u,bindArgs (PySem.W.kla_fn "<lambda>" q params body scope cl pm (.ref c') ctv) ⟨[u],[]⟩=pure [(x,u)])
  (hlen:∀ σ:St,(fr σ).length=N.length) (hcl:∀ y c,cl.lookup y=some c->X.env.cells.lookup y=some c) (hhas:∀ y,(scope.names.lookup y=some .cell\/scope.names.lookup y=some .free)->∃ c,cl.lookup y=some c)
  (hf:∀ pins σ H s,Inv X pins σ H s->∀(i:Nat) (y:Str) (v:V),N[i]?=some y->(fr σ)[i]?=some (some v)->scope.names.lookup y=some .free/\∃ c u,cl.lookup y=some c/\s.heap.IsCell c (some u)/\RelV v u)
  (hbody:∀ A f c' s' H' σf v i,pre v i H' σf->∃ t,PE (sG X A (x::N) q scope f (.ref c') cl s' H') body t/\t (some v::σf) H' (fun w H2=>w=.int i/\H2=H')) :
  PE X (.Call (.Name "sorted" p) [e] [⟨some "key",.Lambda params body scope lpos,kpos⟩] pos) (pQ src pre fr t):=by
 intro pins s σ H Q I h;refine MS (eE I hg hm (u:=.builtin "sorted") (by decide +kernel) ?_ (by decide) (by decide))
 have hkw:PK X [⟨some "key",.Lambda params body scope lpos,kpos⟩] (gf (xE q params body scope cl) ju):=B5 hL DM;refine callWith_kw ?_ (by rw[bZ h1];rfl) (by rw[bZ h1];rfl) rfl rfl
 refine bE (ha pos pins s σ H _ I h) fun us s1 ⟨vs,H1,I1,r1,q1⟩=>?_;obtain⟨l,xs,kz,rfl,hs,hle,h64,hpre,qq⟩:=q1;obtain⟨u,rfl,ru⟩:=vals1 r1;cases ru;refine bE (hkw pos pins s1 σ H1 (fun zs H2=>∃ f c' pm ctv,zs=[.ref f]/\dD H1 H2/\iw H2 f ((q)) params body scope cl c' pm ctv) I1 fun f c' pm ctv H2 g lm=>⟨f,c',pm,ctv,rfl,g,lm⟩) fun ws s2 ⟨zs,H2,I2,rz,f,c',pm,ctv,e1,g,lm⟩=>?_;subst e1;obtain⟨wv,rfl,rw1⟩:=vals1 rz;cases rw1;have hr1:aQ (k+2) X.A.in1:=hr.in1;refine uM I2 (hsrc _ _ _ _ _ _ _ _ I2 hs g hr1.hd h64) hle h64 (fun i v u j hv rv hj pins' H' s' g' J=>?_) fun H' D g' n=>qq H' D (g.trans g') n;obtain⟨ho,hcd⟩:=(lm.up fun b o u e=>g'.same b _ e).get J;obtain⟨tb,hb,hq⟩:=hbody X.A.in1.in1 f c' s' H' (fr σ) v j (hpre i v j hv hj H' (g.trans g'));refine Mg (xl J hr1.in1 J.ok.frames hk hco hgen hcell rv hloc ho hcd (hbind c' pm ctv) (hlen σ) hcl hhas (hf _ _ _ _ J) hb hq) (fun r s4 hr4=>?_) fun _ _ z=>z;obtain⟨w,H4,J4,rw4,e4,e5⟩:=hr4;subst e4 e5;exact⟨rw4,J4⟩
end
theorem iO{a:α}{l:List (Str×α)}:List.lookup x ((x,a)::l)=some a:=by rw[Ms,N5]
theorem gF{a:α}{l:List (Str×α)}(h:y≠x):List.lookup y ((x,a)::l)=List.lookup y l:=by rw[Ms,MK.mpr h]
abbrev oH(n:Nat):List V:=(List.range n).map fun k=>V.int ((k:Nat):Int)
section
variable {X:Cx} {pins:List (Addr×Obj)} {σ:St} {H:Hp} {s:Shared}
theorem oG{A:Around}{r:Addr}{n:Nat}(hh:A.handled=none)(I:Inv X pins σ H s)(hr:H r=some (.dB 0 n))(h64:n<64):rL X A s r (oH n):=fun Q E h=>by
 obtain⟨t,u,v,e⟩:=I.aD r _ hr;have hn2:Builtin.Range.rangeSize 0 (n:Int) 1=n:=by rw[PL];split<;>lia
 have hsm:Builtin.Range.small 0 (n:Int) 1=true:=small_one (by lia) (by lia) (by lia) (by lia)
 have oS:(s.heap.push {cls:=.type "list",data:=.seq ([]:List Value).toArray}).get? s.heap.objs.size=some {cls:=.type "list",data:=.seq #[] 0}:=Lo _ rfl;unfold collect;refine KR (wpAny_runValue (Ol PySem.F.entry_proto_collect ?_));rw[Around.under_plainId PySem.F.plain_proto_collect _];refine KR (m:=newList []) (Mh (Lk ⟨plainId_quiet PySem.F.plain_list_iadd _,Ol PySem.F.entry_list_iadd ?_⟩));rw[Around.under_plainId PySem.F.plain_list_iadd _];show wpAny _ A.in1 (Builtin.List.listExtendWith _ _ _) _ _ _;refine wpAny_extend_range (R:=fun r s'=>match r with|.ok (.ret v)=>wpAny (model X.prog X.w) A (match v with|.ref a=>do (match (<- load a).data with|.seq xs _=>pure xs.toList|_=>unsupported "internal:collect")|_=>unsupported "internal:collect") Q E s'|.ok _=>_|.error e=>E e s') (s:={s with heap:=s.heap.push {cls:=.type "list",data:=.seq ([]:List Value).toArray}}) hh (KU _ e) hsm hn2 (by lia) s.heap.objs.size (.ref s.heap.objs.size) 0 oS fun h' tk acc c' hk hS hI=>?_
 refine KR (m:=load s.heap.objs.size) (wpAny_load hS (Lk (h h' tk acc.toList (fun b o e=>hk b o (L9 (Lq e)) (KU _ e)) (Nc (Lq hS)) ?_)));have hv:=Y.dQ (lo:=0) n acc.toList 0 (by simpa using hI.1) fun j v e=>by
  obtain⟨t,e2⟩:=hI.2 j v (by simpa using e)
  exact⟨t,by rw[e2];simp⟩
 show Vals ((List.range n).map fun k=>V.int ((k:Nat):Int)) acc.toList;rw[Mp]
 simpa using hv
end
noncomputable def yJ(K:Qa):List V->Hp->VK->Prop:=fun vs H1 Q=>∃ l xs kz,vs=[.ref l]/\bz K H1 l xs/\kz.length=xs.length/\xs.length<64 /\
 (∀(i:Nat) (v:V) (k:Int),xs[i]?=some v->kz[i]?=some k->∀ H',dD H1 H'->∃ p ys,v=.ref p/\aV K H' p (.int k::ys))/\∀ H2 D,dD H1 H2->H2 D=none->Q (.ref D) (upd H2 D (.lst (eH kz xs)))
theorem wC{t:TA}{pos:Pos}{cj:Nat}(hg:Gl X "sorted")(hm:X.mg "sorted"=none)(ha:PA X [e] t)(h1:bR e=true)(hr:aQ (k+3) X.A)
  (hL:PE X (.Lambda params (.Subscript (.Name x p1) (.Constant (.int 0) cj p2) p3) scope lpos) (xE q params (.Subscript (.Name x p1) (.Constant (.int 0) cj p2) p3) scope []))
  (hsc:scope={kind:=.function,names:=[(x,.local)],isGenerator:=false,isCoroutine:=false,more:=[]}) (hx1:(x ==("__debug__":Str))=false) (hx2:(x ==("__classdict__":Str))=false)
  (hbind:∀ c' pm ctv u,bindArgs (PySem.W.kla_fn "<lambda>" q params (.Subscript (.Name x p1) (.Constant (.int 0) cj p2) p3) scope [] pm (.ref c') ctv) ⟨[u],[]⟩=pure [(x,u)]) :
  PE X (.Call (.Name "sorted" p) [e] [⟨some "key",.Lambda params (.Subscript (.Name x p1) (.Constant (.int 0) cj p2) p3) scope lpos,kpos⟩] pos) (vO (yJ X.K) t):=by
 subst hsc;have lk:∀ y,List.lookup y [(x,NameKind.local)]=if y=x then some .local else none:=fun y=>by
  by_cases z:y=x
  ·rw[Lg z,z,iO]
  ·rw[K_ z,gF z];rfl
 show PE X _ (pQ (fun H l xs=>bz X.K H l xs) (fun v k H' _=>∃ p ys,v=.ref p/\aV X.K H' p (.int k::ys)) (fun _=>[]) t);refine oj (N:=[]) hg hm ha h1 hr hL (fun pins σ H s H1 l xs A I hs g _ h64=>rj I (g.same.seq hs) h64) rfl rfl rfl (fun y hy=>by rw[Ln.mp hy];nofun) (by rw[lk,Lg rfl]) hbind (fun _=>rfl) (fun y c z=>by cases z) (fun y z=>?_) (fun _ _ _ _ _ i y v z=>by cases z) fun A f c' s' H' σf v i hp=>?_
 ·rw[lk] at z
  split at z
  ·rcases z with z|z<;>cases z
  ·rcases z with z|z<;>cases z
 ·obtain⟨a,ys,rfl,hq⟩:=hp;refine⟨_,xV qK (pv 0 rfl (.inl (by show List.lookup x [(x,NameKind.local)]=_;rw[lk,Lg rfl])) hx1 hx2) i_ (Z.Jv rfl),?_⟩
  exact⟨_,rfl,a,_,0,.int i,rfl,rfl,hq,b6 (j:=0) rfl,rfl,rfl⟩
noncomputable def K3(j:Nat)(σ:St):St:=[(σ[j]?).getD none]
noncomputable def xv(K:Qa)(j:Nat)(t:TA):TE:=pQ (fun H l xs=>∃ n:Nat,H l=some (.dB 0 n)/\xs=oH n) (fun v k H' σf=>∃ i q ls,v=.int i/\σf=[some (.ref q)]/\aV K H' q ls/\b9 ls i=some (.int k)) (K3 j) t
theorem yN{t:TA}{pos:Pos}(hg:Gl X "sorted")(hm:X.mg "sorted"=none)(ha:PA X [e] t)(h1:bR e=true)(hr:aQ (k+3) X.A)
  (hL:PE X (.Lambda params (.Subscript (.Name y p1) (.Name x p2) p3) scope lpos) (xE q params (.Subscript (.Name y p1) (.Name x p2) p3) scope [(y,c)]))
  (hsc:scope={kind:=.function,names:=[(x,.local),(y,.free)],isGenerator:=false,isCoroutine:=false,more:=[]}) (hxy:y≠x) (hx1:(x ==("__debug__":Str))=false) (hx2:(x ==("__classdict__":Str))=false) (hy1:(y ==("__debug__":Str))=false) (hy2:(y ==("__classdict__":Str))=false)
  (hj:X.N[j]?=some y) (hyc:X.env.scope.names.lookup y=some .cell) (hyl:X.env.cells.lookup y=some c)
  (hbind:∀ c' pm ctv u,bindArgs (PySem.W.kla_fn "<lambda>" q params (.Subscript (.Name y p1) (.Name x p2) p3) scope [(y,c)] pm (.ref c') ctv) ⟨[u],[]⟩=pure [(x,u)]) :
  PE X (.Call (.Name "sorted" p) [e] [⟨some "key",.Lambda params (.Subscript (.Name y p1) (.Name x p2) p3) scope lpos,kpos⟩] pos) (xv X.K j t):=by
 subst hsc;have lx:List.lookup x [(x,NameKind.local),(y,NameKind.free)]=some .local:=iO;have ly:List.lookup y [(x,NameKind.local),(y,NameKind.free)]=some .free:=by rw[gF hxy,iO]
 have lz:∀ z,z≠x->z≠y->List.lookup z [(x,NameKind.local),(y,NameKind.free)]=none:=fun z h1 h2=>by rw[gF h1,gF h2];rfl
 have lc:List.lookup y [(y,c)]=some c:=iO;have lcz:∀ z d,List.lookup z [(y,c)]=some d->z=y/\d=c:=fun z d e=>by
  by_cases h:z=y
  ·rw[h,lc] at e;cases e;exact⟨h,rfl⟩
  ·rw[gF h] at e;cases e
 refine oj (N:=[y]) hg hm ha h1 hr hL (fun pins σ H s H1 l xs A I hs g hh h64=>?_) rfl rfl rfl (fun z hz=>?_) lx hbind (fun _=>rfl) (fun z d e=>?_) (fun z hz=>?_) (fun pins σ H s I i z v e1 e2=>?_) fun A f c' s' H' σf v i hp=>?_
 ·obtain⟨n,hs,rfl⟩:=hs;rw[Ld,L7] at h64;exact oG hh I (g.same _ _ hs) h64
 ·rcases Ll.mp hz with rfl|hz
  ·nofun
  ·rw[Ln.mp hz];nofun
 ·obtain⟨rfl,rfl⟩:=lcz z d e;exact hyl
 ·by_cases z1:z=x
  ·have hz':List.lookup z [(x,NameKind.local),(y,NameKind.free)]=some .cell\/List.lookup z [(x,NameKind.local),(y,NameKind.free)]=some .free:=hz;rw[z1,lx] at hz';rcases hz' with h|h<;>cases h
  ·by_cases z2:z=y
   ·rw[z2];exact⟨c,lc⟩
   ·have hz':List.lookup z [(x,NameKind.local),(y,NameKind.free)]=some .cell\/List.lookup z [(x,NameKind.local),(y,NameKind.free)]=some .free:=hz;rw[lz z z1 z2] at hz';rcases hz' with h|h<;>cases h
 ·cases i with
  |succ i=>cases e1
  |zero =>
   have e1':some y=some z:=e1;cases e1';have e2':some ((σ[j]?).getD none)=some (some v):=e2;have e3:σ[j]?=some (some v):=by
    cases hσ:σ[j]? with
    |none=>rw[hσ] at e2';cases e2'
    |some o=>rw[hσ] at e2';exact e2'
   obtain⟨m,_,hl⟩:=I.loc;obtain⟨u,rv,lk⟩:=hl j y v hj e3 (.inr (.inl hyc));refine⟨ly,c,u,lc,?_,rv⟩;rcases lk with ⟨z,_⟩|⟨_,d,z1,z2⟩
   ·have z':X.env.scope.names.lookup y=some .local:=z;rw[hyc] at z';cases z'
   ·rw[hyl] at z1;cases z1;exact z2
 ·obtain⟨ix,a,ls,rfl,rfl,hq,ha'⟩:=hp;refine⟨_,xV qK (pv 1 rfl (.inr (.inr ly)) hy1 hy2) (pv 0 rfl (.inl lx) hx1 hx2) (Z.Jv rfl),?_⟩;exact⟨_,rfl,_,rfl,a,ls,ix,.int i,rfl,rfl,hq,ha',rfl,rfl⟩
theorem iu:∀{vs:List V} {ts:List T},ak K H B vs ts->Paired (Rep K H B) vs ts
 |_,_,.nil=>.nil
 |_,_,.cons h r=>.cons h (iu r)
theorem i3:∀{vs:List V} {ts:List T},Paired (Rep K H B) vs ts->ak K H B vs ts
 |_,_,.nil=>.nil
 |_,_,.cons h r=>.cons h (i3 r)
theorem ak.eH{ks:List Int}{vs:List V}(r:ak K H B vs ts):ak K H B (L2.eH ks vs) (L2.eH ks ts):=i3 (iG (iu r))
theorem lZ{β:Type}{g:α->β}{ks:List Int}{l:List α}:eH ks (l.map g)=(eH ks l).map g:=by
 have p:∀ l:List α,Paired (fun a b=>b=g a) l (l.map g):=fun l=>by
  induction l with
  |nil=>exact .nil
  |cons a l ih=>exact .cons rfl ih
 have q:∀{l:List α} {m:List β},Paired (fun a b=>b=g a) l m->m=l.map g:=fun {l m} h=>by
  induction h with
  |nil=>rfl
  |cons r _ ih=>rw[r,ih];rfl
 exact q (iG (p l))
noncomputable def zv:T->Option Int
 |.tup (.int k::_)=>some k
 |_=>none
namespace Y
noncomputable def mF:T->Mu->(R->Mu->Prop)->Prop:=fun t μ Q=>match t with
 |.lst ts=>∃ kz:List Int,ts.map zv=kz.map some/\ts.length<64/\Q (.fr (.lst (eH kz ts))) μ
 |_=>False
theorem DQ(h:ts.map zv=kz.map some){k:Int}(e:kz[i]?=some k):∃ us,ts[i]?=some (.tup (.int k::us)):=by
 have q:=LF (fun l=>l[i]?) h;simp only[Lw,e,Option.map_some] at q
 cases ht:ts[i]? with
 |none=>rw[ht] at q;cases q
 |some t =>
  rw[ht] at q;have q':zv t=some k:=Option.some.inj q;unfold zv at q'
  split at q'
  ·cases q';exact⟨_,rfl⟩
  ·cases q'
theorem yx:RC K (yJ K) (vK mF):=jt fun F ad B σ H μ Q Qt x t hK l v1 q k=>by
 subst hK;unfold mF at q
 split at q
 ·obtain⟨kz,hk,h64,q⟩:=q
  cases v1 with
  |lst ha ra =>
   have le:=LF List.length hk;rw[Ld,Ld] at le;refine⟨_,_,kz,rfl,bz.of ha,by rw[ra.length,le],by rw[ra.length];exact h64,fun i v j e1 e2 H' g=>?_,fun H2 D g n=>k _ _ _ (Vr.gr (l.same g.same) (ra.fr (Fr.same g.same)).eH n) (fun b o e z=>⟨ba.new n b o (g.same b o e),fun y=>?_⟩) q⟩
   ·obtain⟨us,hu⟩:=DQ hk e2;obtain⟨v',e3,rp⟩:=ra.get hu;rw[e1] at e3;cases e3
    cases rp with
    |tup nb hp rr =>
     cases rr with
     |cons r0 rr =>
      cases r0;exact⟨_,_,rfl,aV.of (g.same _ _ hp)⟩
   ·rcases y with y|y
    ·subst y;rw[g.same b o e] at n;cases n
    ·exact z y
 ·exact q.elim
theorem sortI{us:UA}{pos:Pos}{cj:Nat}{Pt:Addr}(K:Qa)(hK:X.K=K)(hx:y∈cQ)(ht:PySem.W.tabIn K y=some (c,Pt))(hcode:X.env.code=.ref c)(hq:X.env.qual=y++".<locals>.")(hdef:defaultsOf params X.env=([],[]))(hcl:closureFor scope X.env=pure [])
  (hg:Gl X "sorted") (hm:X.mg "sorted"=none) (ha:YA X [e] us) (hr:aQ (k+3) X.A)
  (hsc:scope={kind:=.function,names:=[(x,.local)],isGenerator:=false,isCoroutine:=false,more:=[]}) (hx1:(x ==("__debug__":Str))=false) (hx2:(x ==("__classdict__":Str))=false)
  (hbind:∀ c' pm ctv u,bindArgs (PySem.W.kla_fn "<lambda>" ((y++".<locals>.")++"<lambda>") params (.Subscript (.Name x p1) (.Constant (.int 0) cj p2) p3) scope [] pm (.ref c') ctv) ⟨[u],[]⟩=pure [(x,u)]) (h1:autoParam (bR e=true) ℜ0) :
  YE X (.Call (.Name "sorted" p) [e] [⟨some "key",.Lambda params (.Subscript (.Name x p1) (.Constant (.int 0) cj p2) p3) scope lpos,kpos⟩] pos) (Df (vK mF) us):=by
 subst hK;obtain⟨t,q,rr⟩:=ha;exact⟨_,⟨wC hg hm q.h h1 hr (zF hx ht hcode hq hdef hcl) hsc hx1 hx2 hbind⟩,xU yx rr⟩
noncomputable def jx(j:Nat)(us:UA):UE:=fun μ Q=>us μ fun rs μ1=>match rs,μ1[j]? with
 |[.tr (.dB lo hi)],some (.tr (.tup ts))=>∃ ns:List Int,ts=ns.map T.int/\lo=0/\hi=ns.length/\ns.length<64/\Q (.fr (.lst ((eH ns (List.range ns.length)).map fun k=>T.int ((k:Nat):Int)))) μ1
 |_,_=>False
theorem zr{t:TA}{us:UA}(ha:RA K t us):RE K (xv K j t) (jx j us):=fun F ad B σ H μ Q Qt hK l q k =>
 ha F ad B σ H μ _ _ hK l q fun vs H' rs μ' l1 ps f k1 q1=>by
  split at q1
  ·rename_i lo hi ts hμ;obtain⟨ns,rfl,rfl,rfl,h64,q⟩:=q1
   cases ps with
   |cons p0 pr =>
    cases pr;have p0':=p0
    cases p0' with
    |dB nb hp =>
     obtain⟨w,hw,rw1⟩:=l1.slot j _ hμ
     cases rw1 with
     |tup nq hq rr =>
      have ev:=cE rr;subst ev;have le:(oH ns.length).length=ns.length:=by rw[Ld,L7]
      refine⟨_,oH ns.length,ns,rfl,⟨ns.length,hp,rfl⟩,le.symm,by rw[le];exact h64,fun i v i2 e1 e2 H2 g=>?_,fun H2 D g n=>?_⟩
      ·have hi:i<ns.length:=(Li.mp e2).1;have e3:(oH ns.length)[i]?=some (.int (i:Int)):=by simp[hi]
       rw[e3] at e1;cases e1;refine⟨_,_,_,rfl,?_,by rw[<- hK];exact aV.of (g.same _ _ hq),?_⟩
       ·show [(σ[j]?).getD none]=_;rw[hw];rfl
       ·exact b6 (by rw[Lw,e2];rfl)
      ·refine k _ _ _ _ (Vr.gr (l1.same g.same) (?_:ak F.K _ B _ ((eH ns (List.range ns.length)).map fun k=>T.int ((k:Nat):Int))) n) (f.trans fun b o e z=>⟨ba.new n b o (g.same b o e),fun y=>?_⟩) k1 q
       ·rw[lZ];exact (eH ns (List.range ns.length)).rec .nil fun a l ih=>.cons (.int _) ih
       ·rcases y with y|y
        ·subst y;rw[g.same b o e] at n;cases n
        ·exact z y
  ·exact q1.elim
theorem HR{us:UA}{pos:Pos}{z:Str}{Pt d:Addr}(K:Qa)(hK:X.K=K)(hx:z∈cQ)(ht:PySem.W.tabIn K z=some (c,Pt))(hcode:X.env.code=.ref c)(hq:X.env.qual=z++".<locals>.")(hdef:defaultsOf params X.env=([],[]))(hcl:closureFor scope X.env=pure [(y,d)])
  (hg:Gl X "sorted") (hm:X.mg "sorted"=none) (ha:YA X [e] us) (hr:aQ (k+3) X.A)
  (hsc:scope={kind:=.function,names:=[(x,.local),(y,.free)],isGenerator:=false,isCoroutine:=false,more:=[]}) (hxy:y≠x) (hx1:(x ==("__debug__":Str))=false) (hx2:(x ==("__classdict__":Str))=false) (hy1:(y ==("__debug__":Str))=false) (hy2:(y ==("__classdict__":Str))=false)
  (hj:X.N[j]?=some y) (hyc:X.env.scope.names.lookup y=some .cell) (hyl:X.env.cells.lookup y=some d)
  (hbind:∀ c' pm ctv u,bindArgs (PySem.W.kla_fn "<lambda>" ((z++".<locals>.")++"<lambda>") params (.Subscript (.Name y p1) (.Name x p2) p3) scope [(y,d)] pm (.ref c') ctv) ⟨[u],[]⟩=pure [(x,u)]) (h1:autoParam (bR e=true) ℜ0) :
  YE X (.Call (.Name "sorted" p) [e] [⟨some "key",.Lambda params (.Subscript (.Name y p1) (.Name x p2) p3) scope lpos,kpos⟩] pos) (jx j us):=by
 subst hK;obtain⟨t,q,rr⟩:=ha;exact⟨_,⟨yN hg hm q.h h1 hr (zF hx ht hcode hq hdef hcl) hsc hxy hx1 hx2 hy1 hy2 hj hyc hyl hbind⟩,zr rr⟩
end Y
structure lh (K:Qa) (mg:Str->Option Value) (x:Str):Prop where
 ex:∃ c P,PySem.W.tabIn K x=some (c,P)/\∀ f cdv,xR K mg x f cdv->cdv=.ref c
theorem gG{P:Addr}{oc oc':Value}{od od':Option Addr}{sl sl':Array (Option Value)}{fd:FuncData}{vs:Array Value}(a:PySem.W.nsIn K mainGlobals x=some (some (.ref f)))(l:K.lookup f=some ⟨oc,od,.func fd,sl⟩)(hc:fd.code=.ref c)
  (lc:K.lookup c=some ⟨oc',od',.fields vs,sl'⟩) (hv:vs[11]?=some (.ref P)):PySem.W.tabIn K x=some (c,P):=by
 unfold PySem.W.tabIn;rw[a];dsimp only;rw[l];dsimp only;rw[hc];dsimp only;rw[lc];dsimp only;rw[hv]
theorem qG(a:PySem.W.nsIn K mainGlobals x=some none):PySem.W.tabIn K x=none:=by
 unfold PySem.W.tabIn;rw[a]
theorem lh.mk'{P:Addr}(X:K.In h)(G:h.Ns mainGlobals mg)(ht:PySem.W.tabIn K x=some (c,P)):lh K mg x:=
 ⟨c,P,ht,fun f cdv ⟨m,o,fd,lk,hd,e⟩=>by rw[<- e];exact PySem.W.law_code X G ht m (X _ _ lk) hd⟩
theorem fV.of{q:Program}{o1 o2 o3:Option (Addr×Addr)}(nt:PySem.W.noTabs K=true)(t1:PySem.W.tabIn K "by_worth"=o1)(t2:PySem.W.tabIn K "by_weight"=o2)(t3:PySem.W.tabIn K "code_of"=o3)(nd:((o1.toList++(o2.toList++o3.toList)).map (·.2)).Nodup)
  (f1:o1=none\/((recsOf q).find? (fun e=>e.name ==("by_worth":Str))).isSome=true) (f2:o2=none\/((recsOf q).find? (fun e=>e.name ==("by_weight":Str))).isSome=true) (f3:o3=none\/((recsOf q).find? (fun e=>e.name ==("code_of":Str))).isSome=true):fV q K:=by
 refine⟨nt,?_,fun x hx=>?_⟩
 ·have e:(bA K).map (·.2.1)=(o1.toList++(o2.toList++o3.toList)).map (·.2):=by
   unfold bA cQ
   cases o1<;>cases o2<;>cases o3<;>simp[List.filterMap,t1,t2,t3]
  rw[e];exact nd
 ·unfold cQ at hx;rcases Ll.mp hx with rfl|hx
  ·rw[t1];exact f1
  ·rcases Ll.mp hx with rfl|hx
   ·rw[t2];exact f2
   ·rw[Ln.mp hx,t3];exact f3
theorem kP{prog:Program}{w:World}:∀{ns:List Int} {us:List Value},Vals (ns.map V.int) us->(∀ i∈ns,i.natAbs<2^32)->∃ ts:List Str,ReprAll prog w us ts/\ts.length=ns.length/\∀ t∈ts,t.length<=33
 |[],_,.nil,_=>⟨[],.nil,rfl,fun _ z=>nomatch z⟩
 |n::ns,_,.cons ⟨t,e⟩ r,h=>by
  subst e;obtain⟨ts,h1,h2,h3⟩:=kP (prog:=prog) (w:=w) r fun i hi=>h i (Le _ hi);have hn:=h n (Lj ..);have hlog:n.natAbs.log2<32:=by
   by_cases z:n.natAbs=0
   ·rw[z];decide
   ·exact (Pz z).mpr hn
  refine⟨Str.ofString (toString n)::ts,.cons (ReprIs.int t (PY hlog (by decide))) h1,by rw[KZ,KZ,h2],fun x hx=>?_⟩
  rcases Ll.mp hx with rfl|hx
  ·rw[PySem.ofString_length];exact int_text_length_le (by decide) hlog
  ·exact h3 x hx
theorem Cp:∀{ts:List Str},(∀ t∈ts,t.length<=33)->(ts.map (·.length)).sum<=33*ts.length
 |[],_=>Lf _
 |t::ts,h=>by
  have h1:=h t (Lj ..);have h2:=Cp fun x hx=>h x (Le _ hx);rw[Lz,M7,KZ];lia
namespace Y
section
variable {X:Cx} {e:Expr} {vs:List Expr} {ue:UE} {u:UJ} {pos p:Pos}
noncomputable def Iu(ue:UE)(u:UJ):UJ:=fun μ Q=>ue μ fun r μ'=>match r with
 |.tr (.tup ts)=>∃ ns:List Int,ts=ns.map T.int/\ns.length<=50/\(∀ i∈ns,i.natAbs<2^32)/\u μ' Q
 |_=>False
theorem J6(hr:aQ m X.A)(he:YE X e ue)(h:YJ X vs u)(hev:autoParam (evalEach (.FormattedValue e 114 none p::vs) X.env=eval (.FormattedValue e 114 none p) X.env::evalEach vs X.env) ℜ0):YJ X (.FormattedValue e 114 none p::vs) (Iu ue u):=by
 obtain⟨t,qe,r⟩:=he;refine⟨fun F ad B σ H μ Qt pins s acc k R hF l q I ha hk hR=>?_⟩;rw[hev];refine wpAny_FormattedValue_repr ?_;refine bE (qe.h pins s σ H (fun v H1=>∃ r1 μ1,Vr F ad B σ H1 μ1 v r1/\Fr B H (Bv B v r1) H1/\Kp μ μ1/\(match r1 with
  |.tr (.tup ts)=>∃ ns:List Int,ts=ns.map T.int/\ns.length<=50/\(∀ i∈ns,i.natAbs<2^32)/\u μ1 Qt
  |_=>False)) I (r F ad B σ H μ _ _ hF l q fun v H1 r1 μ1 w f k1 q1=>⟨r1,μ1,w,f,k1,q1⟩)) fun v s1 ⟨v',H1,I1,rv,r1,μ1,w,f,k1,q1⟩=>?_
 split at q1
 ·obtain⟨ns,rfl,hn,hi,q1⟩:=q1;obtain⟨l1,rp⟩:=w;have rp':Rep F.K H1 B v' (.tup (ns.map T.int)):=rp
  cases rp' with
  |tup nb hp rr =>
   cases rv;have ev:=cE rr;obtain⟨its,vv,pl,hz⟩:=I1.tuple (aV.of (K:=X.K) hp);rw[ev] at vv;obtain⟨ts,g1,g2,g3⟩:=kP (prog:=X.prog) (w:=X.w) vv hi;have hlen:(tupleText ts).length<=1800:=by
    have a1:=tupleText_len_le ts;have a2:=Cp g3;lia
   obtain⟨o,ho,hc,n,hd⟩:=pl;refine wpAny_pyReprObj_tuple ⟨o,ho,hc⟩ hr.gd (fun c z=>nomatch z) hr.EY ho hd (by simpa using g1) (fun tu tk=>?_) (eJ (by lia))
   have fin:∀(s3:Shared) (t3:Tok),Inv X pins σ H1 s3->∃ y t,(Value.str (tupleText ts) t3)=.str y t/\(acc++y).length<=sizeLine/\Joins (model X.prog X.w) X.A X.xe (evalEach vs X.env) (acc++y) R s3:=fun s3 t3 J=>by
    rw[KZ] at hk;refine⟨_,_,rfl,by rw[eY];exact eJ (by lia),?_⟩
    exact h.run F ad B σ H1 μ1 Qt pins s3 (acc++tupleText ts) (k+1) R hF l1 q1 J (by rw[eY];lia) (by lia) fun H' μ' s' out l' f' k'=>hR H' μ' s' out l' (f.trans f') (k1.trans k')
   exact wpAny_formatField_str (fin _ _ (I1.tok _)) (fin _ _ (I1.tok _)) (eJ (by lia))
 ·exact q1.elim
end
noncomputable def sE:V->List V->Hp->VK->Prop:=fun x vs H Q=>∃ z y,x=.str z/\vs=[.str y]/\z.length<=sizeLine/\Q (.str (Txt.rstripChars z y)) H
theorem tV:uS X "str.rstrip" sE:=by
 intro pins s σ H x xs v us Q I rx rs h;obtain⟨z,y,rfl,rfl,hz,q⟩:=h;obtain⟨t,rfl⟩:=rx;obtain⟨u,rfl,k,rfl⟩:=vals1 rs;exact SC.rstripChars (fun t' k=>⟨.str _,H,I.tok _,⟨_,rfl⟩,q⟩) hz
noncomputable def nr:Dd:=fun z rs μ Q=>match rs with
 |[.tr (.str y)]=>z.length<=1000/\Q (.tr (.str (Txt.rstripChars z y))) μ
 |_=>False
theorem va:Im K sE nr:=by
 intro F ad B σ H μ Q Qt z xs rs hF l ps q k;unfold nr at q
 split at q
 ·cases ps with
  |cons h ps =>
   cases ps
   cases aL h
   exact⟨z,_,rfl,rfl,eJ (Lr q.1 (by decide)),k _ H _ μ (Vr.flat l (.str _)) Fr.refl (Kp.refl μ) q.2⟩
 ·exact q.elim
noncomputable def xQ:V->List V->Hp->VK->Prop:=fun x vs H Q=>∃ z i y,x=.str z/\vs=[.int i,.str y]/\0<=i/\i<1000/\y.length=1/\Q (.str (Txt.ljustF z i (y.cps.getD 0 0))) H
theorem yq:uS X "str.ljust" xQ:=by
 intro pins s σ H x xs v us Q I rx rs h;obtain⟨z,i,y,rfl,rfl,h0,h1,hy,q⟩:=h;obtain⟨t,rfl⟩:=rx;obtain⟨u1,u2,rfl,⟨t1,rfl⟩,⟨t2,rfl⟩⟩:=vals2 rs;exact ljust_fill (padOk_of (by lia) (by lia)) hy fun t' k=>⟨.str _,H,I.tok _,⟨_,rfl⟩,q⟩
noncomputable def qr:Dd:=fun z rs μ Q=>match rs with
 |[.tr (.int i),.tr (.str y)]=>0<=i/\i<1000/\y.length=1/\Q (.tr (.str (Txt.ljustF z i (y.cps.getD 0 0)))) μ
 |_=>False
theorem wz:Im K xQ qr:=by
 intro F ad B σ H μ Q Qt z xs rs hF l ps q k;unfold qr at q
 split at q
 ·cases ps with
  |cons h ps =>
   cases ps with
   |cons h2 ps =>
    cases ps
    cases aL h
    cases aL h2
    exact⟨z,_,_,rfl,rfl,q.1,q.2.1,q.2.2.1,k _ H _ μ (Vr.flat l (.str _)) Fr.refl (Kp.refl μ) q.2.2.2⟩
 ·exact q.elim
end Y
theorem ae.calm{P:Program}{base:Heap}{ps:List Str}{md:List Bool}{tsx:vA}{tsp:dX}(F:ae P w K mg base (nF P w) k x ps (sW K md tsx))(h:∀ args Q,tsp args Q->tsx args Q fun _=>False):ae P w K mg base aT k x ps (spT K md tsp):=by
 obtain⟨f,fd,m,kp,b,G⟩:=F.ex;have to:∀ vs H Q E,spT K md tsp vs H Q E->sW K md tsx vs H Q (fun _ _ _=>False):=fun vs H Q E ⟨B,args,Qt,ag,bh,nd,ht,fin⟩=>⟨fun _=>False,⟨B,args,Qt,ag,bh,nd,h _ _ ht,fin⟩,fun x cls d e H' z=>z.elim⟩;refine⟨f,fd,m,kp,b,⟨fun vs H Q E q=>G.len vs H Q _ (to _ _ _ _ q),fun A outer s H args us vs Q E hr e0 hb r q=>OU (G.run A outer s H args us vs Q _ hr e0 hb r (to _ _ _ _ q)) fun r s' hq=>?_⟩⟩
 cases r with
 |error e =>
  obtain⟨_,_,_,_,_,_,_,_,_,_,_,_,_,_,_,_,z⟩:=hq;exact z.elim
 |ok fl=>cases fl<;>exact hq
theorem p8(x y:Str):(Txt.rstripChars x y).cps.toList.reverse=x.cps.toList.reverse.dropWhile y.cps.contains:=by
 have key:∀(p:Nat->Bool) (l:List Nat),(l.take (l.length-(l.reverse.takeWhile p).length)).reverse=l.reverse.dropWhile p:=fun p l=>by
  have h:(l.reverse.takeWhile p).length<=l.length:=by simpa using (List.takeWhile_sublist p (l:=l.reverse)).length_le
  rw[List.reverse_take,<- sU];congr 1;lia
 have hl:x.length=x.cps.toList.length:=by rw[LH];rfl
 rw[<- key];unfold Txt.rstripChars Txt.stripBy;split
 ·rename_i h;unfold stripSame at h;rw[LS] at h;have h2:x.length-(x.cps.toList.reverse.takeWhile y.cps.contains).length=x.length:=by simpa[stripLo,stripHi] using h.2
  rw[<- hl,h2,hl,Pb]
 ·have e:∀(a:Array Nat) (j:Nat),(a.extract 0 j).toList=a.toList.take j:=fun a j=>by simp
  have e2:=e x.cps (x.length-(x.cps.toList.reverse.takeWhile y.cps.contains).length);rw[hl] at e2;exact LF List.reverse e2
namespace A
theorem jx(j:Nat)(us:UA)(μ:Mu)(Q:R->Mu->Prop):Y.jx j us μ Q=us μ fun rs μ1=>match rs,μ1[j]? with
 |[.tr (.dB lo hi)],some (.tr (.tup ts))=>∃ ns:List Int,ts=ns.map T.int/\lo=0/\hi=ns.length/\ns.length<64/\Q (.fr (.lst ((eH ns (List.range ns.length)).map fun k=>T.int ((k:Nat):Int)))) μ1
 |_,_=>False:=rfl
theorem Ag(ts:List T)(μ:Mu)(Q:R->Mu->Prop):Y.mF (.lst ts) μ Q=(∃ kz:List Int,ts.map zv=kz.map some/\ts.length<64/\Q (.fr (.lst (eH kz ts))) μ):=rfl
theorem Iu(ue:UE)(u:UJ)(μ:Mu)(Q:Mu->Prop):Y.Iu ue u μ Q=ue μ fun r μ'=>match r with
 |.tr (.tup ts)=>∃ ns:List Int,ts=ns.map T.int/\ns.length<=50/\(∀ i∈ns,i.natAbs<2^32)/\u μ' Q
 |_=>False:=rfl
theorem yX(z y:Str)(μ:Mu)(Q:R->Mu->Prop):Y.nr z [.tr (.str y)] μ Q=(z.length<=1000/\Q (.tr (.str (Txt.rstripChars z y))) μ):=rfl
theorem AI(z:Str)(i:Int)(y:Str)(μ:Mu)(Q:R->Mu->Prop):Y.qr z [.tr (.int i),.tr (.str y)] μ Q=(0<=i/\i<1000/\y.length=1/\Q (.tr (.str (Txt.ljustF z i (y.cps.getD 0 0)))) μ):=rfl
end A
namespace Y
noncomputable def Cu:R2:=fun x y H Q=>∃(c:Nat) (k:Int),x=.str ⟨#[c]⟩/\y=.int k/\0<=k/\k<=1000/\Q (.str ⟨(List.replicate k.toNat c).toArray⟩) H
theorem B8:d7 X (binaryOp .Mult) Cu:=by
 intro pins s σ H x y v u Q I rx ry h;obtain⟨c,k,rfl,rfl,h0,h1,q⟩:=h;obtain⟨t,rfl⟩:=rx;obtain⟨t2,rfl⟩:=ry;have e:Txt.mul ⟨#[c]⟩ k=⟨(List.replicate k.toNat c).toArray⟩:=by
  have:=mul_one_list c k
  cases hz:Txt.mul ⟨#[c]⟩ k with
  |mk a=>rw[hz] at this;rw[<- this,N8]
 have ok:MulOk ⟨#[c]⟩ k:=by
  refine⟨by simp only[Bool.or_eq_false_iff,decide_eq_false_iff_not];lia,fun z _=>?_,fun z _=>?_⟩
  ·have hl:((⟨#[c]⟩:Str).length:Int)=1:=rfl;rw[hl];have:1<=(2^63-1) / k:=by
    rw[Int.le_ediv_iff_mul_le (by lia)];lia
   lia
  ·have hl:(⟨#[c]⟩:Str).length=1:=rfl;rw[hl,Nat.one_mul];exact L0 (PJ.mpr (Lr (show k.toNat<=1000 by lia) (by decide)))
 exact SB.mul ok fun t' j=>⟨.str _,H,I.tok _,⟨t',by rw[e]⟩,q⟩
noncomputable def wD:U2:=fun r1 r2 μ Q=>match cont μ r1,cont μ r2 with
 |some (.str z),some (.int k)=>∃ c:Nat,z=⟨#[c]⟩/\0<=k/\k<=1000/\Q (.tr (.str ⟨(List.replicate k.toNat c).toArray⟩)) μ
 |_,_=>False
theorem zT:ke K Cu wD:=by
 intro F ad B σ H μ Q Qt x y r1 r2 hK l h1 h2 q k;unfold wD at q
 split at q
 ·rename_i z j e1 e2;obtain⟨c,rfl,g0,g1,q⟩:=q;have v1:=Hv.vw l h1 e1;have v2:=Hv.vw l h2 e2;cases v1;cases v2;exact⟨c,j,rfl,rfl,g0,g1,k _ H _ μ (Vr.flat l (.str _)) Fr.refl (Kp.refl μ) q⟩
 ·exact q.elim
end Y
namespace A
theorem Eu(z:Str)(k:Int)(μ:Mu)(Q:R->Mu->Prop):Y.wD (.tr (.str z)) (.tr (.int k)) μ Q=(∃ c:Nat,z=⟨#[c]⟩/\0<=k/\k<=1000/\Q (.tr (.str ⟨(List.replicate k.toNat c).toArray⟩)) μ):=rfl
end A
theorem oX:∀{ns:List Int} {us:List Value} (r:Vals (ns.map V.int) us) (k:Int),us.countP (fun v=>match v with|.int j _=>j == k|_=>false)=ns.count k
 |[],_,.nil,k=>rfl
 |n::ns,_,.cons r t,k=>by
  obtain⟨u,rfl⟩:=r;rw[List.countP_cons,oX t k,Ow]
theorem pJ:∀{ns:List Int} {us:List Value} (r:Vals (ns.map V.int) us),∀ y∈us,∃ j t,y=.int j t
 |[],_,.nil,y,h=>by cases h
 |n::ns,_,.cons r t,y,h=>by
  obtain⟨u,rfl⟩:=r;rcases Ll.mp h with e|e
  ·exact⟨_,_,e⟩
  ·exact pJ t y e
namespace Y
noncomputable def HK:V->List V->Hp->VK->Prop:=fun x vs H Q=>∃(a:Addr) (ns:List Int) (k:Int),x=.ref a/\H a=some (.lst (ns.map V.int))/\vs=[.int k]/\Q (.int (ns.count k:Nat)) H
theorem ED:FF X "list.count" HK:=by
 intro pins s σ H x xs v us Q I rx rs h;obtain⟨a,ns,k,rfl,hH,rfl,q⟩:=h;cases rx;obtain⟨u,rfl,t,rfl⟩:=vals1 rs;obtain⟨z,its,n,r,hl,e⟩:=I.kg hH;refine Mr PySem.F.slot_list_count ⟨_,e,rfl⟩ PySem.F.entry_list_count (PySem.F.args_list_count_2 _ _) (SeqAt.list_countAt a its.toArray n none _ (.int k t) (fun v=>match v with|.int j _=>j == k|_=>false)) ⟨e,fun y hy=>?_,⟨.int _,H,I.tok _,⟨_,rfl⟩,?_⟩⟩
 ·obtain⟨j,u,rfl⟩:=pJ r y (by simpa using hy)
  exact SeqAt.EqAt.int_int _ _ _ _
 ·show Q (.int (((its.toArray).toList.countP _:Nat):Int)) H;rw[oX r k];exact q
noncomputable def yb:UM:=fun j rs μ Q=>match rs with
 |[.tr (.int k)]=>(match (μ[j]?).bind Sl.box with
  |some (.lst ts)=>∃ ns:List Int,ts=ns.map T.int/\Q (.tr (.int (ns.count k:Nat))) μ
  |_=>False)
 |_=>False
theorem Er:RM K HK yb:=by
 intro F ad B σ H μ Q Qt j s c xs rs hF l e b ps q k;unfold yb at q
 split at q
 ·rename_i z
  cases ps with
  |cons h ps =>
   cases ps;rw[e] at q
   cases aL h
   have q':(match s.box with|some (.lst ts)=>∃ ns:List Int,ts=ns.map T.int/\Qt (.tr (.int (ns.count z:Nat))) μ|_=>False):=q
   rw[b] at q';rcases ((l.slot j s e).boxed b).2.2.1.is with ⟨ts,vs,rfl,hl,rv⟩|⟨_,_,_,rfl,_⟩
   case inr=>exact q'.elim
   simp only at q';obtain⟨ns,rfl,q2⟩:=q';rw[Y.cE rv] at hl;exact⟨_,ns,z,rfl,hl,rfl,k _ H _ μ (Vr.flat l (.int _)) Fr.refl (Kp.refl μ) q2⟩
 ·exact q.elim
noncomputable def Hs:V->List V->Hp->VK->Prop:=fun x vs H Q=>∃ l b xs ys,x=.ref l/\vs=[.ref b]/\b≠l/\H l=some (.lst xs)/\H b=some (.lst ys)/\xs.length+ys.length<=sizeLine/\Q .aw (upd H l (.lst (xs++ys)))
theorem Ep:FF X "list.extend" Hs:=by
 intro pins s σ H x vs v us Q I rx rv h;obtain⟨l,b,xs,ys,rfl,rfl,hne,hH,hb,hz,q⟩:=h;cases rx;obtain⟨u,rfl,ru⟩:=vals1 rv;cases ru;obtain⟨z,its,n,r,hl,e⟩:=I.kg hH;obtain⟨z2,its2,n2,r2,hl2,e2⟩:=I.kg hb;have hsz:its.toArray.size+its2.toArray.size<=sizeLine:=by rw[Lh,Lh];lia
 refine Mr F.slot_list_extend ⟨_,e,rfl⟩ F.entry_list_extend (F.args_list_extend_2 _ _) (AutoSeq1.list_extend_list_list_0 l its.toArray n b its2.toArray n2 (extend_door hsz) (by lia) (by lia)) ⟨e,e2,?_⟩
 refine⟨.aw,_,I.Ad (its':=its++its2) hH e ?_ (r.append r2) (by rw[KW];exact hz),rfl,q⟩
 apply Array.toList_inj.mp;simp
noncomputable def vV:UM:=fun j rs μ Q=>match rs with
 |[.tr (.lst us)]=>(match (μ[j]?).bind Sl.box with
  |some (.lst ts)=>ts.length+us.length<=sizeLine/\Q (.tr .aw) (cB μ j (.lst (ts++us)))
  |_=>False)
 |_=>False
theorem De:RM K Hs vV:=by
 intro F ad B σ H μ Q Qt j s c xs rs hF l e b ps q k;unfold vV at q
 split at q
 ·rename_i us
  cases ps with
  |cons h1 ps =>
   cases ps;have rt:=aL h1;rw[e] at q;have q':(match s.box with|some (.lst ts)=>ts.length+us.length<=sizeLine/\Qt (.tr .aw) (cB μ j (.lst (ts++us)))|_=>False):=q
   rw[b] at q';rcases ((l.slot j s e).boxed b).2.2.1.is with ⟨ts,vs,rfl,hl,rv⟩|⟨_,_,_,rfl,_⟩
   case inr=>exact q'.elim
   obtain⟨hz,q2⟩:=(show ts.length+us.length<=sizeLine/\_ from q');have hB:=((l.slot j s e).boxed b).2.1
   cases rt with
   |lst nb hb r2 =>
    rename_i a2 vs2;refine⟨_,a2,vs,vs2,rfl,rfl,fun z=>nb (z ▸ hB),hl,hb,by rw[rv.length,r2.length];exact hz,?_⟩
    have l3:=l.put e b (rv.append r2);unfold cB at q2;rw[e] at q2;exact k _ _ (.tr .aw) _ (Vr.flat l3 .aw) (Fr.set hB) (Kp.set e b (Sl.gI b)) q2
 ·exact q.elim
end Y
noncomputable def AB:Bool->List α->List α
 |_,[]=>[]
 |true,x::r=>x::AB false r
 |false,_::r=>AB true r
noncomputable def kf(l:List α):List α:=AB true l
theorem Bw(ys:List α):∀ b,(AB b ys).length<=ys.length:=by
 induction ys with
 |nil=>exact fun b=>by cases b<;>exact Lf _
 |cons y r ih =>
  intro b
  cases b with
  |true=>exact Nat.succ_le_succ (ih false)
  |false=>exact Nat.le_succ_of_le (ih true)
theorem BC(ys:List α):(kf ys).length<=ys.length:=Bw ys true
theorem Vals.kf(h:Vals xs us):Vals (kf xs) (kf us):=by
 have k:∀ b,Vals (AB b xs) (AB b us):=by
  induction h with
  |nil=>exact fun b=>by cases b<;>exact .nil
  |cons h _ ih =>
   intro b
   cases b with
   |true=>exact .cons h (ih false)
   |false=>exact ih true
 exact k true
theorem ak.kf{us:List T}(h:ak K H B xs us):ak K H B (kf xs) (kf us):=by
 have k:∀ b,ak K H B (AB b xs) (AB b us):=by
  induction xs generalizing us with
  |nil=>cases h;exact fun b=>by cases b<;>exact .nil
  |cons x xs ih =>
   cases h with
   |cons h r =>
    intro b
    cases b with
    |true=>exact .cons h (ih r false)
    |false=>exact ih r true
 exact k true
theorem zx(xs:List α)(n m:Nat)(h:(xs.length-m+1) / 2=n):((List.range n).map fun k=>m+2*k).filterMap (fun i=>xs[i]?)=kf (xs.drop m):=by
 induction n generalizing m with
 |zero=>rw[List.drop_of_length_le (by lia)];rfl
 |succ n ih =>
  have hm:m<xs.length:=by lia
  have h2:(xs.length-(m+2)+1) / 2=n:=by lia
  rw[P4,Lz,NA];show (match xs[m]? with|none=>_|some b=>_)=_
  rw[KY hm];have e2:kf (xs.drop m)=xs[m]::kf (xs.drop (m+2)):=by
   rw[LJ hm];show xs[m]::AB false (xs.drop (m+1))=_;congr 1;rw[<- List.drop_drop (i:=1) (j:=m+1)];generalize xs.drop (m+1)=z
   cases z<;>rfl
  rw[e2,<- ih (m+2) h2,Ml];show xs[m]::_=xs[m]::_;congr 2;exact M4 fun k _=>by show m+2*(k+1)=m+2+2*k;rw[P_,PU (2*k),PN]
theorem zp(items:Array Value)(m:Nat):slicePick items (some (m:Int)) none (some 2)=(kf (items.toList.drop m)).toArray:=by
 unfold slicePick;have hb:sliceBounds (some (m:Int)) none (some 2) items.size=(((min m items.size:Nat):Int),(items.size:Int),2):=by
  unfold sliceBounds;simp only[Option.getD_some];rw[K_ (show ¬ (m:Int)<0 by lia)]
  simp only[show (2:Int) > 0 by decide,M1]
  congr 1;lia
 rw[hb];show ((sliceRange ((min m items.size:Nat):Int) (items.size:Int) 2).filterMap (items[·]?)).toArray=_;congr 1;have el:items.toList.length=items.size:=LH;unfold sliceRange;simp only[show (2:Int) > 0 by decide,M1]
 have ec:(if ((min m items.size:Nat):Int)<(items.size:Int) then ((items.size:Int)-((min m items.size:Nat):Int)+2-1) / 2 else 0).toNat=(items.size-m+1) / 2:=by
  split<;>lia
 rw[ec,<- zx items.toList _ m (by rw[el])]
 have ei:(fun i:Nat=>items[i]?)=fun i=>items.toList[i]?:=funext fun i=>(L8).symm;rw[ei];congr 1;refine M4 fun k hk=>?_;have hk':=LZ.mp hk;lia
section
variable {X:Cx} {e:Expr} {te:TE}
noncomputable def J_(K:Qa)(m:Nat)(te:TE):TE:=fun σ H Q=>te σ H fun x H1=>∃ a xs,x=V.ref a/\bz K H1 a xs/\∀ p,H1 p=none->Q (.ref p) (upd H1 p (.lst (kf (xs.drop m))))
theorem C_{i:Int}{j2:Nat}{pos:Pos}(hi:i=(m:Int))(he:PE X e te):PE X (.Subscript e (.Slice (some (.Constant (.int i) j p1)) none (some (.Constant (.int 2) j2 p3)) p2) pos) (J_ X.K m te):=by
 subst hi;intro pins s σ H Q I h;refine Subscript_ (bE (he pins s σ H _ I h) fun v s1 ⟨x,H1,I1,r1,q1⟩=>?_);refine wpAny_Slice (bE (mJ i_ pins s1 σ H1 (fun o H2=>o=some (m:Int)/\H2=H1) I1 ⟨_,rfl,rfl,rfl⟩) fun vl s2 ⟨l,H2,I2,pl,el,eh⟩=>?_);subst el eh;refine bE (si pins s2 σ H2 (fun o H3=>o=none/\H3=H2) I2 ⟨rfl,rfl⟩) fun vu s3 ⟨u,H3,I3,pu,eu,eh⟩=>?_;subst eu eh;refine bE (mJ i_ pins s3 σ H3 (fun o H4=>o=some 2/\H4=H3) I3 ⟨_,rfl,rfl,rfl⟩) fun vk s4 ⟨k,H4,I4,pk,ek,eh⟩=>?_;subst ek eh;obtain⟨a,xs,rfl,hx,q⟩:=q1;cases r1;have I5:Inv X pins σ H4 {s4 with heap:=s4.heap.push {cls:=.type "slice",data:=.fields #[vl,vu,vk]}}:=I4.kept (t':=s4.toks) fun b ob q=>KU _ q
 obtain⟨its,r,ht,hz⟩:=I5.list hx;have hlen:=r.length;have hg:wpAny (model X.prog X.w) X.A (getItem (.ref a) (.ref s4.heap.objs.size)) (EP X pins σ Q) X.xe {s4 with heap:=s4.heap.push {cls:=.type "slice",data:=.fields #[vl,vu,vk]}}:=by
  refine OW ht.isList (Heap.IsSliceOf.new ..) pl pu pk (by simp) ?_ (by rw[Lh]<;>lia)
  rw[zp];refine⟨.ref _,_,I5.laid (t':=s4.toks) (o:=.lst (kf (xs.drop m))) (fun b ob q=>KU _ q) (Lf _) ?_,rfl,q _ (I5.aD.fresh (Lf _))⟩;refine⟨by have:=BC (xs.drop m);rw[Nf] at this;lia,kf (its.drop m),0,Vals.kf (r.drop m),?_⟩
  exact Lo _ rfl
 show wpAny (model X.prog X.w) X.A (subscriptTail e (.Slice (some (.Constant (.int (m:Int)) j p1)) none (some (.Constant (.int 2) j2 p3)) p2) (.ref a) (.ref s4.heap.objs.size)) (EP X pins σ Q) X.xe {s4 with heap:=s4.heap.push {cls:=.type "slice",data:=.fields #[vl,vu,vk]}}
 exact tail_any (ops:=[.ref a,.ref s4.heap.objs.size]) ht.isList.typeIs OJ.lookup hg (by with_unfolding_all rfl)
end
namespace Y
noncomputable def By(m:Nat)(o:Option T):Option (Prop×R):=match o with
 |some (.lst xs)=>some (True,.fr (.lst (kf (xs.drop m))))
 |_=>none
noncomputable def A_(m:Nat)(ue:UE):UE:=fun μ Q=>ue μ fun r μ'=>lP (By m (cont μ' r.d)) fun r=>Q r μ'
theorem wL(K:Qa)(hK:X.K=K)(m:Nat){i:Int}(hi:i=(m:Int)){j2:Nat}{pos:Pos}(he:YE X e ue):YE X (.Subscript e (.Slice (some (.Constant (.int i) j p1)) none (some (.Constant (.int 2) j2 p3)) p2) pos) (A_ m ue):=by
 obtain⟨t,q,r⟩:=he;subst hK;refine⟨_,⟨C_ hi q.h⟩,fun F ad B σ H μ Q Qt hF l q k=>r F ad B σ H μ _ _ hF l q fun v H1 r1 μ1 v1 f1 k1 q1=>?_⟩;have w:=fun t (e:cont μ1 r1.d=some t)=>v1.hv.vw v1.rl e;revert q1 w;unfold By
 cases cont μ1 r1.d with
 |none=>exact fun q1 _=>q1.elim
 |some t =>
  intro q1 w;have w:=w t rfl;rw[hF] at w
  cases w with
  |lst ha ra=>exact⟨_,_,rfl,bz.of ha,fun p hp=>k _ _ _ μ1 (Vr.gr v1.rl (by rw[hF];exact ak.kf (ra.drop m)) hp) (f1.d.trans (Fr.more hp)) k1 q1.2⟩
  |_=>exact q1.elim
end Y
namespace A
theorem yb(j:Nat)(k:Int)(μ:Mu)(Q:R->Mu->Prop):Y.yb j [.tr (.int k)] μ Q=(match (μ[j]?).bind Sl.box with
  |some (.lst ts)=>∃ ns:List Int,ts=ns.map T.int/\Q (.tr (.int (ns.count k:Nat))) μ
  |_=>False):=rfl
theorem vV(j:Nat)(us:List T)(μ:Mu)(Q:R->Mu->Prop):Y.vV j [.tr (.lst us)] μ Q=(match (μ[j]?).bind Sl.box with
  |some (.lst ts)=>ts.length+us.length<=sizeLine/\Q (.tr .aw) (cB μ j (.lst (ts++us)))
  |_=>False):=rfl
theorem A_(m:Nat)(ue:UE)(μ:Mu)(Q:R->Mu->Prop):Y.A_ m ue μ Q=ue μ fun r μ'=>lP (Y.By m (cont μ' r.d)) fun r=>Q r μ':=rfl
theorem Ge(m:Nat)(xs:List T):Y.By m (some (.lst xs))=some (True,.fr (.lst (kf (xs.drop m)))):=rfl
end A
namespace Y
noncomputable def wm(K:Qa):List V->Hp->VK->Prop:=fun xs H Q=>Ce K xs H Q\/∃ p ns,xs=[.ref p]/\bz K H p (ns.map V.int)/\ns.length<64/\∀ ns':List Int,ns'.Perm ns->ns'.Pairwise (·<=·)->∀ l,H l=none->Q (.ref l) (upd H l (.lst (ns'.map V.int)))
theorem qo(K:Qa)(hK:X.K=K):aF X (.builtin "sorted") (wm K):=by
 refine (u_ K hK).or ?_;subst hK;intro pins s σ H xs us Q I r h;obtain⟨p,ns,rfl,hq,h64,q⟩:=h;obtain⟨u,rfl,ru⟩:=vals1 r;cases ru;obtain⟨its,rv,pl,hz⟩:=I.list hq;have hi:=intsAre_of rv;refine sorted_ints pl.isList hi (by rw[jE hi];exact h64) fun out ns' a1 a2 a3=>?_
 obtain⟨e,he⟩:=sortedAll_at s.heap its out;refine⟨.ref (s.heap.objs.size+1),_,I.laid (t':=s.toks) (fun b ob q=>sortedAll_old q) (Nr _) (show aU X.prog X.w _ _ _ (.lst (ns'.map V.int)) from⟨?_,out.toList,e,eK a1,by simpa using he⟩),rfl,q ns' a2 a3 _ (I.aD.fresh (Nr _))⟩
 rw[Ld,a2.length_eq];exact Lr (Nc h64) (by decide)
noncomputable def xH:T->Mu->(R->Mu->Prop)->Prop:=fun t μ Q=>match t with
 |.tup xs=>∃ ns:List Int,xs=ns.map T.int/\ns.length<64/\∀ ns':List Int,ns'.Perm ns->ns'.Pairwise (·<=·)->Q (.fr (.lst (ns'.map T.int))) μ
 |.lst xs=>∃ ns:List Int,xs=ns.map T.int/\ns.length<64/\∀ ns':List Int,ns'.Perm ns->ns'.Pairwise (·<=·)->Q (.fr (.lst (ns'.map T.int))) μ
 |_=>False
theorem wk:RC K (wm K) (vK xH):=jt fun F ad B σ H μ Q Qt x t hK l v1 q k=>by
 subst hK
 cases v1 with
 |tup ha ra =>
  obtain⟨ns,rfl,h64,q⟩:=q;exact .inl ⟨_,ns,rfl,by rw[<- Y.cE ra];exact aV.of ha,h64,fun ns' a2 a3 p hp=>k _ _ _ (Vr.gr l (dn _) hp) (Fr.more hp) (q ns' a2 a3)⟩
 |lst ha ra =>
  obtain⟨ns,rfl,h64,q⟩:=q;exact .inr ⟨_,ns,rfl,by rw[<- Y.cE ra];exact bz.of ha,h64,fun ns' a2 a3 p hp=>k _ _ _ (Vr.gr l (dn _) hp) (Fr.more hp) (q ns' a2 a3)⟩
 |_=>exact q.elim
noncomputable def Gy:V->List V->Hp->VK->Prop:=fun x vs H Q=>∃ a:Int,x=.int a/\vs=[]/\Q (.int (Builtin.Int.intBits a:Nat)) H
theorem BQ:uS X "int.bit_length" Gy:=by
 intro pins s σ H x xs v us Q I rx rs h;obtain⟨a,rfl,rfl,q⟩:=h;obtain⟨t,rfl⟩:=rx;cases rs;exact call_int_bit_length ⟨.int _,H,I.tok _,⟨_,rfl⟩,q⟩
noncomputable def sH(uo:UE):UE:=fun μ Q=>uo μ fun r μ1=>match r with
 |.tr (.int a)=>Q (.tr (.int (Builtin.Int.intBits a:Nat))) μ1
 |_=>False
theorem bits{o:Expr}{uo:UE}{pos:Pos}(ho:YE X o uo)(hbase:autoParam (attributeBase o "bit_length" X.env (eval o X.env)=eval o X.env) ℜ0)(hline:autoParam ((apos.endLine == pos.line)=true) ℜ0):YE X (.Call (.Attribute o "bit_length" apos) [] [] pos) (sH uo):=by
 obtain⟨t,q,rr⟩:=ho;refine⟨_,⟨Eg PySem.F.plainAttrs_int PySem.F.slot_int_bit_length PySem.F.type_int_bit_length BQ q.h hbase hline⟩,fun F ad B σ H μ Q Qt hF l q k=>rr F ad B σ H μ _ _ hF l q fun v H1 r1 μ1 v1 f1 k1 q1=>?_⟩
 split at q1
 ·have rp:=v1.2;cases rp;exact⟨rfl,_,rfl,rfl,k _ H1 _ μ1 (Vr.flat v1.rl (.int _)) f1.d k1 q1⟩
 ·exact q1.elim
end Y
namespace A
theorem sH(uo:UE)(μ:Mu)(Q:R->Mu->Prop):Y.sH uo μ Q=uo μ fun r μ1=>match r with
 |.tr (.int a)=>Q (.tr (.int (Builtin.Int.intBits a:Nat))) μ1
 |_=>False:=rfl
end A
theorem au{u w:US}{E:Ed}{μ:Mu}(h:∀ N:Mu->Prop,(∀ μ',w E μ'->N μ')->u {E with nx:=N} μ):Y.BN u w E μ:=h _ fun _ z=>z
theorem lW{u w:iJ}{E:Ed}{Xt:Xw}{μ:Mu}(h:∀ N:Mu->Prop,(∀ μ',w E Xt μ'->N μ')->u {E with nx:=N} Xt μ):Y.Dg u w E Xt μ:=h _ fun _ z=>z
noncomputable def hJ(h:Heap)(d:Addr)(es:Array DictEntry)(ep:Nat):Prop:=∃ o,h.get? d=some o/\o.ExactDict/\o.data=.dict es ep
section
variable {prog:Program} {w:World} {A:Around} {E:Value->Shared->Prop} {s:Shared}
theorem hJ.ty{d:Addr}(x:hJ s.heap d es ep):s.TypeIs (.ref d) "dict":=let ⟨o,ho,hc,_⟩:=x;⟨o,ho,hc.1⟩
theorem hJ.keep{d:Addr}(x:hJ h d es ep)(k:∀ o,h.get? d=some o->h'.get? d=some o):hJ h' d es ep:=let ⟨o,ho,r⟩:=x;⟨o,k _ ho,r⟩
theorem hJ.lt{d:Addr}(x:hJ h d es ep):d<h.objs.size:=let ⟨_,ho,_⟩:=x;Lq ho
theorem Bt{d:Addr}(low:(d == sysModules)=false)(x:hJ s.heap d es ep)
  (q:Q (.ref s.heap.objs.size) {s with heap:=s.heap.push {cls:=.type "dict_keyiterator",data:=.fields #[.ref d,.int 0 0,.int es.size 0,.int ep 0]}}):wpAny (model prog w) A (pyIter (.ref d)) Q E s:=by
 obtain⟨o,ho,hx,hdat⟩:=id x;refine wpAny_pyIter_slot x.ty PySem.F.slot_dict_iter (Mo PySem.F.slot_dict_iter x.ty PySem.F.entry_dict_iter ?_ (PySem.F.args_dict_iter_1 _));unfold Builtin.«dict.__iter__» Builtin.Dict.dictSlotNone;refine KR (KR (wpAny_notOrdered_dict x.ty ?_));show wpAny _ _ (pure (Value.ref d)) _ _ s;refine Lk ?_;show wpAny _ _ (Builtin.Dict.showsAll d >>= _) _ _ s;unfold Builtin.Dict.showsAll;rw[low,K_ Lm];refine KR (Lk (KR (NR ho hdat (KR (Pr ho hdat ?_)))));exact KR (Mh (Lk ⟨_,rfl,"dict_keyiterator",_,⟨_,Lo _ rfl,rfl⟩,PySem.F.slot_dict_keyiterator_next.lookup,q⟩))
theorem Aj{it d:Addr}{Q:Option Value->Shared->Prop}(hit:s.heap.IsKeyIter it d i es.size ep)(x:hJ s.heap d es ep)(hi:i<es.size)
  (q:∀ h',h'.IsKeyIter it d (i+1) es.size ep->Heap.SameBut it s.heap h'->Q (some es[i].key) {s with heap:=h'}):wpAny (model prog w) A (pyNext (.ref it)) Q E s:=by
 obtain⟨o,ho,hc,hd⟩:=id hit;obtain⟨od,hod,hx,hdd⟩:=id x;unfold pyNext;refine KR (OE (LY (name:=Str.ofString "__next__") hit.typeIs PySem.F.slot_dict_keyiterator_next (Mo PySem.F.slot_dict_keyiterator_next hit.typeIs PySem.F.entry_dict_keyiterator_next ?_ (PySem.F.args_dict_keyiterator_next_1 _))));refine KR (Lk (KR (KR ?_)))
 first|refine KR (MJ hit.typeIs (Lk (KR (O4 ho hd ?_))))|refine KR (Ni hit.typeIs (Lk (KR (O4 ho hd ?_))))
 simp only[show Builtin.Dict_items.ownsTuple "dict_keyiterator"=false by decide,Ma,M8]
 show wpAny _ _ (if (Value.ref d == Value.none)=true then _ else _) _ _ s;rw[K_ (show ¬ ((Value.ref d == Value.none)=true) from Lm)]
 refine KR (Lk (KR (NR hod hdd ?_)));rw[K_ (by simp)]
 refine KR (Lk (KR (Pr hod hdd ?_)));rw[K_ (by simp)]
 refine Lk ?_;simp only[show ¬ ((i:Int)<0) by lia,M8,L6,OS hi]
 refine KR ?_
 first|refine KR (MJ hit.typeIs (Lk (KR (Oc hit.typeIs ?_))))|refine KR (Ni hit.typeIs (Lk (KR (Oc hit.typeIs ?_))))
 show wpAny _ _ (setField (.ref it) 1 (rawInt ((i:Int)+1)) >>= _) _ _ s;refine KR (NO ho hd (by simp) ?_)
 have h2:(s.heap.update it (Obj.mapFields (·.setIfInBounds 1 (rawInt ((i:Int)+1))))).IsKeyIter it d (i+1) es.size ep:=⟨_,Ny _ ho (Oa (Np hd _)),(Obj.cls_mapFields ..).trans hc,by rw[Np hd];simp[rawInt]⟩
 refine KR (LV (KR (Oc (s:={s with heap:=s.heap.update it (Obj.mapFields (·.setIfInBounds 1 (rawInt ((i:Int)+1))))}) h2.typeIs ?_)))
 show wpAny _ _ (pure es[i].key) _ _ _;exact Lk (Lk ⟨_,rfl,Lk (q _ h2 (M3 ..))⟩)
theorem BV{it d:Addr}{Q:Option Value->Shared->Prop}(hh:A.handled=none)(hit:s.heap.IsKeyIter it d es.size es.size ep)(x:hJ s.heap d es ep)
  (q:∀ h',Heap.ExtBut it s.heap h'->Q none {s with heap:=h'}):wpAny (model prog w) A (pyNext (.ref it)) Q E s:=by
 obtain⟨o,ho,hc,hd⟩:=id hit;obtain⟨od,hod,hx,hdd⟩:=id x;unfold pyNext;refine KR (OE (LY (name:=Str.ofString "__next__") hit.typeIs PySem.F.slot_dict_keyiterator_next (Mo PySem.F.slot_dict_keyiterator_next hit.typeIs PySem.F.entry_dict_keyiterator_next ?_ (PySem.F.args_dict_keyiterator_next_1 _))));refine KR (Lk (KR (KR ?_)))
 first|refine KR (MJ hit.typeIs (Lk (KR (O4 ho hd ?_))))|refine KR (Ni hit.typeIs (Lk (KR (O4 ho hd ?_))))
 simp only[show Builtin.Dict_items.ownsTuple "dict_keyiterator"=false by decide,Ma,M8]
 show wpAny _ _ (if (Value.ref d == Value.none)=true then _ else _) _ _ s;rw[K_ (show ¬ ((Value.ref d == Value.none)=true) from Lm)]
 refine KR (Lk (KR (NR hod hdd ?_)));rw[K_ (by simp)]
 refine KR (Lk (KR (Pr hod hdd ?_)));rw[K_ (by simp)]
 refine Lk ?_;simp only[show ¬ ((es.size:Int)<0) by lia,M8,L6,P5 (Lf es.size)]
 refine KR ?_
 first|refine KR (MJ hit.typeIs (Lk ?_))|refine KR (Ni hit.typeIs (Lk ?_))
 show wpAny _ _ (setField (.ref it) 0 .none >>= _) _ _ s;refine KR (NO ho hd (by simp) ?_)
 show wpAny _ _ (newExc (.type "StopIteration") [] >>= _) _ _ _;refine KR ?_;simp only[newExc,newTuple];refine KR (Mh ?_ (by size_fits))
 refine KR (m:=firstArgMember _ _) (wpAny_of_eq (a:=Value.none) (by first|rfl | (simp only[firstArgMember];rfl)) (Mh ?_ (by size_fits)))
 simp only[raiseNew];refine KR (wpAny_handled ?_);rw[show A.in1.handled=none from hh];refine KR (Lk (wpAny_throw ?_));refine KR (wpAny_isInstance (T:="StopIteration") (b:=true) ⟨_,Lo _ rfl,rfl⟩ isSubtype_stop ?_);exact Lk (q _ (((M3 ..).extBut.push _).push _))
end
theorem y3{A:Around}(hh:A.handled=none)(I d:Addr)(ne:d≠I)(es:Array DictEntry)(ep:Nat):
  Walks prog w A I [I,d] [I] es.size (fun i v=>∃ h:i<es.size,v=es[i].key) (fun i h=>h.IsKeyIter I d i es.size ep/\hJ h d es ep) where
 sub:=fun b hb=>by simp at hb;simp[hb]
 frame:=fun _ _ _ st hk=>⟨st.1.at fun o e=>hk I (by simp) o e,st.2.keep fun o e=>hk d (by simp) o e⟩
 item:=fun i s Q E hi st hQ=>Aj st.1 st.2 hi fun h' a b=>hQ _ h' s.toks ⟨hi,rfl⟩ ⟨a,st.2.keep fun o e=>b.extBut _ _ ne e⟩ fun c o hc e=>b.extBut c o (fun h=>hc (by simp[h])) e
 done:=fun s Q E st hQ=>BV hh st.1 st.2 fun h' he=>hQ h' s.toks fun c o hc e=>he c o (fun h=>hc (by simp[h])) e
 self:=fun _ _ _ _ st hQ=>wpAny_pyIter_keyiter st.1 hQ
theorem EV{d:Addr}(low:(d == sysModules)=false):PySem.W.KdlSrc prog w "dict" d d es.size (fun i v=>∃ h:i<es.size,v=es[i].key) (fun h=>hJ h d es ep) where
 type:=fun _ x=>x.ty
 there:=fun _ x=>⟨x.lt,x.lt⟩
 keep:=fun _ _ x k=>x.keep fun o e=>k d (.inl rfl) o e
 notList:=by decide
 notTuple:=by decide
 hint:=fun _ _ _ _ x q=>PySem.W.kdl_hint_dict x.ty q
 iter:=fun _ _ hh x=>⟨_,_,(fun _ _ q=>Bt low x q),y3 hh _ d (L9 x.lt) es ep,⟨⟨_,Lo _ rfl,rfl,rfl⟩,x.keep fun _ e=>KU _ e⟩⟩
theorem yZ{es:List DictEntry}(h:KTD.Rows (xZ K) es D):es.length=D.length:=by
 induction h with
 |nil=>rfl
 |cons _ _ _ ih=>simp[ih]
theorem vT{es:List DictEntry}(h:KTD.Rows (xZ K) es D):Vals (D.map fun p=>V.str p.1) (es.map fun e=>e.key):=by
 induction h with
 |nil=>exact .nil
 |cons e _ _ ih=>exact .cons ⟨_,e⟩ ih
noncomputable def wK(K:Qa)(D:List (Str×List Str)):List V->Hp->VK->Prop:=fun xs H Q=>∃ d,xs=[.ref d]/\mh K d D/\D.length<=sizeLine/\∀ l,H l=none->Q (.ref l) (upd H l (.lst (D.map fun p=>V.str p.1)))
theorem qf(K:Qa)(hK:X.K=K)(hc:X.calm=true):aF X (.type "list") (wK K D):=by
 intro pins s σ H xs us Q I r h;subst hK;obtain⟨d,rfl,hd,hz,q⟩:=h;obtain⟨u,rfl,rx⟩:=vals1 r;cases rx;obtain⟨o,es,ep,ho,hx,hdat,hr⟩:=hd.ex;have at0:hJ s.heap d es ep:=⟨o,I.gC _ _ ho,hx,hdat⟩;have hl:es.size=D.length:=by rw[<- yZ hr,LH]
 refine PySem.W.kdl_call (EV hd.low) (I.ok.hd hc) at0 (by rw[hl];exact hz) fun h' tk acc c' hk hS hI=>?_
 have hv:Vals (D.map fun p=>V.str p.1) acc.toList:=by
  have e:acc.toList=es.toList.map fun e=>e.key:=by
   refine OO fun j=>?_;rw[L8,Lw,L8]
   cases z:acc[j]? with
   |none =>
    have:acc.size<=j:=OG.mp z;rw[P5 (by rw[<- hI.1];exact this)];rfl
   |some v =>
    obtain⟨hj,rfl⟩:=hI.2 j v z;rw[OS hj];rfl
  rw[e];exact vT hr
 refine⟨.ref s.heap.objs.size,_,I.laid (t':=tk) hk (Lf _) (show aU X.prog X.w _ h' _ (.lst _) from⟨?_,acc.toList,c',hv,by simpa using hS⟩),rfl,q _ (I.aD.fresh (Lf _))⟩
 rw[Ld];exact hz
namespace Y
noncomputable def tG(D:List (Str×List Str))(ue:UE):UE:=fun μ Q=>ue μ fun r μ'=>match r with
 |.tr (.str k)=>∃ i:Nat,(D.map fun p=>p.1)[i]?=some k/\(∀ m,m<i->(D.map fun p=>p.1)[m]?≠some k)/\Q (.tr (.int (i:Nat))) μ'
 |_=>False
theorem IY{pl pos cpos:Pos}(K:Qa)(hK:X.K=K)(hc:X.calm=true)(hg:Gl X x)(hd:∃ d,X.mg x=some (.ref d)/\mh K d D)(hgl:Gl X "list")(hml:X.mg "list"=none)(he:YE X e ue)(hz:autoParam (D.length<=1000) ℜ1)(h1:autoParam (bR e=true) ℜ0)
  (hbase:autoParam (attributeBase (.Call (.Name "list" pl) [.Name x p] [] cpos) "index" X.env (eval (.Call (.Name "list" pl) [.Name x p] [] cpos) X.env)=eval (.Call (.Name "list" pl) [.Name x p] [] cpos) X.env) ℜ0) (hline:autoParam ((apos.endLine == pos.line)=true) ℜ0) (hdb:autoParam ((x ==("__debug__":Str))=false) ℜ1) :
  YE X (.Call (.Attribute (.Call (.Name "list" pl) [.Name x p] [] cpos) "index" apos) [e] [] pos) (tG D ue):=by
 obtain⟨t,q,r⟩:=he;obtain⟨d,hm,hd⟩:=hd;have hlist:QE X (.Call (.Name "list" pl) [.Name x p] [] cpos) (vO (wK K D) (gf (tC (.ref d)) ju)):=Z.ct (qf K hK hc) hgl hml (by decide +kernel) (Z.cons ⟨mi hg hm rfl hdb⟩ Z.nil)
 refine⟨_,Z.bm K hK PySem.F.plainAttrs_list PySem.F.slot_list_index PySem.F.type_list_index BG hlist (Z.cons q Z.nil (h:=h1)) hbase hline (by simp[h1]) (show 1<30 by decide),fun F ad B σ H μ Q Qt hF l q k=>?_⟩
 refine⟨d,rfl,hd,Lr hz (by decide),fun a ha=>?_⟩
 have sm:ba H (upd H a (.lst (D.map fun p=>V.str p.1))):=ba.new ha;refine⟨?_,r F ad B σ _ μ _ _ hF (l.same sm) q fun v H' r1 μ' v1 f k1 q1=>?_⟩
 ·exact .inl ⟨rfl,_,bz.of ah⟩
 ·split at q1
  ·rename_i z;obtain⟨l1,rp⟩:=v1;cases rp;obtain⟨i,h2,h3,q2⟩:=q1;refine⟨a,D.map fun p=>p.1,z,i,rfl,?_,rfl,h2,h3,k _ H' _ μ' (Vr.flat l1 (.int _)) ((Fr.same sm).trans f.d) k1 q2⟩;rw[Ml];exact (f a _ ah (l.kj ha)).1
  ·exact q1.elim
end Y
namespace A
theorem tG(D:List (Str×List Str))(ue:UE)(μ:Mu)(Q:R->Mu->Prop):Y.tG D ue μ Q=ue μ fun r μ'=>match r with
 |.tr (.str k)=>∃ i:Nat,(D.map fun p=>p.1)[i]?=some k/\(∀ m,m<i->(D.map fun p=>p.1)[m]?≠some k)/\Q (.tr (.int (i:Nat))) μ'
 |_=>False:=rfl
end A
theorem Z.zip{es:List Expr}{tk:Nat}{tp:Pos}{e1 e2:Expr}{ta:TA}{pos:Pos}(K:Qa)(hK:X.K=K)(hg:Gl X "zip")(hm:X.mg "zip"=none)(ha:QA X [e1,e2] ta)(h1:autoParam (bR e1=true) ℜ0)(h2:autoParam (bR e2=true) ℜ0):QI X (.Tuple es tk tp) (.Call (.Name "zip" p) [e1,e2] [] pos) (oB K ta):=by
 subst hK;exact⟨sR hg hm ha.h h1 h2⟩
theorem Ap.oB(K:Qa)(ta:TA)(σ:St)(H:Hp)(R:It->Hp->Prop):L2.oB K ta σ H R=ta σ H fun vs H1=>∃ a b k1 k2,vs=[V.ref a,V.ref b]/\(∃ xs,nA K k1 H1 a xs)/\(∃ ys,nA K k2 H1 b ys)/\R (ye K k1 k2 a b) H1:=rfl
section
variable {K:Qa} {g:TG} {tb:TS} {D:Ends} {σ:St} {H:Hp} {te:TE} {Q:VK}
theorem uU{a b:Addr}{ys:List V}(hxy:xs.length=ys.length)(Pv:Nat->St->Hp->Prop)(h0:Pv 0 σ H)(hl:∀ i σ H,i<=xs.length->Pv i σ H->aV K H a xs/\aV K H b ys)
  (hs:∀ i x y σ H p,xs[i]?=some x->ys[i]?=some y->Pv i σ H->H p=none->g (.ref p) σ (upd H p (.tup [x,y])) fun σ2 H2=>tb {D with nx:=Pv (i+1),ct:=Pv (i+1),bk:=D.nx} σ2 H2) (hd:∀ σ H,Pv xs.length σ H->D.nx σ H):Fu (ye K false false a b) g tb D σ H:=by
 refine⟨fun i m σ H=>m=xs.length-i/\i<=xs.length/\Pv i σ H,⟨xs.length,by simp,LA _,h0⟩,?_⟩
 rintro i m σ H ⟨rfl,hi,p⟩;obtain⟨q1,q2⟩:=hl i σ H hi p;have q1':nA K false H a xs:=q1;have q2':nA K false H b ys:=q2;by_cases hlt:i<xs.length
 ·have hl2:i<ys.length:=by lia
  refine .inr ⟨⟨xs,ys,xs[i],ys[i],q1',q2',by simp[hlt],by simp[hl2]⟩,Pv (i+1),fun σ' H' p'=>⟨xs.length-(i+1),by lia,rfl,hlt,p'⟩,fun x H' z=>?_⟩
  obtain⟨c,y1,y2,e1,e2,fr,rfl,rfl⟩:=z;exact hs i y1 y2 σ H c (e1 xs q1') (e2 ys q2') p fr
 ·have e:i=xs.length:=by lia
  subst e;exact .inl ⟨⟨xs,ys,q1',q2',by lia⟩,hd σ H p⟩
theorem rm{a:Addr}(hn:xs.length<=sizeLine)(Pv:Addr->Nat->List V->Hp->Prop)(h0:∀ D,H D=none->Pv D 0 [] (upd H D (.lst [])))(hD:∀ D i ys H',Pv D i ys H'->H' D=some (.lst ys)/\ys.length=i)
  (hl:∀ D i ys H',Pv D i ys H'->bz K H' a xs)
  (hs:∀ D i ys H' x (R:VK),xs[i]?=some x->Pv D i ys H'->(∀ v H5,H5 D=some (.lst ys)->Pv D (i+1) (ys++[v]) (upd H5 D (.lst (ys++[v])))->R v H5)->te (some x::σ) H' R) (hd:∀ D ys H',Pv D xs.length ys H'->Q (.ref D) H') :
  ze (rH K a) 1 (bC 0) kT te Q σ H:=by
 intro D hD0;refine⟨fun i m ys σ' H'=>m=xs.length-i/\i<=xs.length/\Pv D i ys H'/\∃ o,σ'=o::σ,⟨xs.length,by simp,LA _,h0 D hD0,none,rfl⟩,?_⟩
 rintro i m ys σ' H' ⟨rfl,hi,p,o,rfl⟩;obtain⟨hDi,hly⟩:=hD _ _ _ _ p;have q:=hl _ _ _ _ p;refine⟨hDi,?_⟩;by_cases hlt:i<xs.length
 ·refine .inr ⟨⟨xs,xs[i],q,by simp[hlt]⟩,by lia,fun x H2 y=>?_⟩
  obtain⟨rfl,y⟩:=y;unfold bC kT;dsimp only;rw[if_pos rfl];exact hs D i ys H2 x _ (y xs q) p fun v H5 q1 q2=>⟨q1,xs.length-(i+1),by lia,rfl,hlt,q2,_,rfl⟩
 ·have e:i=xs.length:=by lia
  subst e;exact .inl ⟨⟨xs,q,Lf _⟩,hd D ys H' p⟩
end
noncomputable def GG(K:Qa)(mg:Str->Option Value)(x:Str):Prop:=∃ p o,mg x=some (.ref p)/\K.lookup p=some o/\o.dict=none
namespace Y
noncomputable def sZ(xs:List T)(ue:UE):UE:=fun μ Q=>ue μ fun r μ2=>match r with
 |.tr (.str k)=>∃(ws:List Str) (j:Nat),xs=ws.map T.str/\ws[j]?=some k/\(∀ m,m<j->ws[m]?≠some k)/\Q (.tr (.int (j:Nat))) μ2
 |_=>False
theorem I_{xs:List T}{pos:Pos}(K:Qa)(hK:X.K=K)(hg:Gl X x)(hc:∃ w u,X.mg x=some u/\RelV w u/\∀ H B,Rep K H B w (.dk xs))(hn:GG K X.mg x)(he:YE X e ue)
  (hbase:autoParam (attributeBase (.Name x p) "index" X.env (eval (.Name x p) X.env)=eval (.Name x p) X.env) ℜ0) (hline:autoParam ((apos.endLine == pos.line)=true) ℜ0) (h1:autoParam (bR e=true) ℜ0) (hdb:autoParam ((x ==("__debug__":Str))=false) ℜ1):YE X (.Call (.Attribute (.Name x p) "index" apos) [e] [] pos) (sZ xs ue):=by
 obtain⟨t',q',r'⟩:=he;obtain⟨w,u,hm,rw',rep⟩:=hc;obtain⟨a,o,hm2,ho,hd⟩:=hn;subst hK;rw[hm] at hm2;cases hm2;refine⟨_,Z.bm X.K rfl PySem.F.plainAttrs_tuple PySem.F.slot_tuple_index PySem.F.type_tuple_index DL (Z.glob hg hm rw' hdb) (Z.cons q' Z.nil (h:=h1)) hbase hline (by simp[h1]) (show 1<30 by decide),fun F ad B σ H μ Q Qt hF l q k=>?_⟩
 have rp:=rep H B
 cases rp with
 |dk ha ra =>
  have e0:=Value.ref.inj (show Value.ref _=Value.ref _ from rw');subst e0;refine⟨.inr (.inl ⟨rfl,o,ho,?_,hd⟩),r' F ad B σ H μ _ _ hF l q fun v2 H2 r2 μ2 v2r f2 k2 q2=>?_⟩
  ·obtain⟨o',its,n,h1,h2,_⟩:=ha;rw[ho] at h1;cases h1;exact h2
  split at q2
  ·rename_i z;obtain⟨l2,rp⟩:=v2r;cases rp;obtain⟨ws,j,rfl,h2,h3,q3⟩:=q2;have e:=gU ra;subst e;exact⟨_,ws,z,j,rfl,.inr ha,rfl,h2,h3,k _ H2 _ μ2 (Vr.flat l2 (.int _)) f2.d k2 q3⟩
  ·exact q2.elim
end Y
namespace A
theorem sZ(xs:List T)(ue:UE)(μ:Mu)(Q:R->Mu->Prop):Y.sZ xs ue μ Q=ue μ fun r μ2=>match r with
 |.tr (.str k)=>∃(ws:List Str) (j:Nat),xs=ws.map T.str/\ws[j]?=some k/\(∀ m,m<j->ws[m]?≠some k)/\Q (.tr (.int (j:Nat))) μ2
 |_=>False:=rfl
end A
open Builtin Builtin.Str
open PySem PySem.Spec PyProof PyProof.Rows
open Builtin Builtin.Str
open PySem PySem.Spec PyProof PyProof.Rows
open PySem PySem.Spec PyProof PyProof.Rows PySem.W
namespace A4
noncomputable def lt(r:R)(k:R->Prop):Prop:=k r
theorem K1(t:T)(k:R->Prop):lt (R.d (.tr t)) k=k (.tr t):=rfl
theorem K6(t:T)(k:R->Prop):lt (R.d (.fr t)) k=k (.tr t):=rfl
theorem KH(i:Nat)(k:R->Prop):lt (R.d (.br i)) k=k (.br i):=rfl
theorem Gn(o:Ou)(Q:R->Prop):nE o Q=(match o with|.no=>False|.ok r=>Q r|.ck c r=>c/\Q r):=rfl
theorem Gg(o:Option (Prop×R))(Q:R->Prop):lP o Q=(match o with|some (C,r)=>C/\Q r|none=>False):=rfl
theorem Gr(o:Option (List T×Option (Nat×List T)))(Q:List T->Option (Nat×List T)->Prop):Gu o Q=(match o with|some (ts,g)=>Q ts g|none=>False):=rfl
theorem FU(o:Option T)(p:Prop):Y.Ih o p=(match o with|some (.lst _)=>p|_=>False):=by
 cases o with|none=>rfl|some t=>cases t<;>rfl
theorem vN(u:U2)(ua ub:UE)(μ:Mu)(Q:R->Mu->Prop):Y.vN u ua ub μ Q=ua μ fun r1 μ1=>ub μ1 fun r2 μ2=>lt r1.d fun x=>lt r2.d fun y=>u x y μ2 Q:=rfl
theorem o_(ue:UE)(us:UA)(μ:Mu)(Q:List R->Mu->Prop):Y.o_ ue us μ Q=ue μ fun r μ1=>us μ1 fun rs μ2=>lt r.d fun x=>Q (x::rs) μ2:=rfl
end A4
end L2
namespace G
local macro_rules|`(tactic|and_intros)=>`(tactic|exact ⟨rfl,rfl,rfl,by decide +kernel,rfl,by decide +kernel,by decide +kernel⟩)
open PySem L2 PySem.Spec PyProof.Rows
variable{D L i j k n:Nat}{a b c done l r:List Nat}{x:Str}{X:List It}{α:Type}{f ln:Nat->Nat}{C_NoCode lc_by_worth lc_code_of lp_by_worth lp_code_of p0 p1 p2:Addr}{cs ls:List Int}{p:Nat×Nat}{H:Hp}{B:aE}{q:Program}{fd:FuncData}{K:Qa}{h:Heap}{mg:Str->Option Value}{lO_by_worth lO_code_of:Value}{lD_by_worth lD_code_of:Option Addr}{lv_by_worth lv_code_of:Array Value}{lS_by_worth lS_code_of:Array (Option Value)}
noncomputable def top(i:Nat):Stmt:=PySem.Challenge.pw_shortrows_k29_whole_no_book_shorter.main.body.getD i (.Pass ⟨0,0,0,0⟩)
abbrev gv:Stmt:=top 5
theorem bN:aj ["lengths","free","depth","left","length"] ["lengths"] (aa gv):=by and_intros
abbrev aX:Stmt:=top 6
theorem cH:aj ["counts","bound","things","chosen"] ["counts","bound"] (aa aX):=by and_intros
abbrev bB:Stmt:=top 7
theorem aG:aj ["counts","bound","coins","shelf","depth","chosen","item"] ["counts","bound"] (aa bB):=by and_intros
abbrev bW:Stmt:=top 8
theorem p6:aj ["shelf"] ["shelf"] (aa bW):=by and_intros
abbrev dv:Stmt:=top 9
theorem nO:aj ["shelf"] ["shelf"] (aa dv):=by and_intros
abbrev bX:Stmt:=top 11
theorem dq:aj ["lengths","words","ahead","thing"] ["lengths"] (aa bX):=by and_intros
abbrev cM:Stmt:=top 12
theorem jd:aj ["ahead","length"] ["ahead","length"] (aa cM):=by and_intros
abbrev fA:Stmt:=top 16
theorem qN:aj ["row"] ["row"] (aa fA):=by and_intros
abbrev cx:Stmt:=top 22
theorem i5:aj ["sizes","goals"] ["sizes","goals"] (aa cx):=by and_intros
abbrev b8:Stmt:=top 23
theorem aM:aj ["sizes","goals","widths","paper","row"] ["sizes","goals"] (aa b8):=by and_intros
abbrev cV:Stmt:=top 24
theorem mP:aj ["goals"] ["goals"] (aa cV):=by and_intros
abbrev b7:Stmt:=top 25
theorem bo:aj ["sizes","goals","widths","starts","row","goal"] ["sizes","goals","widths"] (aa b7):=by and_intros
abbrev pP:Stmt:=top 26
theorem AX:aj ["starts","goals","widths","row","half"] ["starts","goals","widths","row"] (aa pP):=by and_intros
abbrev dP:Stmt:=top 27
theorem jY:aj ["starts","goals","row"] ["starts","goals","row"] (aa dP):=by and_intros
abbrev c_:Stmt:=top 28
theorem cP:aj ["sizes","widths","starts","size","width"] ["sizes","widths"] (aa c_):=by and_intros
abbrev eC:Stmt:=top 29
theorem oU:aj ["width"] ["width"] (aa eC):=by and_intros
abbrev dm:Stmt:=top 36
theorem cG:aj ["program","counts","sums","row","count","which","thing"] ["program","counts"] (aa dm):=by and_intros
abbrev cy:Stmt:=top 37
theorem bS:aj ["row","things","kind","part"] ["row"] (aa cy):=by and_intros
abbrev d3:Stmt:=top 38
theorem pj:aj ["book"] ["book"] (aa d3):=by and_intros
abbrev bL:Stmt:=top 39
theorem aH:aj ["program","book","codes","firsts","sizes","goals","widths","starts","bits","row","first"] ["program","book"] (aa bL):=by and_intros
abbrev aI:Stmt:=top 40
theorem cD:aj ["row","codes","bits"] ["row","codes"] (aa aI):=by and_intros
abbrev aO:Stmt:=top 41
theorem ee:aj ["number"] ["number"] (aa aO):=by and_intros
abbrev d9:Stmt:=top 42
theorem iB:aj ["width","distance"] ["width","distance"] (aa d9):=by and_intros
abbrev cm:Stmt:=top 43
theorem aY:aj ["number","many","figures","left","turn"] ["number","many"] (aa cm):=by and_intros
abbrev cO:Stmt:=top 45
theorem cq:aj ["script","found","cell"] ["script"] (aa cO):=by and_intros
abbrev dJ:Stmt:=top 46
theorem gq:aj ["cell","number"] ["cell"] (aa dJ):=by and_intros
abbrev dH:Stmt:=top 47
theorem dc:aj ["seed","most","found","number"] ["seed","most"] (aa dH):=by and_intros
abbrev di:Stmt:=top 48
theorem kr:aj [] [] (aa di):=by and_intros
abbrev cJ:Stmt:=top 49
theorem bI:aj ["seed","way","number","k"] ["seed"] (aa cJ):=by and_intros
abbrev eB:Stmt:=top 50
theorem fi:aj ["seed","many","words","word","one"] ["seed","many","words"] (aa eB):=by and_intros
abbrev bK:Stmt:=top 51
theorem cX:aj ["seed","most","words","many"] ["seed","most","words"] (aa bK):=by and_intros
abbrev bq:Stmt:=top 53
theorem aK:aj ["seed","many","most","found","short","at","one","longer"] ["seed","many","most"] (aa bq):=by and_intros
abbrev dF:Stmt:=top 54
theorem ny:aj ["seed","most"] ["seed","most"] (aa dF):=by and_intros
abbrev bQ:Stmt:=top 55
theorem fj:aj ["seed","many","way"] ["seed","many"] (aa bQ):=by and_intros
abbrev d6:Stmt:=top 56
theorem dN:aj ["program","counts","book","bits","places","ends"] ["program","counts","book"] (aa d6):=by and_intros
abbrev fJ:Stmt:=top 57
theorem dz:aj ["script","cell","seed","program","counts","book","plain","least","bits","turn","other"] ["script"] (aa fJ):=by and_intros
structure Txt (K:Qa) (mg:Str->Option Value):Prop where
 eZ:mg "enumerate"=none
 Gj:mg "int"=none
 lQ:mg "isinstance"=none
 cu:mg "len"=none
 yY:mg "list"=none
 HN:mg "max"=none
 Cc:mg "min"=none
 cI:mg "range"=none
 jn:mg "sorted"=none
 C5:mg "str"=none
 Hu:mg "sum"=none
 cN:mg "tuple"=none
 sv:mg "zip"=none
 Az:∃ w u,mg "BOXES"=some u/\RelV w u/\∀ H B,Rep K H B w (.dk [.str "a",.str "b",.str "c",.str "d",.str "e",.str "f",.str "g",.str "h"])
 Hd:∃ w u,mg "HALVES"=some u/\RelV w u/\∀ H B,Rep K H B w (.dk [.int 8,.int 128,.int 32768])
 zY:∃ w u,mg "HEADS"=some u/\RelV w u/\∀ H B,Rep K H B w (.dk [.str "0",.str "10",.str "11"])
 qI:∃ w u,mg "HOW_MANY"=some u/\RelV w u/\∀ H B,Rep K H B w (.dk [.int 9,.int 17,.int 8])
 vy:∃ w u,mg "LONGEST"=some u/\RelV w u/\∀ H B,Rep K H B w (.int 12)
 pO:∃ w u,mg "OF_BOXES"=some u/\RelV w u/\∀ H B,Rep K H B w (.int 2)
 mw:∃ w u,mg "OF_CLASSES"=some u/\RelV w u/\∀ H B,Rep K H B w (.int 1)
 rd:∃ w u,mg "OF_WORDS"=some u/\RelV w u/\∀ H B,Rep K H B w (.int 0)
 xM:∃ w u,mg "WIDEST"=some u/\RelV w u/\∀ H B,Rep K H B w (.int 2)
 wM:∃ w u,mg "WIDTHS"=some u/\RelV w u/\∀ H B,Rep K H B w (.dk [.int 4,.int 8,.int 16])
 Bs:GG K mg "BOXES"
 jU:∃ d,mg "SHAPES"=some (.ref d)/\mh K d [("put",["box","number"]),("add",["box","box"]),("sub",["box","box"]),("copy",["box","box"]),("tell",["box"]),("hear",["box"]),("jump",["goal"]),("zero",["box","goal"]),("halt",[])]
 vx:∃ C,mg "NoReach"=some (.ref C)/\pM K C
 xs:∃ C_NoCode:Addr,mg "NoCode"=some (.ref C_NoCode)/\pM K C_NoCode
 m4:lh K mg "by_worth"
 pG:lh K mg "code_of"
section
variable {P:Program} {w:World} {K:Qa} {mg:Str->Option Value} {base:Heap}
local macro_rules | `(tactic| walk_at "lc") => `(tactic| first | exact Or.inl rfl | exact Or.inr rfl)
local macro_rules | `(tactic| wp_walk using $ts,*) => do
  let ids := ("L2.A.sZ L2.A.tG L2.A.sH L2.A.yb L2.A.vV L2.A.A_ L2.A.Ge L2.A.Eu L2.A.jx L2.A.Ag L2.A.Iu L2.A.yX L2.A.AI L2.A.Ai L2.A3.AW L2.A3.mI L2.A3.fX L2.A3.FG L2.A3.oZ L2.A3.Jx L2.A3.CM L2.A3.gT L2.A3.nJ L2.A3.Jt L2.A3.Ji L2.A3.JT L2.A3.HE L2.A3.GU L2.A3.add_l L2.A3.JH L2.A3.JK L2.A3.JW L2.A3.GR L2.A3.HW L2.A3.FT L2.A3.Gq L2.A3.IP L2.A3.IX L2.A3.JY L2.A3.JJ L2.A.gH L2.A.BS L2.A.Gw L2.A.A2 L2.A.uC L2.A.lM L2.A.AN L2.A.xw L2.A.Gs L2.A.Hb L2.A.zy L2.A.ve L2.A.uK L2.A.BJ L2.A.AD L2.A.Df L2.A.iP L2.A.rK L2.A.uR L2.A.Gk L2.A.Kf L2.A.DB L2.A.GS L2.A.nS L2.A.Hm L2.A.J7 L2.A.vK L2.A.dO L2.A.pz L2.A.B4 L2.A.Eb L2.A.GP L2.A.pf L2.A.Jm L2.A.IK L2.A.JL L2.A.JI L2.A.IC L2.A.Ic L2.A.u3 L2.A.AM L2.A.IF L2.A.Iq L2.A.IL L2.A.lU L2.A.CY L2.A.pK L2.A.iS L2.A.ko L2.A.K9 L2.A.KG L2.A.vG L2.A.HH L2.A.GX L2.A.GQ L2.A.HX L2.A.Ip L2.A.Ir L2.A.gS L2.A.vn L2.A.tF L2.A.B6 L2.A.IA L2.A.Il L2.A.Io L2.A.iZ L2.A.vU L2.A.gD L2.A.Ie L2.A.fW L2.A.Eh L2.A.K0 L2.A.K8 L2.A.Kb L2.A.JD L2.A.JR L2.A.Hg L2.A.Hj L2.A.FQ L2.A.Ga L2.A.Hc L2.A.G1 L2.A.Jd L2.A.Jw L2.A.Jo L2.A.IZ Sl.box Sl.put cB L2.putAll yn gx ib L2.Y.trees L2.Y.zZ L2.Y.y6 L2.Y.ur L2.Y.FW L2.Y.Ib List.tail_cons Nat.zero_le startM vd bJ Option.bind_some Option.map_some List.map_cons List.map_nil List.length_cons List.length_nil List.replicate List.cons_append List.nil_append List.append_nil List.getElem?_cons_zero List.getElem?_cons_succ List.set_cons_zero List.set_cons_succ List.nodup_nil List.nodup_cons List.not_mem_nil List.mem_cons not_false_eq_true false_implies implies_true or_false and_true true_and and_self true_or Ha GZ HC HJ Nat.reduceAdd Nat.reduceSub Nat.reduceLeDiff Bool.false_eq_true Bool.not_true Bool.not_false decide_eq_true_eq Bool.not_eq_true' Int.reduceToNat Int.reducePow reduceCtorEq exists_eq_left' L2.A4.K1 L2.A4.K6 L2.A4.KH L2.A4.Gn L2.A4.Gg L2.A4.Gr L2.A4.FU L2.A4.vN L2.A4.o_".splitOn " ").toArray.map fun n => Lean.mkIdent n.toName
  let pre:=ids.filter fun n=>n.getId.toString.startsWith "L2.A"
  `(tactic| simp only [↓reduceIte, $[↓$ts:term],*, $[↓$pre:term],*, $[$ids:ident],*, $[$ts:term],*])
local macro_rules | `(tactic| walk_at "rt") => `(tactic| wp_walk using and_self)
local macro_rules|`(tactic|rfl')=>`(tactic|wp_walk using and_self)
local macro_rules|`(tactic|symm)=>do
  let n:=Lean.mkIdent `N
  let h:=Lean.mkIdent `hN
  `(tactic|(refine $h _ ?_;clear $h $n;refine au fun $n $h=>?_))
local macro_rules|`(tactic|ac_rfl)=>do
  let n:=Lean.mkIdent `N
  let h:=Lean.mkIdent `hN
  `(tactic|(refine $h _ ?_;clear $h $n))
local macro_rules|`(tactic|right)=>`(tactic|walk_at "lc")
local macro_rules|`(tactic|exists $ts,*)=>`(tactic|wp_walk using $ts,*)
local macro_rules|`(tactic|left)=>do
  let i:=#[`args,`Qt,`hl,`h,`f,`cdv,`A,`outer,`s,`H,`E,`hr].map Lean.mkIdent
  let u:=Lean.mkIdent `hu
  `(tactic|(intro $[$i:ident]*;have $u:ident:=aP $(Lean.mkIdent `hr)))
namespace Kr
noncomputable def ks(L:Nat):List Nat->Nat
 |[]=>0
 |l::r=>2^(L-l)+ks L r
theorem b_(L:Nat):∀ a b,ks L (a++b)=ks L a+ks L b
 |[],b=>by simp[ks]
 |x::a,b=>by simp[ks,b_ L a b];lia
theorem iL(h:a.Perm b):ks L a=ks L b:=by
 induction h with
 |nil=>rfl
 |cons x _ ih=>simp[ks,ih]
 |swap x y l=>simp[ks];lia
 |trans _ _ h1 h2=>exact h1.trans h2
theorem vc{d l:Nat}(h:d<l)(hl:l<=L):2^(L-d)=2*2^(L-(d+1)):=by
 have:L-d=(L-(d+1))+1:=by lia
 rw[this,M6];lia
noncomputable def fit:List Nat->Nat->Nat->Nat->Prop:=fun r free depth L=>ks L r<=free*2^(L-depth)
theorem pI{L d:Nat}:∀{r:List Nat},(∀ x∈r,d<=x)->ks L r<=r.length*2^(L-d)
 |[],_=>by simp[ks]
 |x::r,h=>by
  have ih:=pI (L:=L) (d:=d) (r:=r) fun y hy=>h y (Le _ hy);have hx:=h x Lj;have:=Mb (n:=2) (by decide) (Nat.sub_le_sub_left hx L)
  simp only[ks,KZ,Nz];lia
theorem D4{x:Nat}:0<ks L (x::r):=by
 have:=NV (n:=L-x) (show 0<2 by decide)
 simp only[ks];lia
theorem qw{free depth:Nat}(h:∀ x∈r,depth<=x)(hf:r.length<=free):fit r free depth L:=
 Lr (pI h) (M_ _ hf)
theorem rk{free depth l:Nat}(h:depth<l)(hl:l<=L):fit r free depth L ↔ fit r (free*2) (depth+1) L:=by
 unfold fit;rw[vc h hl,MI]
theorem xW{free l:Nat}(hf:0<free):fit (l::r) free l L ↔ fit r (free-1) l L:=by
 unfold fit;simp only[ks];obtain⟨f,rfl⟩:∃ f,free=f+1:=⟨free-1,by lia⟩
 rw[Nat.add_sub_cancel,Nz];lia
theorem xB{x:Nat}{r:List Nat}{depth L:Nat}:¬ fit (x::r) 0 depth L:=by
 unfold fit;have:=D4 (L:=L) (x:=x) (r:=r);lia
end Kr
namespace Pm
abbrev It:=Int×List Nat
noncomputable def wt(X:List It):Int:=(X.map fun x=>x.1).sum
noncomputable def th(X:List It):List Nat:=X.flatMap fun x=>x.2
theorem dI(x:It)(X:List It):wt (x::X)=x.1+wt X:=by simp[wt]
theorem yO:wt []=0:=rfl
theorem vZ(X Y:List It):wt (X++Y)=wt X+wt Y:=by simp[wt]
theorem tY{a b:List Int}(h:a.Perm b):a.sum=b.sum:=by
 induction h with
 |nil=>rfl
 |cons x _ ih=>rw[M7,M7,ih]
 |swap x y l=>simp only[M7];lia
 |trans _ _ h1 h2=>exact h1.trans h2
theorem A5{Y:List It}(h:X.Perm Y):wt X=wt Y:=tY (h.map _)
theorem aZ(x:It)(X:List It):th (x::X)=x.2++th X:=M0 ..
theorem g_(X Y:List It):th (X++Y)=th X++th Y:=List.flatMap_append ..
theorem iK{Y:List It}(h:X.Perm Y):(th X).Perm (th Y):=by
 induction h with
 |nil=>exact .refl _
 |cons x _ ih=>rw[aZ,aZ];exact ih.append_left _
 |swap x y l =>
  rw[aZ,aZ,aZ,aZ,<- Ly,<- Ly];exact N4.append_right _
 |trans _ _ h1 h2=>exact h1.trans h2
theorem pick{a:α}{X:List α}(h:a∈X):∃ X',X.Perm (a::X'):=by
 obtain⟨s,t,rfl⟩:=List.append_of_mem h;exact⟨s++t,LW⟩
theorem split:∀(A B X Y:List α),(A++B).Perm (X++Y)->∃ X1 X2 Y1 Y2,X.Perm (X1++X2)/\A.Perm (X1++Y1)/\B.Perm (X2++Y2)
 |[],B,X,Y,h=>⟨[],X,[],Y,.refl _,.refl _,h⟩
 |a::A,B,X,Y,h=>by
  rw[MA] at h;rcases L1.mp (h.mem_iff.mp Lj) with m|m
  ·obtain⟨X',hX⟩:=pick m;have h2:(a::(A++B)).Perm (a::(X'++Y)):=h.trans (hX.append_right Y);obtain⟨X1,X2,Y1,Y2,p1,p2,p3⟩:=split A B X' Y h2.cons_inv;exact⟨a::X1,X2,Y1,Y2,hX.trans (p1.cons a),p2.cons a,p3⟩
  ·obtain⟨Y',hY⟩:=pick m;have h2:(a::(A++B)).Perm (a::(X++Y')):=(h.trans (hY.append_left X)).trans LW;obtain⟨X1,X2,Y1,Y2,p1,p2,p3⟩:=split A B X Y' h2.cons_inv;exact⟨X1,X2,a::Y1,Y2,p1,(p2.cons a).trans LW.symm,p3⟩
noncomputable def Up(A:List It):Prop:=A.Pairwise fun x y=>x.1<=y.1
theorem CI(h:∀ x∈X,0<=x.1):0<=wt X:=by
 induction X with
 |nil=>exact MR 0
 |cons x X ih =>
  rw[dI];have:=h x Lj;have:=ih fun y hy=>h y (Le _ hy);lia
theorem eU:∀(A X Y:List It) (k:Nat),Up A->(∀ x∈A,0<=x.1)->A.Perm (X++Y)->k<=X.length->wt (A.take k)<=wt X
 |[],X,Y,k,_,_,h,hk=>by
  have e:X++Y=[]:=h.symm.eq_nil;have:X=[]:=(Nu.mp e).1;subst this;simp[wt]
 |a::A,X,Y,0,_,hn,h,_=>by
  rw[List.take_zero,yO];exact CI fun x hx=>hn x (h.mem_iff.mpr (L1.mpr (.inl hx)))
 |a::A,X,Y,k+1,hu,hn,h,hk=>by
  have hu2:=LG.mp hu;have hn2:∀ x∈A,0<=x.1:=fun x hx=>hn x (Le _ hx);rw[Nj,dI];rcases L1.mp (h.mem_iff.mp Lj) with m|m
  ·obtain⟨X',hX⟩:=pick m;have h2:(a::A).Perm (a::(X'++Y)):=h.trans (hX.append_right Y);have hl:=hX.length_eq;rw[KZ] at hl;have:=eU A X' Y k hu2.2 hn2 h2.cons_inv (by lia)
   rw[A5 hX,dI];lia
  ·obtain⟨Y',hY⟩:=pick m
   cases X with
   |nil=>simp at hk
   |cons x X' =>
    have h2:(a::A).Perm (a::(x::X'++Y')):=(h.trans (hY.append_left _)).trans LW;have h3:=h2.cons_inv;have hx:x∈A:=h3.mem_iff.mpr (by simp)
    have:=hu2.1 x hx;have h4:A.Perm (X'++(x::Y')):=h3.trans (by rw[MA];exact LW.symm)
    have:=eU A X' (x::Y') k hu2.2 hn2 h4 (by rw[KZ] at hk;lia)
    rw[dI];lia
noncomputable def pk:List It->List It
 |a::b::r=>(a.1+b.1,a.2++b.2)::pk r
 |_=>[]
theorem rf:∀(A X Y:List It),(pk A).Perm (X++Y)->∃ X' Y',A.Perm (X'++Y')/\X'.length=2*X.length/\(th X').Perm (th X)
 |[],X,Y,h=>by
  have:X=[]:=(Nu.mp h.symm.eq_nil).1;subst this;exact⟨[],[],.refl _,rfl,.refl _⟩
 |[a],X,Y,h=>by
  have:X=[]:=(Nu.mp h.symm.eq_nil).1;subst this;exact⟨[],[a],.refl _,rfl,.refl _⟩
 |a::b::r,X,Y,h=>by
  unfold pk at h;rcases L1.mp (h.mem_iff.mp Lj) with m|m
  ·obtain⟨X',hX⟩:=pick m;obtain⟨X2,Y2,p1,p2,p3⟩:=rf r X' Y (h.trans (hX.append_right Y)).cons_inv;refine⟨a::b::X2,Y2,(p1.cons b).cons a,?_,?_⟩
   ·rw[hX.length_eq];simp only[KZ];lia
   ·refine List.Perm.trans ?_ (iK hX).symm;rw[aZ,aZ,aZ,<- Ly];exact p3.append_left _
  ·obtain⟨Y',hY⟩:=pick m;obtain⟨X2,Y2,p1,p2,p3⟩:=rf r X Y' ((h.trans (hY.append_left X)).trans LW).cons_inv;exact⟨X2,a::b::Y2,(((p1.cons b).cons a).trans ((LW (l₁:=X2) (l₂:=Y2) (a:=b)).symm.cons a)).trans LW.symm,p2,p3⟩
theorem mL:∀ A:List It,(pk A).length=A.length / 2
 |[]=>rfl
 |[_]=>by simp[pk]
 |a::b::r=>by
  unfold pk;rw[KZ,mL r];simp only[KZ];lia
theorem sO:∀(A:List It) (p:Nat),(∀ x∈A,0<=x.1)->wt ((pk A).take p)<=wt (A.take (2*p))
 |[],p,_=>by simp[pk]
 |[a],p,h=>by
  have:=CI (X:=[a].take (2*p)) fun x hx=>h x (Ov hx)
  simpa[pk,yO] using this
 |a::b::r,0,_=>by simp
 |a::b::r,p+1,h=>by
  have:=sO r p fun x hx=>h x (by simp[hx])
  unfold pk;rw[show 2*(p+1)=2*p+1+1 by lia,Nj,Nj,Nj,dI,dI,dI]
  show a.1+b.1+_<=_;lia
theorem CG:∀{A:List It},(∀ x∈A,0<=x.1)->∀ x∈pk A,0<=x.1
 |[],_,x,h=>by cases h
 |[_],_,x,h=>by cases h
 |a::b::r,hn,x,h=>by
  unfold pk at h;rcases Ll.mp h with e|e
  ·have:=hn a (by simp)
   have:=hn b (by simp)
   rw[e];show 0<=a.1+b.1;lia
  ·exact CG (A:=r) (fun y hy=>hn y (by simp[hy])) x e
noncomputable def sN(f:Nat->Nat):Nat->Nat
 |0=>0
 |n+1=>sN f n+f n
noncomputable def sI(f:Nat->Int):Nat->Int
 |0=>0
 |n+1=>sI f n+f n
theorem gQ(f g:Nat->Nat):∀ n,sN (fun i=>f i+g i) n=sN f n+sN g n
 |0=>rfl
 |n+1=>by simp only[sN,gQ f g n];lia
theorem lV(k:Nat)(f:Nat->Nat):∀ n,sN (fun i=>k*f i) n=k*sN f n
 |0=>rfl
 |n+1=>by simp only[sN,lV k f n];rw[Nat.mul_add]
theorem xO{g:Nat->Nat}:∀{n},(∀ i,i<n->f i<=g i)->sN f n<=sN g n
 |0,_=>Lf _
 |n+1,h=>by
  have:=xO (n:=n) fun i hi=>h i (by lia)
  have:=h n (by lia)
  simp only[sN];lia
theorem cR{g:Nat->Nat}:∀{n},(∀ i,i<n->f i=g i)->sN f n=sN g n
 |0,_=>rfl
 |n+1,h=>by simp only[sN];rw[cR (n:=n) fun i hi=>h i (by lia),h n (by lia)]
theorem pR(f g:Nat->Int):∀ n,sI (fun i=>f i+g i) n=sI f n+sI g n
 |0=>rfl
 |n+1=>by simp only[sI,pR f g n];lia
theorem fh{f g:Nat->Int}:∀{n},(∀ i,i<n->f i=g i)->sI f n=sI g n
 |0,_=>rfl
 |n+1,h=>by simp only[sI];rw[fh (n:=n) fun i hi=>h i (by lia),h n (by lia)]
theorem mK:∀ n,sN (fun _=>0) n=0
 |0=>rfl
 |n+1=>by simp only[sN,mK n]
theorem nj:∀ n,sI (fun _=>0) n=0
 |0=>rfl
 |n+1=>by simp only[sI,nj n];rfl
theorem n5(x:Nat):∀ n,sN (fun i=>if x=i then 1 else 0) n=if x<n then 1 else 0
 |0=>rfl
 |n+1=>by
  simp only[sN,n5 x n];by_cases h:x<n
  ·rw[Lg h,K_ (by lia),Lg (by lia)]
  ·by_cases h2:x=n
   ·rw[K_ h,Lg h2,Lg (by lia)]
   ·rw[K_ h,K_ h2,K_ (by lia)]
theorem wo(c:Nat->Int)(x:Nat):∀ n,sI (fun i=>if x=i then c i else 0) n=if x<n then c x else 0
 |0=>rfl
 |n+1=>by
  simp only[sI,wo c x n];by_cases h:x<n
  ·rw[Lg h,K_ (by lia),Lg (by lia)];lia
  ·by_cases h2:x=n
   ·subst h2;rw[K_ h,Lg rfl,Lg (by lia)];lia
   ·rw[K_ h,K_ h2,K_ (by lia)];rfl
theorem ij(i x:Nat)(l:List Nat):(x::l).count i=l.count i+if x=i then 1 else 0:=by
 rw[Ow];by_cases h:x=i<;>simp[h]
theorem p7{n:Nat}:∀{l:List Nat},(∀ x∈l,x<n)->sN (fun i=>l.count i) n=l.length
 |[],_=>by simp[mK]
 |x::l,h=>by
  have e:=p7 (n:=n) (l:=l) fun y hy=>h y (Le _ hy);rw[cR (g:=fun i=>l.count i+if x=i then 1 else 0) fun i _=>ij i x l,gQ,e,n5,Lg (h x Lj),KZ]
theorem oP{n:Nat}{c:Nat->Int}:∀{l:List Nat},(∀ x∈l,x<n)->(l.map c).sum=sI (fun i=>c i*(l.count i:Int)) n
 |[],_=>by simp[nj]
 |x::l,h=>by
  have e:=oP (n:=n) (c:=c) (l:=l) fun y hy=>h y (Le _ hy);rw[fh (g:=fun i=>c i*(l.count i:Int)+if x=i then c i else 0) fun i _=>?_,pR,<- e,wo,Lg (h x Lj),Lz,M7]
  ·lia
  ·rw[ij];by_cases z:x=i
   ·rw[Lg z,Lg z,NJ,P6];simp
   ·rw[K_ z,K_ z];simp
section
variable (c:Nat->Int) (n:Nat)
noncomputable def coins:List It:=(List.range n).map fun i=>(c i,[i])
noncomputable def FE(l:List It):List It:=eH (l.map fun x=>x.1) l
noncomputable def shelf:Nat->List It
 |0=>[]
 |d+1=>FE (coins c n++pk (shelf d))
end
theorem e7(l:List It):(FE l).Perm l:=iU (by rw[Ld])
theorem mU:∀(l:List It) (p:Int×It),p∈(l.map fun x=>x.1).zip l->p.1=p.2.1
 |[],p,h=>by cases h
 |x::l,p,h=>by
  rw[Lz,List.zip_cons_cons] at h;rcases Ll.mp h with e|e
  ·rw[e]
  ·exact mU l p e
theorem Fp(l:List It):Up (FE l):=by
 unfold FE eH Up;rw[NS];refine (jJ ((l.map fun x=>x.1).zip l)).imp_of_mem fun {a b} ha hb h=>?_;rw[<- mU l a ((bU _).mem_iff.mp ha),<- mU l b ((bU _).mem_iff.mp hb)];exact h
variable {c:Nat->Int} {n:Nat}
theorem w_:∀ d,Up (shelf c n d)
 |0=>List.Pairwise.nil
 |d+1=>Fp _
theorem jw(hc:∀ i,i<n->0<=c i):∀ d,∀ x∈shelf c n d,0<=x.1
 |0,x,h=>by cases h
 |d+1,x,h=>by
  rcases L1.mp ((e7 _).mem_iff.mp h) with m|m
  ·obtain⟨i,hi,rfl⟩:=LD.mp m;exact hc i (LZ.mp hi)
  ·exact CG (jw hc d) x m
noncomputable def Wd(c:Nat->Int)(n:Nat)(x:It):Prop:=x.1=(x.2.map c).sum/\∀ i∈x.2,i<n
theorem CA:∀{A:List It},(∀ x∈A,Wd c n x)->∀ x∈pk A,Wd c n x
 |[],_,x,h=>by cases h
 |[_],_,x,h=>by cases h
 |a::b::r,hn,x,h=>by
  unfold pk at h;rcases Ll.mp h with e|e
  ·have h1:=hn a (by simp)
   have h2:=hn b (by simp)
   rw[e];refine⟨?_,fun i hi=>?_⟩
   ·show a.1+b.1=_;rw[h1.1,h2.1,Lv,List.sum_append]
   ·rcases L1.mp hi with z|z
    ·exact h1.2 i z
    ·exact h2.2 i z
  ·exact CA (A:=r) (fun y hy=>hn y (by simp[hy])) x e
theorem n_:∀ d,∀ x∈shelf c n d,Wd c n x
 |0,x,h=>by cases h
 |d+1,x,h=>by
  rcases L1.mp ((e7 _).mem_iff.mp h) with m|m
  ·obtain⟨i,hi,rfl⟩:=LD.mp m;exact⟨by simp,fun j hj=>by rw[Ln.mp hj];exact LZ.mp hi⟩
  ·exact CA (n_ d) x m
theorem CN:∀{X:List It},(∀ x∈X,Wd c n x)->wt X=((th X).map c).sum/\∀ i∈th X,i<n
 |[],_=>⟨rfl,fun i h=>by cases h⟩
 |x::X,h=>by
  obtain⟨h1,h2⟩:=CN (X:=X) fun y hy=>h y (Le _ hy);have h3:=h x Lj;rw[dI,aZ,Lv,List.sum_append,h1,h3.1];exact⟨rfl,fun i hi=>(L1.mp hi).elim (h3.2 i) (h2 i)⟩
theorem pH:th (coins c n)=List.range n:=by
 unfold th coins;rw[List.flatMap_map];generalize List.range n=l
 induction l with
 |nil=>rfl
 |cons x l ih=>rw[M0,ih];rfl
theorem zq{C Y:List It}(h:(coins c n).Perm (C++Y)):(∀ i,(th C).count i<=1)/\(th C).length=C.length/\∀ i∈th C,i<n:=by
 have h1:(List.range n).Perm (th C++th Y):=by rw[<- g_,<- pH (c:=c)];exact iK h
 have hm:∀ x∈C,∃ i,x.2=[i]:=fun x hx=>by
  obtain⟨i,_,e⟩:=LD.mp (h.mem_iff.mpr (L1.mpr (.inl hx)));exact⟨i,by rw[<- e]⟩
 refine⟨fun i=>?_,?_,fun i hi=>LZ.mp (h1.mem_iff.mpr (L1.mpr (.inl hi)))⟩
 ·have h2:=h1.count_eq i;rw[List.count_append] at h2;have h3:(List.range n).count i<=1:=List.nodup_iff_count.mp List.nodup_range i;lia
 ·clear h h1
  induction C with
  |nil=>rfl
  |cons x C ih =>
   obtain⟨i,e⟩:=hm x Lj;rw[aZ,e,KW,KZ,KZ,ih fun y hy=>hm y (Le _ hy)]
   simp;lia
theorem rQ(a b D:Nat):(a+b)*2^(D+1)=2*(2^D*a)+2*b*2^D:=by
 rw[M6];generalize 2^D=x;have h1:a*(x*2)=2*(x*a):=by rw[NM a,NM x 2,MI]
 have h2:b*(x*2)=2*b*x:=by rw[NM x 2,<- MI,NM b 2]
 rw[P7,h1,h2]
theorem two_split{a:Nat}(h:a<=D):2^(D+1-a)=2*2^(D-a):=by
 rw[show D+1-a=(D-a)+1 by lia,M6];lia
theorem worth:∀(D:Nat) (X Y:List It),(shelf c n D).Perm (X++Y)->(∀ i,(th X).count i<=D)/\X.length*2^D<=2*sN (fun i=>2^D-2^(D-(th X).count i)) n
 |0,X,Y,h=>by
  have:X=[]:=(Nu.mp h.symm.eq_nil).1;subst this;exact⟨fun i=>Lf 0,by simp⟩
 |D+1,X,Y,h=>by
  obtain⟨C,P,Y1,Y2,p1,p2,p3⟩:=split _ _ X Y ((e7 _).symm.trans h);obtain⟨X',Y',q1,q2,q3⟩:=rf _ _ _ p3;obtain⟨i1,i2⟩:=worth D X' Y' q1;obtain⟨c1,c2,c3⟩:=zq p2;have e:∀ i,(th X).count i=(th C).count i+(th X').count i:=fun i=>by
   rw[(iK p1).count_eq,g_,List.count_append,q3.count_eq]
  have hl:X.length=C.length+P.length:=by rw[p1.length_eq,KW]
  refine⟨fun i=>by rw[e];have:=c1 i;have:=i1 i;lia,?_⟩
  have key:sN (fun i=>2^D*(th C).count i+(2^D-2^(D-(th X').count i))) n<=sN (fun i=>2^(D+1)-2^(D+1-(th X).count i)) n:=xO fun i _=>by
   have a1:=c1 i;have a2:=i1 i;have a3:2^(D-(th X').count i)<=2^D:=Mb (by decide) (OP _ _)
   have a4:2^(D+1)=2*2^D:=by rw[M6];lia
   rw[e i];rcases O8 ((th C).count i) with z|z
   ·rw[z,MT,two_split a2,a4];lia
   ·rw[show (th C).count i=1 by lia,show D+1-(1+(th X').count i)=D-(th X').count i by lia,a4];lia
  rw[gQ,lV,p7 c3,c2] at key;rw[q2] at i2;rw[hl,rQ];lia
theorem least(hc:∀ i,i<n->0<=c i):∀(D:Nat) (l:Nat->Nat),(∀ i,i<n->l i<=D)->∀ k,k*2^D<=2*sN (fun i=>2^D-2^(D-l i)) n->k<=(shelf c n D).length/\wt ((shelf c n D).take k)<=sI (fun i=>c i*(l i:Int)) n
 |0,l,hl,k,hk=>by
  have e:sN (fun i=>2^0-2^(0-l i)) n=0:=by
   rw[cR (g:=fun _=>0) fun i hi=>?_,mK];rw[show l i=0 by have:=hl i hi;lia]
  rw[e] at hk;have hk0:k=0:=by simpa using hk
  subst hk0;refine⟨LA _,?_⟩;rw[fh (g:=fun _=>0) fun i hi=>?_,nj]
  ·exact MR 0
  ·rw[show l i=0 by have:=hl i hi;lia];simp
 |D+1,l,hl,k,hk=>by
  have cz:∀ m,m<=n->∃ C Y:List It,(coins c m).Perm (C++Y)/\wt C=sI (fun i=>if 1<=l i then c i else 0) m/\C.length=sN (fun i=>if 1<=l i then 1 else 0) m:=fun m=>by
   induction m with
   |zero=>exact fun _=>⟨[],[],.refl _,rfl,rfl⟩
   |succ m ih =>
    intro hm;obtain⟨C,Y,h1,h2,h3⟩:=ih (by lia)
    have e:coins c (m+1)=coins c m++[(c m,[m])]:=by unfold coins;rw[MF,Lv];rfl
    by_cases z:1<=l m
    ·refine⟨C++[(c m,[m])],Y,?_,?_,?_⟩
     ·rw[e];refine (h1.append_right _).trans ?_;rw[Ly,Ly];exact N4.append_left C
     ·rw[vZ,h2];simp only[sI,Lg z];simp[wt]
     ·rw[KW,h3];simp only[sN,Lg z];rfl
    ·refine⟨C,Y++[(c m,[m])],?_,?_,?_⟩
     ·rw[e,<- Ly];exact h1.append_right _
     ·rw[h2];simp only[sI,K_ z];lia
     ·rw[h3];simp only[sN,K_ z];lia
  obtain⟨C,Y,h1,h2,h3⟩:=cz n (Lf _);have eV:2*sN (fun i=>2^(D+1)-2^(D+1-l i)) n=2*(2^D*C.length)+2*sN (fun i=>2^D-2^(D-(l i-1))) n:=by
   rw[h3,<- lV (2^D),<- Nat.mul_add,<- gQ];congr 1;refine cR fun i hi=>?_;have a4:2^(D+1)=2*2^D:=by rw[M6];lia
   by_cases z:1<=l i
   ·have a3:2^(D-(l i-1))<=2^D:=Mb (by decide) (OP _ _)
    rw[Lg z,show D+1-l i=D-(l i-1) by lia,a4];lia
   ·rw[K_ z,show l i=0 by lia,N1,Nat.zero_sub,N1];simp
  rw[eV] at hk;have hk2:2*(k-C.length)*2^D<=2*sN (fun i=>2^D-2^(D-(l i-1))) n:=by
   rcases Nat.le_total k C.length with z|z
   ·rw[Nat.sub_eq_zero_of_le z];simp
   ·obtain⟨j,rfl⟩:=Nat.le.dest z;rw[Po];rw[rQ] at hk;lia
  obtain⟨g1,g2⟩:=least hc D (fun i=>l i-1) (fun i hi=>by have:=hl i hi;lia) _ hk2
  have nn:=jw hc D;have hp:=sO (shelf c n D) (k-C.length) nn;have hpl:((pk (shelf c n D)).take (k-C.length)).length=k-C.length:=by
   rw[LR,mL];lia
  have hX:(shelf c n (D+1)).Perm ((C++(pk (shelf c n D)).take (k-C.length))++(Y++(pk (shelf c n D)).drop (k-C.length))):=by
   refine (e7 _).trans ((h1.append_right _).trans ?_);rw[Ly,Ly];refine List.Perm.append_left C ?_;have:pk (shelf c n D)=(pk (shelf c n D)).take (k-C.length)++(pk (shelf c n D)).drop (k-C.length):=(Mk _ _).symm;refine List.Perm.trans (l₂:=Y++((pk (shelf c n D)).take (k-C.length)++(pk (shelf c n D)).drop (k-C.length))) (by rw[<- this]) ?_
   rw[<- Ly,<- Ly];exact N4.append_right _
  have hlen:k<=(C++(pk (shelf c n D)).take (k-C.length)).length:=by rw[KW,hpl];lia
  have hmin:=eU _ _ _ k (w_ (D+1)) (jw hc (D+1)) hX hlen;refine⟨by rw[hX.length_eq,KW];lia,?_⟩
  rw[vZ,h2] at hmin;have e:sI (fun i=>c i*(l i:Int)) n=sI (fun i=>if 1<=l i then c i else 0) n+sI (fun i=>c i*((l i-1:Nat):Int)) n:=by
   rw[<- pR];refine fh fun i hi=>?_;by_cases z:1<=l i
   ·rw[Lg z];obtain⟨j,hj⟩:=Nat.le.dest z;rw[<- hj,Po,NJ,P6];simp
   ·rw[K_ z,show l i=0 by lia];simp
  rw[e];lia
theorem jO{l:Nat->Nat}(hl:∀ i,i<n->l i<=D):sN (fun i=>2^D-2^(D-l i)) n+sN (fun i=>2^(D-l i)) n=n*2^D:=by
 rw[<- gQ,cR (g:=fun _=>2^D) fun i _=>?_]
 ·clear hl
  induction n with
  |zero=>simp[sN]
  |succ n ih=>simp only[sN,ih];rw[Nz]
 ·exact Nat.sub_add_cancel (Mb (by decide) (OP _ _))
noncomputable def eS(c:Nat->Int)(n D i:Nat):Nat:=(th ((shelf c n D).take (2*n-2))).count i
theorem AK(hc:∀ i,i<n->0<=c i){D:Nat}(hn:2<=n)(hD:n<=2^D):
  (∀ i,eS c n D i<=D)/\(∀ i,i<n->1<=eS c n D i)/\sN (fun i=>2^(D-eS c n D i)) n<=2^D/\wt ((shelf c n D).take (2*n-2))=sI (fun i=>c i*(eS c n D i:Int)) n:=by
 have hp:(shelf c n D).Perm ((shelf c n D).take (2*n-2)++(shelf c n D).drop (2*n-2)):=by rw[Mk]
 obtain⟨w1,w2⟩:=worth D _ _ hp;have hk:(2*n-2)*2^D<=2*sN (fun _=>2^D-2^(D-D)) n:=by
  have this:sN (fun _=>2^D-2^(D-D)) n+sN (fun _=>2^(D-D)) n=n*2^D:=jO (n:=n) (D:=D) (l:=fun _=>D) fun _ _=>Lf _;have e:∀ m,sN (fun _=>2^(D-D)) m=m:=fun m=>by
   rw[cR (g:=fun _=>1) fun i _=>by simp]
   induction m with
   |zero=>rfl
   |succ n ih=>simp only[sN,ih]
  rw[e] at this;clear e;have h2:(2*n-2)*2^D=2*(n*2^D)-2*2^D:=by rw[Nat.sub_mul,MI]
  rw[h2];lia
 have hlen:=(least hc D (fun _=>D) (fun _ _=>Lf _) _ hk).1;have e1:((shelf c n D).take (2*n-2)).length=2*n-2:=by rw[LR];lia
 rw[e1] at w2;have w3:=jO (n:=n) (D:=D) (l:=eS c n D) fun i _=>w1 i;have w2':(2*n-2)*2^D<=2*sN (fun i=>2^D-2^(D-eS c n D i)) n:=w2;have h2:(2*n-2)*2^D=2*(n*2^D)-2*2^D:=by rw[Nat.sub_mul,MI]
 have hks:sN (fun i=>2^(D-eS c n D i)) n<=2^D:=by
  have:n*2^D >= 1*2^D:=M_ _ (by lia)
  lia
 refine⟨w1,fun i hi=>?_,hks,?_⟩
 ·rcases O8 (eS c n D i) with z|z
  ·exfalso
   have hpos:∀ j,1<=2^(D-eS c n D j):=fun j=>NV (by decide)
   obtain⟨j,hj,hji⟩:∃ j,j<n/\j≠i:=if h:i=0 then ⟨1,by lia,by lia⟩ else ⟨0,by lia,by lia⟩
   have:sN (fun k=>(if i=k then 2^D else 0)+if j=k then 1 else 0) n<=sN (fun i=>2^(D-eS c n D i)) n:=xO fun k hk=>by
    by_cases a:i=k
    ·subst a;rw[Lg rfl,K_ hji,z];simp
    ·rw[K_ a];have:=hpos k;by_cases b:j=k
     ·rw[Lg b];lia
     ·rw[K_ b];lia
   rw[gQ,n5,Lg hj] at this;have e:sN (fun k=>if i=k then 2^D else 0) n=2^D:=by
    rw[cR (g:=fun k=>2^D*if i=k then 1 else 0) fun k _=>by by_cases a:i=k<;>simp[a],lV,n5,Lg hi,Nat.mul_one]
   rw[e] at this;lia
  ·exact z
 ·have hw:=CN (X:=(shelf c n D).take (2*n-2)) fun x hx=>n_ (c:=c) (n:=n) D x (Ov hx);rw[hw.1,oP hw.2];rfl
theorem rB(hc:∀ i,i<n->0<=c i)(hn:1<=n){l:Nat->Nat}(hl:∀ i,i<n->l i<=D)(hk:sN (fun i=>2^(D-l i)) n<=2^D):wt ((shelf c n D).take (2*n-2))<=sI (fun i=>c i*(l i:Int)) n:=by
 refine (least hc D l hl (2*n-2) ?_).2;have:=jO hl;have h2:(2*n-2)*2^D=2*(n*2^D)-2*2^D:=by rw[Nat.sub_mul,MI]
 rw[h2];lia
end Pm
noncomputable def dE(s:T):Prop:=∃ n f c m:Int,s=.lst [.int n,.int f,.int c,.int m]
noncomputable def jK:dX:=fun args Q=>∃(s:T) (k:Int),args=[s,.int k]/\dE s/\0<k/\k<2^60/\∀(v:Int) (s':T),dE s'->0<=v->v<k->Q (.tr (.int v)) [s']
abbrev k0z(P w K mg base):=ae P w K mg base aT 1 "_law_draw" ["seed","most"] (spT K [true,false] jK)
theorem Bm(T:Txt K mg)(F:HasFn K mg "_law_draw" dH ["seed","most"]):k0z P w K mg base:=by
 refine F.i4 dc [true,false] rfl (by decide) ?_;left;obtain⟨sd,k,rfl,⟨n,fl,c,m,rfl⟩,k0,k1,q⟩:=h;refine⟨_,(Y.ai (Y.asg (Y.op (Y.aB K rfl) Y.aC (Y.ix (Y.bw K rfl) Y.ar (Y.vS 0) Y.int) Y.int) (Y.qm (Y.vS 0) Y.int))
   (Y.ai (Y.hW (Y.tw (Y.xA (Y.bD (Y.bP K rfl (LM hu)) Y.cZ (Y.ix (Y.bw K rfl) Y.ar (Y.vS 0) Y.int) Y.int) (Y.nK (Y.bD rR Y.eO (Y.ix (Y.bw K rfl) Y.ar (Y.vS 0) Y.int) Y.int)))) (Y.ai (Y.set (i:=2) dc.nd rfl (by right) (Y.op eG Y.bV (Y.ix (Y.bw K rfl) Y.ar (Y.vS 0) Y.int) (Y.vS 1)))
   (Y.ai (Y.asg (Y.op Y.gp Y.bV (Y.ix (Y.bw K rfl) Y.ar (Y.vS 0) Y.int) (Y.vS 1)) (Y.qm (Y.vS 0) Y.int))
   (Y.ay (Y.ret (Y.vS 2))))) Y.cW)
   (Y.ai (Y.set (i:=3) dc.nd rfl (by right) (Y.op eG Y.bV (Y.op (Y.dh K rfl) Y.cf (Y.op (Y.aB K rfl) Y.aC (Y.op (Y.aB K rfl) Y.aC (Y.ix (Y.bw K rfl) Y.ar (Y.vS 0) Y.int) (Y.op (Y.dh K rfl) Y.cf Y.int (Y.ix (Y.bw K rfl) Y.ar (Y.vS 0) Y.int))) Y.int) Y.int) Y.int))
   (Y.ai (Y.set (i:=3) dc.nd rfl (by right) (Y.op eG Y.bV (Y.op (Y.dh K rfl) Y.cf (Y.op eG Y.bV (Y.op (Y.dh K rfl) Y.cf (Y.vS 3) (Y.vS 3)) Y.int) Y.int) Y.int))
   (Y.ay (Y.ret (Y.op eG Y.bV (Y.op Y.gp Y.bV (Y.vS 3) Y.int) (Y.vS 1)))))))),?_⟩
 have fin:∀ v n c:Int,Qt (.tr (.int (v % k))) [.lst [.int n,.int fl,.int c,.int m]]:=fun v n c=>q _ _ ⟨_,_,_,_,rfl⟩ (Int.emod_nonneg _ (by lia)) (Int.emod_lt_of_pos _ k0)
 have x0:ji 4 0=some 0:=by decide
 have x2:ji 4 2=some 2:=by decide
 refine au fun N hN=>?_;exists x2;symm;exists x0;by_cases h1:fl=1
 ·by_cases h2:0<n
  ·exists Lg h1,Lg h2;refine au fun M hM=>?_;rfl';refine⟨k0,?_⟩;refine hM _ ?_;clear hM M;refine au fun M hM=>?_;exists x0;refine⟨⟨k0,by lia⟩,?_⟩
   refine hM _ ?_;clear hM M;rfl';exact fin _ _ _
  ·exists Lg h1,K_ h2;ac_rfl;have m1:∀ a:Int,0<=a % 2147483647/\a % 2147483647<2147483647:=fun a=>⟨by lia,by lia⟩
   refine au fun N hN=>?_;rfl';refine⟨.inl (by decide),.inr (by decide),by decide,?_⟩
   symm;rfl';refine⟨.inl ⟨by have:=m1 ((m+6997*(c+1)+11)*48271);lia,by have:=m1 ((m+6997*(c+1)+11)*48271);lia⟩,by decide,.inr (by decide),by decide,?_⟩
   ac_rfl;rfl';exact⟨⟨by decide,by decide⟩,k0,fin _ _ _⟩
 ·exists K_ h1;ac_rfl;have m1:∀ a:Int,0<=a % 2147483647/\a % 2147483647<2147483647:=fun a=>⟨by lia,by lia⟩
  refine au fun N hN=>?_;rfl';refine⟨.inl (by decide),.inr (by decide),by decide,?_⟩
  symm;rfl';refine⟨.inl ⟨by have:=m1 ((m+6997*(c+1)+11)*48271);lia,by have:=m1 ((m+6997*(c+1)+11)*48271);lia⟩,by decide,.inr (by decide),by decide,?_⟩
  ac_rfl;rfl';exact⟨⟨by decide,by decide⟩,k0,fin _ _ _⟩
noncomputable def nI:List Int->List L2.T:=List.map L2.T.int
theorem aR(xs:List Int):(nI xs).length=xs.length:=Ld ..
theorem gY(xs ys:List Int):nI (xs++ys)=nI xs++nI ys:=Lv
theorem nQ{xs:List Int}{i:Int}{v:Int}(h:b9 xs i=some v):b9 (nI xs) i=some (.int v):=by
 unfold b9 at h ⊢;unfold nI;rw[Ld]
 cases e:ji xs.length i with
 |none=>rw[e] at h;cases h
 |some j=>rw[e] at h;have h':xs[j]?=some v:=h;show (List.map L2.T.int xs)[j]?=_;rw[Lw,h'];rfl
theorem Aq(xs:List Int)(a b:Option Int):Y.bM (nI xs) a b=nI (Y.bM xs a b):=by
 unfold Y.bM nI;rw[Ld,NX,OH]
noncomputable def nY(ls:List Int):Prop:=0<ls.length/\ls.length<=20/\∀ x∈ls,1<=x/\x<=40
noncomputable def KS(ls:List Int):Nat:=Kr.ks 40 (ls.map Int.toNat)
noncomputable def nG(ls:List Int):Bool:=decide (KS ls<=2^40)
noncomputable def Cs:dX:=fun args Q=>∃ c:Int,args=[.int c]/\∀ s,dE s->Q (.fr s) []
theorem A1(T:Txt K mg)(F:HasFn K mg "_law_seed" dJ ["cell"]):ae P w K mg base aT 1 "_law_seed" ["cell"] (spT K [false] Cs):=by
 refine F.i4 gq [false] rfl (by decide) ?_;left;obtain⟨c,rfl,q⟩:=h;refine⟨_,(Y.ai (Y.set (i:=1) gq.nd rfl (by right) (Y.cb (vh rfl) Y.Fb rfl T.HN (by decide +kernel) (Y.cons (Y.vS 0) (Y.cons (Y.op d5 Y.cw Y.int (Y.vS 0)) Y.nil))))
   (Y.ay (Y.ret (Y.lst (Y.cons (Y.vS 1) (Y.cons (Y.ct uz Y.D0 rfl T.Gj (by decide +kernel) (Y.cons (Y.cmp CL Y.eO (Y.vS 1) (Y.op yz Y.bV Y.int Y.int)) Y.nil)) (Y.cons Y.int (Y.cons (Y.op eG Y.bV (Y.vS 0) Y.int) Y.nil)))))))),?_⟩
 refine au fun N hN=>?_;rfl';ac_rfl;rfl';exact⟨⟨by decide,by decide,by decide⟩,by decide,by decide,q _ ⟨_,_,_,_,rfl⟩⟩
noncomputable def x9:dX:=fun args Q=>∃(c:L2.T) (ls:List Int),args=[c]/\(c=.tup (nI ls)\/c=.lst (nI ls))/\nY ls/\Q (.tr (.bl (nG ls))) []
abbrev k5z(P w K mg base):=ae P w K mg base aT 1 "can_be" ["lengths"] (spT K [false] x9)
theorem x3(T:Txt K mg)(F:HasFn K mg "can_be" gv ["lengths"]):k5z P w K mg base:=by
 refine F.i4 bN [false] rfl (by decide) ?_;left;obtain⟨c,ls,rfl,hc,hL,q⟩:=h;have hlen:nR c=Ou.ok (.tr (.int (ls.length:Int))):=by rcases hc with rfl|rfl<;>(rw[<- aR ls];rfl)
 have hsrt:∀(μ:Mu) (Q:R->Mu->Prop),Y.xH c μ Q=(∃ ns:List Int,nI ls=ns.map L2.T.int/\ns.length<64/\∀ ns':List Int,ns'.Perm ns->ns'.Pairwise (·<=·)->Q (.fr (.lst (ns'.map L2.T.int))) μ):=fun μ Q=>by rcases hc with rfl|rfl<;>rfl
 refine⟨_,(Y.ai (Y.set (i:=1) bN.nd rfl (by right) Y.int)
   (Y.ai (Y.set (i:=2) bN.nd rfl (by right) Y.int)
   (Y.ai (Y.set (i:=3) bN.nd rfl (by right) (Y.cb (Y.az K rfl) Y.aN rfl T.cu (by decide +kernel) (Y.cons (Y.vS 0) Y.nil)))
   (Y.ai (Y.e_ LQ rfl (Y.anyS K rfl (Y.cb (Y.qo K rfl) Y.wk rfl T.jn (by decide +kernel) (Y.cons (Y.vS 0) Y.nil))) (Y.ax (i:=4) bN.nd rfl (by right)) (Y.ai (Y.hW (Y.bD (Y.bP K rfl (LM hu)) Y.cZ (Y.vS 1) Y.int) (Y.ay (Y.ret Y.bl)) Y.cW)
   (Y.ai (Y.jS LQ (Y.tw (Y.xA (Y.bD kU Y.eO (Y.vS 2) (Y.vS 4)) (Y.nK (Y.bD kU Y.eO (Y.vS 1) (Y.vS 3))))) (Y.ai (Y.set (i:=1) bN.nd rfl (by right) (Y.op (Y.dh K rfl) Y.cf (Y.vS 1) Y.int))
   (Y.ay (Y.set (i:=2) bN.nd rfl (by right) (Y.op (Y.aB K rfl) Y.aC (Y.vS 2) Y.int)))))
   (Y.ai (Y.hW (Y.bD CL Y.eO (Y.vS 1) (Y.vS 3)) (Y.ay (Y.ret Y.bl)) Y.cW)
   (Y.ai (Y.set (i:=1) bN.nd rfl (by right) (Y.op d5 Y.cw (Y.vS 1) Y.int))
   (Y.ay (Y.set (i:=3) bN.nd rfl (by right) (Y.op d5 Y.cw (Y.vS 3) Y.int))))))))
   (Y.ay (Y.ret Y.bl)))))),?_⟩
 refine au fun N hN=>?_;rfl';symm;rfl';symm;exists hlen;symm;exists hsrt;refine⟨ls,rfl,by have:=hL.2.1;lia,fun rs hp hs=>?_⟩
 refine bT (fun rest μ=>∃(r:List Int) (f d n:Int) (s4:Option L2.T),rest=nI r/\r.Pairwise (·<=·)/\(∀ x∈r,1<=x/\x<=40/\d<=x)/\0<=f/\0<=d/\n=r.length/\(nG ls=true ↔ Kr.fit (r.map Int.toNat) f.toNat d.toNat 40)/\μ=[.tr c,.tr (.int f),.tr (.int d),.tr (.int n),sl s4])
  ⟨rs,1,0,_,none,rfl,hs,fun x hx=>by have:=hL.2.2 x (hp.mem_iff.mp hx);lia,by decide,by decide,by rw[hp.length_eq],?_,rfl⟩ ?_ ?_
 ·unfold nG KS Kr.fit;rw[decide_eq_true_eq,Kr.iL (hp.map Int.toNat),show (1:Int).toNat*2^(40-(0:Int).toNat)=2^40 from rfl]
 ·rintro μ ⟨r,f,d,n,s4,e,_,_,_,_,_,hi,rfl⟩
  cases r with
  |cons=>cases e
  |nil =>
   show N _;ac_rfl;rfl';have:nG ls=true:=hi.mpr (LA _);rw[this] at q;exact q
 ·rintro t ts μ M ⟨r,f,d,n,s4,e,hs,hx,f0,d0,hn,hi,rfl⟩ k
  cases r with
  |nil=>cases e
  |cons l r =>
   cases e;obtain⟨hl1,hl2,hl3⟩:=hx l (by simp)
   have hle:∀ x∈r,l<=x:=(LG.mp hs).1;rfl';refine au fun M' hM=>?_;by_cases hf:f=0
   ·exists Lg hf;have:nG ls=false:=by
     cases c:nG ls with
     |false=>rfl
     |true=>have:=hi.mp c;rw[hf] at this;exact absurd this Kr.xB
    rw[this] at q;exact q
   ·exists K_ hf;refine hM _ ?_;clear hM M';refine au fun M' hM=>?_;have after:∀ f d:Int,0<f->0<=d->d<=l->(d=l\/n<=f)->(nG ls=true ↔ Kr.fit ((l::r).map Int.toNat) f.toNat d.toNat 40)->M' [.tr c,.tr (.int f),.tr (.int d),.tr (.int n),.tr (.int l)]:=fun f d f0 d0 dl hc hi=>by
     refine hM _ ?_;clear hM M';refine au fun M' hM=>?_;by_cases h3:n<=f
     ·exists Lg h3;have:nG ls=true:=hi.mpr (Kr.qw (fun x hx=>by
       obtain⟨y,hy,rfl⟩:=LD.mp hx;rcases Ll.mp hy with rfl|hy
       ·lia
       ·have:=hle y hy;lia) (by rw[Ld];lia))
      rw[this] at q;exact q
     ·exists K_ h3;refine hM _ ?_;clear hM M';refine au fun M' hM=>?_;rfl';refine hM _ ?_;clear hM M';rfl';have hd:d=l:=hc.resolve_right h3;subst hd;refine k _ ⟨r,f-1,d,n-1,some _,rfl,(LG.mp hs).2,fun x hx'=>⟨(hx x (by simp[hx'])).1,(hx x (by simp[hx'])).2.1,hle x hx'⟩,by lia,d0,by rw[hn,KZ];lia,?_,rfl⟩
      rw[hi,Lz,Kr.xW (by lia),show (f-1).toNat=f.toNat-1 by lia]
    refine⟨fun m μ=>∃ f d:Int,0<f/\0<=d/\d<=l/\m=(l-d).toNat/\(nG ls=true ↔ Kr.fit ((l::r).map Int.toNat) f.toNat d.toNat 40)/\μ=[.tr c,.tr (.int f),.tr (.int d),.tr (.int n),.tr (.int l)],⟨_,f,d,by lia,d0,hl3,rfl,hi,rfl⟩,?_⟩
    rintro m μ ⟨f,d,f0,d0,dl,rfl,hi,rfl⟩;by_cases c1:d<l
    ·by_cases c2:f<n
     ·exists Lg c1,Lg c2;refine au fun M2 h2=>?_;rfl';refine⟨.inr (by decide),?_⟩
      refine h2 _ ?_;clear h2 M2;rfl';refine⟨_,?_,f*2,d+1,by lia,by lia,by lia,rfl,?_,rfl⟩
      ·lia
      ·rw[hi,Kr.rk (l:=l.toNat) (by lia) (by lia),show (f*2).toNat=f.toNat*2 by lia,show (d+1).toNat=d.toNat+1 by lia]
       exact Iff.rfl
     ·exists Lg c1,K_ c2;exact after f d f0 d0 dl (.inr (by lia)) hi
    ·exists K_ c1;exact after f d f0 d0 dl (.inl (by lia)) hi
noncomputable def nN(l:List Nat):List L2.T:=l.map fun i:Nat=>L2.T.int (i:Int)
theorem jo(l:List Nat):(nN l).length=l.length:=Ld ..
theorem qV(a b:List Nat):nN (a++b)=nN a++nN b:=Lv
noncomputable def BP(x:Pm.It):L2.T:=.tup [.int x.1,.lst (nN x.2)]
noncomputable def iT(X:List Pm.It):List L2.T:=X.map BP
theorem j7(X:List Pm.It):(iT X).length=X.length:=Ld ..
theorem pW(X Y:List Pm.It):iT (X++Y)=iT X++iT Y:=Lv
theorem lZ{β:Type}(f:α->β)(ks:List Int)(l:List α):eH ks (l.map f)=(eH ks l).map f:=by
 have e:∀ m:List α,Paired (fun (b:β) (a:α)=>b=f a) (m.map f) m:=fun m=>by
  induction m with
  |nil=>exact .nil
  |cons x m ih=>exact .cons rfl ih
 have h:=iG (ks:=ks) (e l);generalize eH ks (l.map f)=u at h;generalize eH ks l=v at h
 induction h with
 |nil=>rfl
 |cons a b ih=>rw[a,ih];rfl
noncomputable def wc:vA:=fun args Q _=>∃ X:List Pm.It,args=[.lst (iT X)]/\X.length<64/\Q (.fr (.lst (iT (Pm.FE X)))) []
theorem zw(T:Txt K mg)(F:HasFn K mg "by_worth" bW ["shelf"]):ae P w K mg base (nF P w) 4 "by_worth" ["shelf"] (sW K [false] wc):=by
 obtain⟨c,Pt,htab,hcc⟩:=T.m4.ex;refine F.Ec p6 [false] rfl rfl (by decide) (fun args Qt Et hl h f cdv A outer s H E hr hcd=>?_)
 have:=hcc _ _ hcd;subst this;have hu:=aP hr;obtain⟨X,rfl,hX,q⟩:=h;refine⟨_,(Y.fc (Y.m5 (Y.ret (Y.sortI (k:=0) K rfl (by decide) htab rfl rfl rfl rfl rfl T.jn (Y.cons (Y.vS 0) Y.nil) (hr.mono (by decide)) rfl rfl rfl (fun _ _ _ _=>rfl))))),?_⟩
 rfl';refine⟨X.map fun x=>x.1,?_,by rw[j7];exact hX,?_⟩
 ·unfold iT;rw[Ml,Ml];rfl
 ·unfold iT;rw[lZ];exact q
noncomputable def vF:List Pm.It->List (Pm.It×Pm.It)
 |a::b::r=>(a,b)::vF r
 |_=>[]
theorem sg:∀ X:List Pm.It,kh (kf (iT X)) (kf ((iT X).drop 1))=(vF X).map fun p=>L2.T.tup [BP p.1,BP p.2]
 |[]=>rfl
 |[a]=>rfl
 |[a,b]=>rfl
 |a::b::c::r=>by
  have ih:=sg (c::r);show L2.T.tup [BP a,BP b]::kh (kf (iT (c::r))) (kf ((iT (c::r)).drop 1))=_;rw[ih];rfl
theorem zH:∀ X:List Pm.It,Pm.pk X=(vF X).map fun p=>(p.1.1+p.2.1,p.1.2++p.2.2)
 |[]=>by simp[vF,Pm.pk]
 |[a]=>by simp[vF,Pm.pk]
 |a::b::r=>by rw[Pm.pk,vF,Lz,zH r]
theorem zA:∀{X:List Pm.It} {p:Pm.It×Pm.It},p∈vF X->p.1.2.length+p.2.2.length<=(Pm.th X).length
 |[],p,h=>by cases h
 |[a],p,h=>by cases h
 |a::b::r,p,h=>by
  rw[Pm.aZ,Pm.aZ,KW,KW];rcases Ll.mp h with e|e
  ·rw[e];show a.2.length+b.2.length<=_;lia
  ·have:=zA e;lia
theorem rV:∀ X:List Pm.It,(vF X).length<=X.length
 |[]=>Lf _
 |[_]=>LA _
 |a::b::r=>by
  have:=rV r;unfold vF;simp only[KZ];lia
noncomputable def xp:dX:=fun args Q=>∃ X:List Pm.It,args=[.lst (iT X)]/\X.length<=64/\(Pm.th X).length<=1000/\Q (.fr (.lst (iT (Pm.pk X)))) []
theorem wI(T:Txt K mg)(F:HasFn K mg "packs_of" dv ["shelf"]):ae P w K mg base aT 1 "packs_of" ["shelf"] (spT K [false] xp):=by
 refine F.i4 nO [false] rfl (by decide) ?_;left;obtain⟨X,rfl,hX,ht,q⟩:=h;refine⟨_,(Y.ay (Y.ret (Y.C8 K rfl (osc:=aa dv) (ON:=["shelf"]) (own:=["one","other"]) (N:=["one","other","shelf"]) ⟨rfl,by decide +kernel,rfl,by decide +kernel,by decide +kernel,by decide +kernel,by decide +kernel,by decide +kernel⟩ rfl rfl rfl rfl (Y.zip K rfl rfl T.sv (Y.cons (Y.wL K rfl 0 rfl (Y.vS 0)) (Y.cons (Y.wL K rfl 1 rfl (Y.vS 0)) Y.nil))) (fun _ _ _ _=>(Z.pZ (n:=2) K rfl rfl (Z.aW (Z.ax (i:=0) (show List.Nodup (["one","other","shelf"]:List Str) by decide +kernel) rfl (by right)) (Z.aW (Z.ax (i:=1) (show List.Nodup (["one","other","shelf"]:List Str) by decide +kernel) rfl (by right)) Z.eQ)))) (fun _ _ _ _=>Y.mZ) (fun _ _ _ _=>(Y.tup (Y.cons (Y.op (Y.aB K rfl) Y.aC (Y.ix (Y.bw K rfl) Y.ar (Y.vS 0) Y.int) (Y.ix (Y.bw K rfl) Y.ar (Y.vS 1) Y.int)) (Y.cons (Y.op (Y.aB K rfl) Y.aC (Y.ix (Y.bw K rfl) Y.ar (Y.vS 0) Y.int) (Y.ix (Y.bw K rfl) Y.ar (Y.vS 1) Y.int)) Y.nil))))))),?_⟩
 rfl';rw[Nb,sg];refine bj (fun rest acc μ=>∃(done todo:List (Pm.It×Pm.It)),done++todo=vF X/\(rest=todo.map fun p=>L2.T.tup [BP p.1,BP p.2])/\acc=iT (done.map fun p=>(p.1.1+p.2.1,p.1.2++p.2.2))/\μ=[.tr (.lst (iT X))]) ⟨[],vF X,rfl,rfl,rfl,rfl⟩ ?_ ?_
 ·rintro acc μ ⟨done,todo,e1,e2,rfl,rfl⟩;have e3:todo=[]:=by simpa using e2.symm
  subst e3;rw[L3] at e1;refine⟨trivial,?_⟩;rw[zH,<- e1] at q;exact q
 ·rintro t r acc μ M ⟨done,todo,e1,e2,rfl,rfl⟩ k
  cases todo with
  |nil=>cases e2
  |cons p todo =>
   obtain⟨rfl,rfl⟩:=List.cons.inj e2;have hm:p∈vF X:=by rw[<- e1];simp
   have h1:=zA hm;have h2:=rV X;rw[<- e1,KW] at h2;refine⟨trivial,by rw[j7,Ld];exact Lu (show _<=64 by lia) (by decide),?_⟩
   obtain⟨⟨w1,t1⟩,w2,t2⟩:=p;unfold BP;have a0:∀(v:Int) (l:List Nat),b9 [L2.T.int v,.lst (nN l)] 0=some (.int v):=fun v l=>rfl;have a1:∀(v:Int) (l:List Nat),b9 [L2.T.int v,.lst (nN l)] 1=some (.lst (nN l)):=fun v l=>rfl;exists a0,a1;refine⟨by rw[jo,jo];exact Lr (show _<=1000 by have:t1.length+t2.length<=_:=h1;lia) (by decide),by decide,k _ _ ⟨done++[((w1,t1),(w2,t2))],todo,by rw[<- e1];simp,rfl,?_,rfl⟩⟩
   rw[Lv,pW,<- qV];rfl
theorem CC:∀ A:List Pm.It,(Pm.th (Pm.pk A)).length<=(Pm.th A).length
 |[]=>by simp[Pm.pk]
 |[a]=>by simp[Pm.pk,Pm.th]
 |a::b::r=>by
  have:=CC r;rw[Pm.pk,Pm.aZ,Pm.aZ,Pm.aZ];simp only[KW];lia
theorem lO(c:Nat->Int)(hn:1<=n):∀ d,(Pm.shelf c n d).length<=2*n-1
 |0=>LA _
 |d+1=>by
  have:=lO c hn d;rw[Pm.shelf,(Pm.e7 _).length_eq,KW,Pm.mL];unfold Pm.coins;rw[Ld,L7];lia
theorem j8(c:Nat->Int)(n:Nat):∀ d,(Pm.th (Pm.shelf c n d)).length<=n*d
 |0=>Lf _
 |d+1=>by
  have h1:=j8 c n d;have h2:=CC (Pm.shelf c n d);rw[Pm.shelf,(Pm.iK (Pm.e7 _)).length_eq,Pm.g_,KW,Pm.pH,L7,P_];lia
noncomputable def eF(cs:List Int)(i:Nat):Int:=cs.getD i 0
theorem Ah(cs:List Int):pairs (nI cs)=(List.range' 0 cs.length).map fun i:Nat=>L2.T.tup [.int (i:Int),.int (eF cs i)]:=by
 unfold pairs;rw[aR,<- Mp];refine M4 fun i hi=>?_;have h:=LZ.mp hi;unfold nI eF;rw[Lw,KY h,Ls,KY h];rfl
theorem rA(c:Nat->Int)(i:Nat):Pm.coins c (i+1)=Pm.coins c i++[(c i,[i])]:=by
 unfold Pm.coins;rw[MF,Lv];rfl
noncomputable def sj:vA:=fun args Q _=>∃(cs:List Int) (b:Nat),args=[.tup (nI cs),.int (b:Int)]/\2<=cs.length/\cs.length<=20/\1<=b/\b<=40/\Q (.fr (.lst (nN (Pm.th ((Pm.shelf (eF cs) cs.length b).take (2*cs.length-2)))))) []
abbrev k10z(P w K mg base):=ae P w K mg base (nF P w) 5 "chosen_things" ["counts","bound"] (sW K [false,false] sj)
theorem vo(T:Txt K mg)(F:HasFn K mg "chosen_things" bB ["counts","bound"])(hby_worth:ae P w K mg base (nF P w) 4 "by_worth" ["shelf"] (sW K [false] wc))(hpacks_of:ae P w K mg base aT 1 "packs_of" ["shelf"] (spT K [false] xp)):
  k10z P w K mg base:=by
 refine F.Ii aG [false,false] rfl rfl (by decide) (fun args Qt Et hl h f cdv A outer s H E hr=>?_)
 have hu:=aP hr;obtain⟨cs,b,rfl,hn2,hn,hb1,hb,q⟩:=h;refine⟨_,(Y.bp (Y.m5 (Y.DX (j:=2) K rfl aG.nd rfl (by right) (osc:=aa bB) (ON:=["counts","bound","coins","shelf","depth","chosen","item"]) (own:=["thing","count"]) (N:=["thing","count","counts","bound","coins","shelf","depth","chosen","item"]) ⟨rfl,by decide +kernel,rfl,by decide +kernel,by decide +kernel,by decide +kernel,by decide +kernel,by decide +kernel⟩ rfl rfl rfl rfl (Y.enum K rfl rfl T.eZ (Y.cons (Y.vS 0) Y.nil)) (fun _ _ _ _=>(Z.pZ (n:=2) K rfl rfl (Z.aW (Z.ax (i:=0) (show List.Nodup (["thing","count","counts","bound","coins","shelf","depth","chosen","item"]:List Str) by decide +kernel) rfl (by right)) (Z.aW (Z.ax (i:=1) (show List.Nodup (["thing","count","counts","bound","coins","shelf","depth","chosen","item"]:List Str) by decide +kernel) rfl (by right)) Z.eQ)))) (fun _ _ _ _=>Y.mZ) (fun _ _ _ _=>(Y.tup (Y.cons (Y.vS 1) (Y.cons (Y.lst (Y.cons (Y.vS 0) Y.nil)) Y.nil))))))
   (Y.bp (Y.CU (i:=3) aG.nd rfl (by right) (Y.IE K rfl hby_worth (hr.mono (by decide)) rfl rfl (Y.cons (Y.vS 2) Y.nil)))
   (Y.bp (Y.GO NT rfl (Y.E3 rfl T.cI (Y.cons Y.int (Y.cons (Y.vS 1) Y.nil))) (Y.ax (i:=4) aG.nd rfl (by right)) (Y.fc (Y.CU (i:=3) aG.nd rfl (by right) (Y.IE K rfl hby_worth (hr.mono (by decide)) rfl rfl (Y.cons (Y.op (Y.aB K rfl) Y.aC (Y.vS 2) (Y.fn K rfl hpacks_of (hr.mono (by decide)) rfl aq (Y.cons (Y.vS 3) Y.nil))) Y.nil)))))
   (Y.bp (Y.m5 (Y.set (i:=5) aG.nd rfl (by right) (Y.lst Y.nil)))
   (Y.bp (Y.m5 (Y.e_ NT rfl (Y.anyS K rfl (Y.je K rfl (Y.vS 3) Y.EF (Y.DR (Y.op d5 Y.cw (Y.op (Y.dh K rfl) Y.cf Y.int (Y.cb (Y.az K rfl) Y.aN rfl T.cu (by decide +kernel) (Y.cons (Y.vS 0) Y.nil))) Y.int)))) (Y.ax (i:=6) aG.nd rfl (by right)) (Y.ay (Y.expr (Y.bm K rfl PySem.F.slot_list_extend PySem.F.type_list_extend Y.Ep Y.De (Y.vS 5) (Y.cons (Y.ix (Y.bw K rfl) Y.ar (Y.vS 6) Y.int) Y.nil))))))
   (Y.fc (Y.m5 (Y.ret (Y.vS 5))))))))),?_⟩
 refine lW fun N hN=>?_;rfl';rw[Ah];refine bj (fun rest acc μ=>∃ i:Nat,i<=cs.length/\(rest=(List.range' i (cs.length-i)).map fun i:Nat=>L2.T.tup [.int (i:Int),.int (eF cs i)])/\acc=iT (Pm.coins (eF cs) i)/\μ=[.tr (.tup (nI cs)),.tr (.int (b:Int)),.un,.un,.un,.un,.un]) ⟨0,LA _,rfl,rfl,rfl⟩ ?_ ?_
 ·rintro acc μ ⟨i,hi,e,rfl,rfl⟩;have hi2:i=cs.length:=by
   have:=LF List.length e;rw[Ld,LU,LI] at this;lia
  subst hi2;refine⟨trivial,?_⟩;rfl';ac_rfl;have e1:Pm.FE (Pm.coins (eF cs) cs.length)=Pm.shelf (eF cs) cs.length 1:=by
   rw[Pm.shelf,Pm.shelf,Pm.pk,L3];simp
  refine lW fun N hN=>?_;rfl';have hcl:(Pm.coins (eF cs) cs.length).length=cs.length:=by unfold Pm.coins;rw[Ld,L7]
  refine⟨Pm.coins (eF cs) cs.length,rfl,by lia,?_⟩
  rfl';ac_rfl;rw[e1];clear e1;refine lW fun N hN=>?_;rfl';refine⟨by lia,?_⟩
  have eb:((b:Int)-1).toNat=b-1:=by lia
  rw[eb,Mp];refine yy (fun rest μ=>∃(d:Nat) (o:Option L2.T),d<=b-1/\(rest=(List.range' d (b-1-d)).map fun k:Nat=>L2.T.int (1+(k:Int)))/\μ=[.tr (.tup (nI cs)),.tr (.int (b:Int)),.tr (.lst (iT (Pm.coins (eF cs) cs.length))),.tr (.lst (iT (Pm.shelf (eF cs) cs.length (d+1)))),sl o,.un,.un]) ⟨0,none,LA _,rfl,rfl⟩ ?_ ?_
  ·rintro μ ⟨d,o,hd,e,rfl⟩;have hd2:d+1=b:=by
    have:=LF List.length e;rw[Ld,LU,LI] at this;lia
   rw[hd2];show N _;ac_rfl;refine lW fun N hN=>?_;rfl';ac_rfl;refine lW fun N hN=>?_;exists aR;have ec:((2*(cs.length:Int)-2))=((2*cs.length-2:Nat):Int):=by lia
   have h2:=j8 (eF cs) cs.length b;have h3:cs.length*b<=20*40:=O3 hn hb;have et:Y.bM (iT (Pm.shelf (eF cs) cs.length b)) none (some (2*(cs.length:Int)-2))=iT ((Pm.shelf (eF cs) cs.length b).take (2*cs.length-2)):=by
    rw[ec];unfold Y.bM iT;rw[HT.fb,HT.ni,N1,Nb,Ld,<- NX];congr 1;rw[List.take_eq_take_iff];lia
   rw[et];have ht:(Pm.th ((Pm.shelf (eF cs) cs.length b).take (2*cs.length-2))).length<=800:=by
    have e2:Pm.th (Pm.shelf (eF cs) cs.length b)=Pm.th ((Pm.shelf (eF cs) cs.length b).take (2*cs.length-2))++Pm.th ((Pm.shelf (eF cs) cs.length b).drop (2*cs.length-2)):=by rw[<- Pm.g_,Mk]
    rw[e2,KW] at h2;lia
   refine⟨.inl (by decide),?_⟩
   generalize (Pm.shelf (eF cs) cs.length b).take (2*cs.length-2)=Z at ht q ⊢;refine bT (fun rest μ=>∃(done todo:List Pm.It) (o2:Option L2.T),done++todo=Z/\rest=iT todo/\μ=[.tr (.tup (nI cs)),.tr (.int (b:Int)),.tr (.lst (iT (Pm.coins (eF cs) cs.length))),.tr (.lst (iT (Pm.shelf (eF cs) cs.length b))),sl o,.bx (.lst (nN (Pm.th done))),sl o2]) ⟨[],Z,none,rfl,rfl,rfl⟩ ?_ ?_
   ·rintro μ ⟨done,todo,o2,e1,e2,rfl⟩;have e3:todo=[]:=by
     cases todo with
     |nil=>rfl
     |cons=>cases e2
    subst e3;rw[L3] at e1;subst e1;show N _;ac_rfl;rfl';exact q
   ·rintro t r μ M ⟨done,todo,o2,e1,e2,rfl⟩ k
    cases todo with
    |nil=>cases e2
    |cons x todo =>
     obtain⟨rfl,rfl⟩:=List.cons.inj e2;have a1:∀(v:Int) (l:List Nat),b9 [L2.T.int v,.lst (nN l)] 1=some (.lst (nN l)):=fun v l=>rfl;have hz:(Pm.th done).length+x.2.length<=800:=by
      rw[<- e1,Pm.g_,Pm.aZ] at ht;simp only[KW] at ht;lia
     unfold BP;exists a1;refine⟨by rw[jo,jo];exact Lr hz (by decide),?_⟩
     refine k _ ⟨done++[x],todo,some (.tup [.int x.1,.lst (nN x.2)]),by rw[<- e1];simp,rfl,?_⟩
     rw[Pm.g_,qV];simp only[Pm.th,M0,List.flatMap_nil,L3];rfl
  ·rintro t r μ M ⟨d,o,hd,e,rfl⟩ k;have hd2:d<b-1:=by
    have:=LF List.length e;rw[Ld,LU,KZ] at this;lia
   rw[show b-1-d=(b-1-(d+1))+1 by lia,Me,Lz] at e
   obtain⟨rfl,rfl⟩:=List.cons.inj e;clear e;have h1:=lO (eF cs) (n:=cs.length) (by lia) (d+1)
   have h2:=j8 (eF cs) cs.length (d+1);have h3:cs.length*(d+1)<=20*40:=O3 hn (by lia)
   rfl';refine⟨Pm.shelf (eF cs) cs.length (d+1),rfl,by lia,by lia,?_⟩
   rfl';have h4:=Pm.mL (Pm.shelf (eF cs) cs.length (d+1));refine⟨by rw[j7,j7];exact Lr (show _<=100 by lia) (by decide),?_⟩
   rw[<- pW];refine⟨_,rfl,by rw[KW];lia,?_⟩
   rfl';exact k _ ⟨d+1,some _,hd2,rfl,rfl⟩
 ·rintro t r acc μ M ⟨i,hi,e,rfl,rfl⟩ k;have hi2:i<cs.length:=by
   have:=LF List.length e;rw[Ld,LU,KZ] at this;lia
  rw[show cs.length-i=(cs.length-(i+1))+1 by lia,Me,Lz] at e
  obtain⟨rfl,rfl⟩:=List.cons.inj e;clear e;have hl:(iT (Pm.coins (eF cs) i)).length=i:=by unfold Pm.coins;rw[j7,Ld,L7]
  refine⟨trivial,by rw[hl];exact Lu (show i<=20 by lia) (by decide),?_⟩
  rfl';refine⟨by decide,by decide,k _ _ ⟨i+1,hi2,rfl,?_,rfl⟩⟩
  rw[rA,pW];rfl
noncomputable def aA(cs:List Int)(b:Nat):List Nat:=if cs.length=1 then [1] else (List.range cs.length).map (Pm.eS (eF cs) cs.length (min b (cs.length-1)))
noncomputable def qu(n:Nat)(b:Int):Bool:=decide (1<=b/\n<=2^b.toNat)
noncomputable def zE(C:Addr):vA:=fun args Q Et=>∃(cs:List Int) (b:Int),args=[.tup (nI cs),.int b]/\1<=cs.length/\cs.length<=20/\-40<=b/\b<=40/\((qu cs.length b=true/\Q (.tr (.tup (nN (aA cs b.toNat)))) [])\/(qu cs.length b=false/\Et (.exc (.ref C) none)))
theorem wY(L l:Nat):∀ n,Kr.ks L (List.replicate n l)=n*2^(L-l)
 |0=>by simp[Kr.ks]
 |n+1=>by rw[LC,Kr.ks,wY L l n,Nz];lia
theorem Fq{b:Nat}(hb:b<=40):nG (List.replicate n (b:Int))=decide (n<=2^b):=by
 unfold nG KS;rw[List.map_replicate,L6,wY];refine OZ.mpr ?_;have e:2^40=2^b*2^(40-b):=by rw[<- Nv,NB hb]
 rw[e];exact⟨fun h=>OI h (NV (by decide)),fun h=>M_ _ h⟩
theorem Fc(l:List Nat)(i:Nat):(l.map fun k:Nat=>(k:Int)).count (i:Int)=l.count i:=by
 induction l with
 |nil=>rfl
 |cons x l ih =>
  rw[Lz,Ow,Ow,ih];congr 1;by_cases h:x=i
  ·subst h;simp
  ·have:¬ (x:Int)=(i:Int):=by lia
   simp[h,this]
theorem za(T:Txt K mg)(F:HasFn K mg "least_lengths" aX ["counts","bound"])(hcan_be:k5z P w K mg base)(hchosen_things:k10z P w K mg base)
   (hC_NoCode:mg "NoCode"=some (.ref C_NoCode)) (kC_NoCode:pM K C_NoCode) :
  ae P w K mg base (nF P w) 6 "least_lengths" ["counts","bound"] (sW K [false,false] (zE C_NoCode)):=by
 refine F.Ii cH [false,false] rfl rfl (by decide) (fun args Qt Et hl h f cdv A outer s H E hr=>?_)
 have hu:=aP hr;obtain⟨cs,b,rfl,hn1,hn,hb0,hb,q⟩:=h;refine⟨_,(Y.bp (Y.m5 (Y.set (i:=2) cH.nd rfl (by right) (Y.cb (Y.az K rfl) Y.aN rfl T.cu (by decide +kernel) (Y.cons (Y.vS 0) Y.nil))))
   (Y.bp (Y.Fj (Y.tw (Y.GL (Y.bD kU Y.eO (Y.vS 1) Y.int) (Y.yE (Y.uF (Y.t4 K rfl (Y.fn K rfl hcan_be (hr.mono (by decide)) rfl aq (Y.cons (Y.ie (osc:=aa aX) (ON:=["counts","bound","things","chosen"]) (own:=["count"]) (N:=["count","counts","bound","things","chosen"]) ⟨rfl,by decide +kernel,rfl,by decide +kernel,by decide +kernel,by decide +kernel,by decide +kernel,by decide +kernel⟩ rfl rfl rfl rfl (Y.anyS K rfl (Y.vS 0)) (fun _ _ _ _=>(Z.ax (i:=0) (show List.Nodup (["count","counts","bound","things","chosen"]:List Str) by decide +kernel) rfl (by right))) (fun _ _ _ _=>Y.mZ) (fun _ _ _ _=>(Y.vS 2))) Y.nil))))))) (Y.fc (Y.qF rfl hC_NoCode kC_NoCode rfl rfl (Y.cons (Y.Dc (Y.uP (Y.D9 (Y.vS 1) (Y.uP (Y.D9 (Y.vS 2) (Y.uP Y.EG)))))) Y.nil))) Y.y9)
   (Y.bp (Y.m5 (Y.hW (Y.bD (Y.bP K rfl (LM hu)) Y.cZ (Y.vS 2) Y.int) (Y.ay (Y.ret (Y.tup (Y.cons Y.int Y.nil)))) Y.cW))
   (Y.bp (Y.JE (i:=3) cH.nd rfl (by right) (Y.IE K rfl hchosen_things (hr.mono (by decide)) rfl rfl (Y.cons (Y.vS 0) (Y.cons (Y.cb (lu rfl) Y.xo rfl T.Cc (by decide +kernel) (Y.cons (Y.vS 1) (Y.cons (Y.op d5 Y.cw (Y.vS 2) Y.int) Y.nil))) Y.nil))))
   (Y.fc (Y.m5 (Y.ret (Y.ct (Y.bY K rfl) Y.cU rfl T.cN (by decide +kernel) (Y.cons (Y.ie (osc:=aa aX) (ON:=["counts","bound","things","chosen"]) (own:=["thing"]) (N:=["thing","counts","bound","things","chosen"]) ⟨rfl,by decide +kernel,rfl,by decide +kernel,by decide +kernel,by decide +kernel,by decide +kernel,by decide +kernel⟩ rfl rfl rfl rfl (Y.kE rfl T.cI (Y.cons (Y.vS 2) Y.nil)) (fun _ _ _ _=>(Z.ax (i:=0) (show List.Nodup (["thing","counts","bound","things","chosen"]:List Str) by decide +kernel) rfl (by right))) (fun _ _ _ _=>Y.mZ) (fun _ _ _ _=>(Y.bm K rfl PySem.F.slot_list_count PySem.F.type_list_count Y.ED Y.Er (Y.vS 4) (Y.cons (Y.vS 0) Y.nil)))) Y.nil))))))))),?_⟩
 refine lW fun N hN=>?_;exists aR;ac_rfl;refine lW fun N hN=>?_;have no:qu cs.length b=false->Et (.exc (.ref C_NoCode) none):=fun h=>by
  rcases q with ⟨z,_⟩|⟨_,z⟩
  ·rw[h] at z;cases z
  ·exact z
 by_cases b1:b<1
 ·exists Lg b1;refine⟨Lu (show b.natAbs<=40 by lia) (by decide),Lu (show (cs.length:Int).natAbs<=40 by lia) (by decide),fun _ _=>no ?_⟩
  unfold qu;exact L0 fun h=>by lia
 ·obtain⟨b,rfl⟩:∃ k:Nat,b=k:=⟨b.toNat,by lia⟩
  exists K_ b1;refine bj (fun rest acc μ=>rest.length+acc.length=cs.length/\acc=nI (List.replicate acc.length (b:Int))/\μ=[.tr (.tup (nI cs)),.tr (.int (b:Int)),.tr (.int (cs.length:Int)),.un]) ⟨by rw[aR];rfl,rfl,rfl⟩ ?_ ?_
  ·rintro acc μ ⟨e1,e2,rfl⟩;have e3:acc=nI (List.replicate cs.length (b:Int)):=by rw[<- show acc.length=cs.length by simpa using e1];exact e2
   clear e1 e2;subst e3;refine⟨trivial,?_⟩;rfl';refine⟨_,_,rfl,.inr rfl,⟨by rw[Lp];lia,by rw[Lp];exact hn,fun x hx=>by have:=Pd hx;lia⟩,?_⟩
   rw[Fq (by lia)]
   have em:qu cs.length (b:Int)=decide (cs.length<=2^b):=by
    unfold qu;rw[L6];exact OZ.mpr ⟨fun h=>h.2,fun h=>⟨by lia,h⟩⟩
   rw[em] at q no
   cases hm:decide (cs.length<=2^b) with
   |false =>
    rfl';exact⟨Lu (show (b:Int).natAbs<=40 by lia) (by decide),Lu (show (cs.length:Int).natAbs<=40 by lia) (by decide),fun _ _=>no hm⟩
   |true =>
    have q':Qt (.tr (.tup (nN (aA cs b)))) []:=by
     rcases q with ⟨_,z⟩|⟨z,_⟩
     ·exact z
     ·rw[hm] at z;cases z
    clear q no;have hm2:cs.length<=2^b:=Nx hm;rfl';ac_rfl;refine lW fun N hN=>?_;by_cases h1:cs.length=1
    ·exists Lg (show (cs.length:Int)=1 by lia)
     refine⟨by decide,?_⟩
     unfold aA at q';rw[Lg h1] at q';exact q'
    ·exists K_ (show ¬ (cs.length:Int)=1 by lia)
     ac_rfl;refine lW fun N hN=>?_;have eb:(if (cs.length:Int)-1<(b:Int) then (cs.length:Int)-1 else (b:Int))=((min b (cs.length-1):Nat):Int):=by split<;>lia
     exists eb;refine⟨cs,min b (cs.length-1),rfl,by lia,hn,by lia,by lia,?_⟩
     rfl';ac_rfl;rfl';refine⟨by lia,by lia,?_⟩
     rw[L6,Mp];unfold aA at q';rw[K_ h1] at q';refine bj (fun rest acc μ=>∃ i:Nat,i<=cs.length/\(rest=(List.range' i (cs.length-i)).map fun k:Nat=>L2.T.int (0+(k:Int)))/\acc=nN ((List.range i).map (Pm.eS (eF cs) cs.length (min b (cs.length-1))))/\μ=[.tr (.tup (nI cs)),.tr (.int (b:Int)),.tr (.int (cs.length:Int)),.bx (.lst (nN (Pm.th ((Pm.shelf (eF cs) cs.length (min b (cs.length-1))).take (2*cs.length-2)))))]) ⟨0,LA _,rfl,rfl,rfl⟩ ?_ ?_
     ·rintro acc μ ⟨i,hi,e,rfl,rfl⟩;have hi2:i=cs.length:=by
       have:=LF List.length e;rw[Ld,LU,LI] at this;lia
      subst hi2;refine⟨trivial,?_⟩;rfl';exact q'
     ·rintro t r acc μ M ⟨i,hi,e,rfl,rfl⟩ k;have hi2:i<cs.length:=by
       have:=LF List.length e;rw[Ld,LU,KZ] at this;lia
      rw[show cs.length-i=(cs.length-(i+1))+1 by lia,Me,Lz] at e
      obtain⟨rfl,rfl⟩:=List.cons.inj e;clear e;refine⟨trivial,by rw[jo,Ld,L7];exact Lu (show i<=20 by lia) (by decide),?_⟩
      rfl';refine⟨(Pm.th ((Pm.shelf (eF cs) cs.length (min b (cs.length-1))).take (2*cs.length-2))).map fun k:Nat=>(k:Int),by unfold nN;rw[Ml];rfl,?_⟩
      rw[Pe,Fc];refine k _ _ ⟨i+1,hi2,rfl,?_,rfl⟩;rw[MF,Lv,qV];rfl
  ·rintro t r acc μ M ⟨e1,e2,rfl⟩ k;rfl';rw[KZ] at e1;refine⟨trivial,Lu (show acc.length<=20 by lia) (by decide),k _ _ ⟨by rw[KW];simp;lia,?_,rfl⟩⟩
   rw[KW,LO,N9,gY,<- e2];rfl
namespace Pm
theorem oF(f:Nat->Nat):∀ n,sN f (n+1)=f 0+sN (fun i=>f (i+1)) n
 |0=>by simp[sN]
 |n+1=>by rw[sN,oF f n,sN];lia
theorem nV(f:Nat->Int):∀ n,sI f (n+1)=f 0+sI (fun i=>f (i+1)) n
 |0=>by simp[sI]
 |n+1=>by rw[sI,nV f n,sI];lia
theorem zm(L:Nat):∀ l:List Nat,Kr.ks L l=sN (fun i=>2^(L-l.getD i 0)) l.length
 |[]=>rfl
 |x::l=>by rw[Kr.ks,zm L l,KZ,oF];rfl
theorem og(h:D<=L):∀{l:List Nat},(∀ x∈l,x<=D)->Kr.ks L l=Kr.ks D l*2^(L-D)
 |[],_=>by simp[Kr.ks]
 |x::l,hx=>by
  have:=hx x Lj;rw[Kr.ks,Kr.ks,og h fun y hy=>hx y (Le _ hy),P7,<- Nv];congr 2;lia
theorem pI(h:D<=L)(hx:∀ x∈l,x<=D):Kr.ks L l<=2^L ↔ Kr.ks D l<=2^D:=by
 rw[og h hx,show 2^L=2^D*2^(L-D) by rw[<- Nv,NB h]]
 exact⟨fun h=>OI h (NV (by decide)),fun h=>M_ _ h⟩
theorem yo{m:Nat}(hm:m<=L):∀{l:List Nat},(∀ x∈l,x<=m)->2^(L-m) ∣ Kr.ks L l
 |[],_=>⟨0,rfl⟩
 |x::l,h=>by
  have:=h x Lj;exact Nat.dvd_add (Nat.pow_dvd_pow 2 (by lia)) (yo hm fun y hy=>h y (Le _ hy))
theorem dy:∀(m:Nat) (l:List Nat),l.length=m->m<=L->Kr.ks L l<2^L->Kr.ks L l+2^(L-m)<=2^L
 |0,l,hl,_,_=>by
  rw[Pj.mp hl];simp[Kr.ks]
 |m+1,l,hl,hm,hk=>by
  have e2:2^(L-m)=2*2^(L-(m+1)):=by rw[show L-m=(L-(m+1))+1 by lia,M6];lia
  by_cases h:∃ a∈l,m+1<=a
  ·obtain⟨a,ha,hma⟩:=h;obtain⟨s,t,rfl⟩:=List.append_of_mem ha;have e:Kr.ks L (s++a::t)=2^(L-a)+Kr.ks L (s++t):=by rw[Kr.b_,Kr.ks,Kr.b_];lia
   have hl2:(s++t).length=m:=by
    rw[KW,KZ] at hl;rw[KW];lia
   have hk2:Kr.ks L (s++t)<2^L:=by
    rw[e] at hk;exact Lu (Nat.le_add_left _ _) hk
   have:=dy m (s++t) hl2 (by lia) hk2
   have:2^(L-a)<=2^(L-(m+1)):=Mb (by decide) (by lia)
   lia
  ·have hx:∀ x∈l,x<=m:=fun x hx=>by
    rcases M5 m x with z|z
    ·exact absurd ⟨x,hx,z⟩ h
    ·exact z
   obtain⟨k,ek⟩:=yo (show m<=L by lia) hx
   have eL:2^L=2^(L-m)*2^m:=by rw[<- Nv];congr 1;lia
   rw[ek] at hk ⊢;have hkm:k<2^m:=by
    rw[eL] at hk;exact Nat.lt_of_mul_lt_mul_left hk
   have:2^(L-m)*(k+1)<=2^(L-m)*2^m:=Nat.mul_le_mul_left _ hkm;rw[<- eL,P_] at this;lia
theorem oz{d:Nat}:∀ l:List Nat,Kr.ks L (l.map fun x=>min x d)=Kr.ks L (l.filter fun x=>decide (x<=d))+(l.filter fun x=>!decide (x<=d)).length*2^(L-d)
 |[]=>by simp[Kr.ks]
 |x::l=>by
  rw[Lz,Kr.ks,oz l,Nh,Nh];by_cases h:x<=d
  ·rw[Nat.min_eq_left h];simp only[h,decide_true,M1,Bool.not_true,Ma,M8,Kr.ks];lia
  ·rw[Nat.min_eq_right (by lia)]
   simp only[h,decide_false,M8,Bool.not_false,M1,Ma,KZ,Nz];lia
theorem pA{L d:Nat}:∀ l:List Nat,Kr.ks L l=Kr.ks L (l.filter fun x=>decide (x<=d))+Kr.ks L (l.filter fun x=>!decide (x<=d))/\l.length=(l.filter fun x=>decide (x<=d)).length+(l.filter fun x=>!decide (x<=d)).length
 |[]=>by simp[Kr.ks]
 |x::l=>by
  obtain⟨h1,h2⟩:=pA (L:=L) (d:=d) l;rw[Kr.ks,h1,KZ,h2,Nh,Nh];by_cases h:x<=d
  ·simp only[h,decide_true,M1,Bool.not_true,Ma,M8,Kr.ks,KZ];lia
  ·simp only[h,decide_false,M8,Bool.not_false,M1,Ma,KZ,Kr.ks];lia
theorem two_le_pow:∀ k:Nat,1<=k->2*k<=2^k
 |0,h=>by lia
 |1,_=>by decide
 |k+2,_=>by
  have:=two_le_pow (k+1) (by lia)
  rw[M6];lia
theorem clamp{L:Nat}(hn:1<=l.length)(hL:l.length<=L)(hk:Kr.ks L l<=2^L):Kr.ks L (l.map fun x=>min x (l.length-1))<=2^L:=by
 obtain⟨s1,s2⟩:=pA (L:=L) (d:=l.length-1) l;rw[oz];generalize hd:l.length-1=d at s1 s2 ⊢;generalize l.filter (fun x=>decide (x<=d))=lo at s1 s2 ⊢;generalize ho:l.filter (fun x=>!decide (x<=d))=ov at s1 s2 ⊢
 cases ov with
 |nil=>simp only[LI,Nat.zero_mul,Kr.ks] at s1 ⊢;lia
 |cons y ov =>
  have hpos:0<2^(L-y):=NV (by decide)
  rw[Kr.ks] at s1;have h:=dy (L:=L) lo.length lo rfl (by lia) (by lia)
  have h2:=two_le_pow (y::ov).length (by simp)
  have e1:2^(L-d)=2^(L-l.length)*2:=by rw[show L-d=(L-l.length)+1 by lia,M6]
  have e2:2^(L-lo.length)=2^(L-l.length)*2^(y::ov).length:=by rw[<- Nv];congr 1;lia
  have e3:(y::ov).length*2^(L-d)=2^(L-l.length)*(2*(y::ov).length):=by rw[e1,NM,MI]
  have e4:=Nat.mul_le_mul_left (2^(L-l.length)) h2;rw[e3];rw[e2] at h;lia
end Pm
noncomputable def dot:List Int->List Int->Int
 |c::cs,l::ls=>c*l+dot cs ls
 |_,_=>0
noncomputable def nZ(l:List Nat):List Int:=l.map fun k:Nat=>(k:Int)
theorem bH(l:List Nat):(nZ l).length=l.length:=Ld ..
theorem pS:∀(cs:List Int) (l:List Nat),l.length=cs.length->dot cs (nZ l)=Pm.sI (fun i=>eF cs i*((l.getD i 0:Nat):Int)) cs.length
 |[],[],_=>rfl
 |c::cs,x::l,h=>by
  rw[KZ,Pm.nV];show c*(x:Int)+dot cs (nZ l)=_;rw[pS cs l (by simpa using h)]
  rfl
theorem zu:∀{cs:List Int} {l:List Nat} {d:Nat},(∀ c∈cs,0<=c)->dot cs (nZ (l.map fun x=>min x d))<=dot cs (nZ l)
 |[],_,_,_=>by unfold dot;exact MR _
 |c::cs,[],_,_=>by show (0:Int)<=0;lia
 |c::cs,x::l,d,h=>by
  have ih:=zu (l:=l) (d:=d) fun y hy=>h y (Le _ hy);have hc:=h c Lj;show c*((min x d:Nat):Int)+dot cs (nZ (l.map fun x=>min x d))<=c*(x:Int)+dot cs (nZ l);have:=Oy (show ((min x d:Nat):Int)<=(x:Int) by lia) hc
  lia
theorem BY:∀ n:Nat,1<=n->n<=2^(n-1)
 |0,h=>by lia
 |1,_=>by decide
 |n+2,_=>by
  have:=BY (n+1) (by lia)
  rw[show n+2-1=(n+1-1)+1 by lia,M6];lia
theorem JZ(h:∀ c∈cs,0<=c)(i:Nat)(hi:i<cs.length):0<=eF cs i:=by
 unfold eF;rw[Ls,KY hi];exact h _ (LL hi)
theorem jD(f:Nat->Nat)(h:i<n):((List.range n).map f).getD i 0=f i:=by
 rw[Ls,Lw,ML h];rfl
structure t9 (cs:List Int) (b:Nat) (ls:List Nat):Prop where
 len:ls.length=cs.length
 dB:∀ x∈ls,1<=x/\x<=b
 ks:Kr.ks 40 ls<=2^40
 low:∀ l:List Nat,l.length=cs.length->(∀ x∈l,1<=x/\x<=b)->Kr.ks 40 l<=2^40->dot cs (nZ ls)<=dot cs (nZ l)
theorem hV{b:Nat}(hc:∀ c∈cs,0<=c)(hn:1<=cs.length)(hn2:cs.length<=20)(hb:1<=b)(hb2:b<=40)(hm:cs.length<=2^b):t9 cs b (aA cs b):=by
 unfold aA;by_cases h1:cs.length=1
 ·rw[Lg h1];refine⟨h1.symm,fun x hx=>?_,by decide,fun l hl hx hk=>?_⟩
  ·rw[Ln.mp hx];lia
  ·rw[h1] at hl;obtain⟨x,rfl⟩:=Nt.mp hl;obtain⟨c,rfl⟩:=Nt.mp h1;have h0:=hc c (by simp)
   have hx1:=(hx x (by simp)).1
   show c*((1:Nat):Int)+0<=c*(x:Int)+0;have:=Oy (show ((1:Nat):Int)<=(x:Int) by lia) h0
   lia
 ·rw[K_ h1];have hn3:2<=cs.length:=by lia
  have hcc:=JZ hc;generalize hD:min b (cs.length-1)=D;have hD1:cs.length<=2^D:=by
   rcases Nat.le_total b (cs.length-1) with z|z
   ·rw[<- hD,Nat.min_eq_left z];exact hm
   ·rw[<- hD,Nat.min_eq_right z];exact BY _ hn
  obtain⟨w1,w2,w3,w4⟩:=Pm.AK hcc hn3 hD1;have hlen:((List.range cs.length).map (Pm.eS (eF cs) cs.length D)).length=cs.length:=by rw[Ld,L7]
  have hrng:∀ x∈(List.range cs.length).map (Pm.eS (eF cs) cs.length D),1<=x/\x<=D:=fun x hx=>by
   obtain⟨i,hi,rfl⟩:=LD.mp hx;exact⟨w2 i (LZ.mp hi),w1 i⟩
  have hdot:dot cs (nZ ((List.range cs.length).map (Pm.eS (eF cs) cs.length D)))=Pm.wt ((Pm.shelf (eF cs) cs.length D).take (2*cs.length-2)):=by
   rw[pS _ _ hlen,w4];exact Pm.fh fun i hi=>by rw[jD _ hi]
  refine⟨hlen,fun x hx=>by have:=hrng x hx;lia,?_,fun l hl hx hk=>?_⟩
  ·rw[Pm.pI (D:=D) (by lia) fun x hx=>(hrng x hx).2,Pm.zm,hlen]
   rw[Pm.cR (g:=fun i=>2^(D-Pm.eS (eF cs) cs.length D i)) fun i hi=>by rw[jD _ hi]]
   exact w3
  ·rw[hdot];have key:∀ l:List Nat,l.length=cs.length->(∀ x∈l,x<=D)->Kr.ks 40 l<=2^40->Pm.wt ((Pm.shelf (eF cs) cs.length D).take (2*cs.length-2))<=dot cs (nZ l):=fun l hl hx hk=>by
    rw[pS _ _ hl];refine Pm.rB hcc hn (l:=fun i=>l.getD i 0) (fun i hi=>?_) ?_
    ·rw[Ls,KY (by lia)]
     exact hx _ (LL _)
    ·rw[Pm.pI (D:=D) (by lia) hx,Pm.zm,hl] at hk
     exact hk
   refine PZ (key (l.map fun x=>min x (cs.length-1)) (by rw[Ld];exact hl) (fun x hx'=>?_) ?_) (zu hc)
   ·obtain⟨y,hy,rfl⟩:=LD.mp hx';have:=(hx y hy).2;lia
   ·have:=Pm.clamp (L:=40) (l:=l) (by lia) (by lia) hk
    rw[hl] at this;exact this
namespace Cw
noncomputable def inc:List Nat->List Nat
 |[]=>[]
 |c::r=>if r.all (· == 49) then (if c=48 then 49::r.map (fun _=>48) else 48::r.map (fun _=>48)) else c::inc r
noncomputable def pad(n:Nat)(w:List Nat):List Nat:=w++List.replicate (n-w.length) 48
noncomputable def ku(w:List Nat)(n:Nat):List Nat:=pad n (inc w)
noncomputable def ia(w:List Nat)(n:Nat):List Nat:=pad n ((w.reverse.dropWhile (· == 49)).reverse.dropLast++[49])
theorem Gi:∀ w:List Nat,w.all (· == 49)=true->inc w=w.map fun _=>48
 |[],_=>rfl
 |c::r,h=>by
  rw[L_,LS] at h;have hc:c=49:=beq_iff_eq.mp h.1;unfold inc;rw[Lg h.2,K_ (by rw[hc];decide),Lz]
theorem ml:∀{l:List Nat},l.all (· == 49)=true->l=List.replicate l.length 49
 |[],_=>rfl
 |c::r,h=>by
  rw[L_,LS] at h;have hc:c=49:=beq_iff_eq.mp h.1;rw[KZ,LC,<- ml h.2,hc]
theorem AJ(k:Nat):(List.replicate k 49).all (· == 49)=true:=by
 rw[MM];intro x hx;rw[(MV.mp hx).2];rfl
theorem parts:∀{w:List Nat},(∀ c∈w,c=48\/c=49)->w.all (· == 49)=false->∃ p k,w=p++48::List.replicate k 49
 |[],_,h=>by cases h
 |c::r,hb,h=>by
  by_cases z:r.all (· == 49)=true
  ·rw[L_,z,Bool.and_true] at h;have hc:c=48:=(hb c Lj).resolve_right fun e=>by rw[e] at h;cases h
   exact⟨[],r.length,by rw[hc,MX,<- ml z]⟩
  ·obtain⟨p,k,e⟩:=parts (w:=r) (fun x hx=>hb x (Le _ hx)) (by simpa using z)
   exact⟨c::p,k,by rw[e];rfl⟩
theorem fz(k:Nat):∀ p:List Nat,inc (p++48::List.replicate k 49)=p++49::List.replicate k 48
 |[]=>by
  rw[MX,MX];unfold inc;rw[Lg (AJ k),Lg rfl,List.map_replicate]
 |c::p=>by
  rw[MA];unfold inc;have z:¬ (p++48::List.replicate k 49).all (· == 49)=true:=by
   rw[List.all_append,L_];simp
  rw[K_ z,fz k p];rfl
theorem qS(k:Nat)(p:List Nat):((p++48::List.replicate k 49).reverse.dropWhile (· == 49)).reverse=p++[48]:=by
 rw[O0,List.reverse_cons,List.reverse_replicate];have e:∀(k:Nat) (t:List Nat),(List.replicate k 49++[48]++t).dropWhile (· == 49)=[48]++t:=fun k t=>by
  induction k with
  |zero=>rfl
  |succ k ih=>rw[LC,MA,MA,Oz,Lg (by decide)];exact ih
 rw[e,O0,Ot];rfl
theorem uW{w:List Nat}(hb:∀ c∈w,c=48\/c=49)(h:w.all (· == 49)=false)(hn:w.length<=n):ia w n=ku w n:=by
 obtain⟨p,k,rfl⟩:=parts hb h;unfold ia ku pad;rw[qS,fz,List.dropLast_append_of_ne_nil (by simp)]
 rw[KW,KZ,Lp] at hn;simp only[List.dropLast_singleton,L3,KW,KZ,Lp,LI,Ly,MA,MX];congr 2;rw[List.replicate_append_replicate];congr 1;lia
noncomputable def val:List Nat->Nat
 |[]=>0
 |c::r=>(c-48)*2^r.length+val r
theorem iM:∀ a b:List Nat,val (a++b)=val a*2^b.length+val b
 |[],b=>by simp[val]
 |c::a,b=>by
  rw[MA,val,val,iM a b,KW,Nv,P7,MI,PN]
theorem fE:∀ k,val (List.replicate k 48)=0
 |0=>rfl
 |k+1=>by rw[LC,val,fE k];simp
theorem jH:∀ k,val (List.replicate k 49)+1=2^k
 |0=>rfl
 |k+1=>by
  have:=jH k;rw[LC,val,Lp,M6];lia
theorem ma:∀ w:List Nat,(inc w).length=w.length
 |[]=>rfl
 |c::r=>by
  unfold inc;split
  ·split<;>simp
  ·rw[KZ,KZ,ma r]
theorem nX:∀{w:List Nat},(∀ c∈w,c=48\/c=49)->∀ c∈inc w,c=48\/c=49
 |[],_,_,h=>by cases h
 |d::r,hb,c,h=>by
  unfold inc at h
  split at h
  ·split at h
   ·rcases Ll.mp h with h|h
    ·exact .inr h
    ·obtain⟨_,_,e⟩:=LD.mp h;exact .inl e.symm
   ·rcases Ll.mp h with h|h
    ·exact .inl h
    ·obtain⟨_,_,e⟩:=LD.mp h;exact .inl e.symm
  ·rcases Ll.mp h with h|h
   ·rw[h];exact hb d Lj
   ·exact nX (fun x hx=>hb x (Le _ hx)) c h
theorem j4{w:List Nat}(h:w.length<=n):(ku w n).length=n:=by
 unfold ku pad;rw[KW,Lp,ma];lia
theorem uE{w:List Nat}(hb:∀ c∈w,c=48\/c=49):∀ c∈ku w n,c=48\/c=49:=fun c h=>by
 rcases L1.mp h with h|h
 ·exact nX hb c h
 ·exact .inl (MV.mp h).2
theorem vW{w:List Nat}(hb:∀ c∈w,c=48\/c=49)(h:w.all (· == 49)=false):val (ku w n)=(val w+1)*2^(n-w.length):=by
 unfold ku pad;rw[iM,fE,Lp,ma,Nat.add_zero];congr 1;obtain⟨p,k,rfl⟩:=parts hb h;have:=jH k;rw[fz,iM,iM,val,val,fE,KZ,KZ,Lp,Lp];lia
theorem yv{w:List Nat}(h:w.all (· == 49)=true):val w+1=2^w.length:=by
 rw[ml h,Lp];exact jH _
structure jk (done:List Nat) (w:List Nat):Prop where
 bits:∀ c∈w,c=48\/c=49
 len:w.length<=40
 sum:(val w+1)*2^(40-w.length)=Kr.ks 40 done
theorem jk.zero{rest w:List Nat}{l:Nat}(h:jk done w)(hk:Kr.ks 40 done+2^(40-l)<=2^40):w.all (· == 49)=false:=by
 cases z:w.all (· == 49) with
 |false=>rfl
 |true =>
  have e:=h.sum;rw[yv z,<- Nv,NB h.len] at e;have:0<2^(40-l):=NV (by decide)
  lia
theorem jk.next{w:List Nat}{l:Nat}(h:jk done w)(hl:w.length<=l)(hl2:l<=40)(hk:Kr.ks 40 done+2^(40-l)<=2^40):jk (done++[l]) (ku w l):=by
 have z:=h.zero (rest:=[]) hk;refine⟨uE h.bits,by rw[j4 hl];exact hl2,?_⟩
 rw[vW h.bits z,j4 hl,P7,MI,<- Nv,Kr.b_,<- h.sum];have e:l-w.length+(40-l)=40-w.length:=by lia
 rw[e];simp[Kr.ks]
theorem jk.first{l:Nat}(hl:l<=40):jk [l] (List.replicate l 48):=⟨fun c h=>.inl (MV.mp h).2,by rw[Lp];exact hl,by rw[fE,Lp];simp[Kr.ks]⟩
noncomputable def along(nx:List Nat->Nat->List Nat)(ln:Nat->Nat):List Nat->Option (List Nat)×List (List Nat)->Option (List Nat)×List (List Nat)
 |[],s=>s
 |t::r,(a,ws) =>
  let w:=match a with|none=>List.replicate (ln t) 48|some v=>nx v (ln t)
  along nx ln r (some w,ws.set t w)
theorem gw{nx:List Nat->Nat->List Nat}:∀(a b:List Nat) (s:Option (List Nat)×List (List Nat)),along nx ln (a++b) s=along nx ln b (along nx ln a s)
 |[],_,_=>rfl
 |t::r,b,(a,ws)=>gw r b _
theorem ft{nx:List Nat->Nat->List Nat}:∀(o:List Nat) (s:Option (List Nat)×List (List Nat)),(along nx ln o s).2.length=s.2.length
 |[],_=>rfl
 |t::r,(a,ws)=>(ft r _).trans Mm
end Cw
noncomputable def wd(w:List Nat):Str:=⟨w.toArray⟩
theorem cA(w:List Nat):(wd w).length=w.length:=Lh ..
theorem CW{w:List Nat}(h:x.cps.toList=w):x=wd w:=by
 cases x with|mk a=>subst h;unfold wd;rw[N8]
noncomputable def Km:dX:=fun args Q=>∃ n:Nat,n<=40/\((args=[.aw,.int (n:Int)]/\Q (.tr (.str (wd (List.replicate n 48)))) [])\/∃ w,args=[.str (wd w),.int (n:Int)]/\w.length<=40/\Q (.tr (.str (wd (Cw.ia w n)))) [])
abbrev k13z(P w K mg base):=ae P w K mg base aT 1 "word_behind" ["ahead","length"] (spT K [false,false] Km)
theorem u9(T:Txt K mg)(F:HasFn K mg "word_behind" cM ["ahead","length"]):k13z P w K mg base:=by
 refine F.i4 jd [false,false] rfl (by decide) ?_;left;obtain⟨n,hn,h⟩:=h;refine⟨_,(Y.ai (Y.hW (Y.bD qZ Y.qA (Y.vS 0) Y.aw) (Y.ay (Y.ret (Y.op Y.B8 Y.zT Y.str (Y.vS 1)))) Y.cW)
   (Y.ay (Y.ret (Y.sm K rfl PySem.F.slot_str_ljust PySem.F.type_str_ljust Y.yq Y.wz (Y.op (Y.aB K rfl) Y.aC (Y.je K rfl (Y.sm K rfl PySem.F.slot_str_rstrip PySem.F.type_str_rstrip Y.tV Y.va (Y.vS 0) (Y.cons Y.str Y.nil)) Y.EF (Y.DR (Y.neg Y.int))) Y.str) (Y.cons (Y.vS 1) (Y.cons Y.str Y.nil)))))),?_⟩
 rcases h with ⟨rfl,q⟩|⟨v,rfl,hv,q⟩
 ·refine Ba fun N hN=>?_;rfl';refine⟨48,by decide,by lia,by lia,?_⟩
  rw[L6];exact q
 ·refine Ba fun N hN=>?_;rfl';rw[hN];clear hN N;rfl';have e0:(Str.ofString "1").cps.contains=fun c:Nat=>c == 49:=by
   funext c
   show (#[49]:Array Nat).contains c=_;rw[Array.contains_eq_any_beq];simp
  have e1:=p8 (wd v) (Str.ofString "1");rw[e0] at e1;have e2:(Txt.rstripChars (wd v) (Str.ofString "1")).cps.toList=(v.reverse.dropWhile (· == 49)).reverse:=by
   rw[<- Ot (Txt.rstripChars (wd v) (Str.ofString "1")).cps.toList,e1];rfl
  generalize Txt.rstripChars (wd v) (Str.ofString "1")=r at e2;have hr2:r.length<=40:=by
   have:r.length=r.cps.toList.length:=by rw[LH];rfl
   rw[this,e2,Nk];exact Lr (P8 _).length_le (by rw[Nk];exact hv)
  have e3:(Y.gM r none (some (-1))).cps.toList=r.cps.toList.dropLast:=by
   show (Y.bM r.cps.toList none (some (-1))).toArray.toList=_;rw[O1];unfold Y.bM;rw[HT.fb,Nb,N1,PF];congr 1;show (if (-1:Int)<0 then ((-1:Int)+(r.cps.toList.length:Int)).toNat else min (-1:Int).toNat r.cps.toList.length)=_
   rw[Lg (by decide)]
   lia
  have hl3:(Y.gM r none (some (-1))).length<=40:=by
   have:(Y.gM r none (some (-1))).length=(Y.gM r none (some (-1))).cps.toList.length:=by rw[LH];rfl
   rw[this,e3,Ox,LH];exact Lr (OP _ _) hr2
  refine⟨by rw[cA];lia,Lr hr2 (by decide),Lr (show _<=41 from Nat.add_le_add_right hl3 1) (by decide),by lia,by lia,rfl,?_⟩
  have e4:Txt.ljustF (Y.gM r none (some (-1))++Str.ofString "1") (n:Int) ((Str.ofString "0").cps.getD 0 0)=wd (Cw.ia v n):=by
   refine CW ?_;rw[PyProof.Rows.ljustF_list,L6];have e5:(Y.gM r none (some (-1))++Str.ofString "1").cps.toList=(v.reverse.dropWhile (· == 49)).reverse.dropLast++[49]:=by
    show ((Y.gM r none (some (-1))).cps++#[49]).toList=_;rw[NC,e3,e2]
   have e6:(Y.gM r none (some (-1))++Str.ofString "1").length=((v.reverse.dropWhile (· == 49)).reverse.dropLast++[49]).length:=by
    rw[<- e5,LH];rfl
   rw[e5,e6];rfl
  rw[e4];exact q
noncomputable def dR(ls:List Int)(t:Nat):Nat:=(ls.getD t 0).toNat
noncomputable def dM(ls:List Int):List Nat:=eH ls (List.range ls.length)
noncomputable def wordsOf(nx:List Nat->Nat->List Nat)(ls:List Int):List (List Nat):=(Cw.along nx (dR ls) (dM ls) (none,List.replicate ls.length [])).2
noncomputable def wT(ws:List (List Nat)):List L2.T:=ws.map fun w=>.str (wd w)
theorem fT(ws:List (List Nat)):(wT ws).length=ws.length:=Ld ..
noncomputable def Ck(C:Addr):vA:=fun args Q Et=>∃ ls:List Int,args=[.tup (nI ls)]/\nY ls/\((nG ls=true/\Q (.tr (.tup (wT (wordsOf Cw.ia ls)))) [])\/(nG ls=false/\Et (.exc (.ref C) none)))
noncomputable def IU:Option (List Nat)->L2.T
 |none=>.aw
 |some w=>.str (wd w)
noncomputable def gZ(ls:List Int)(done:List Nat):Option (List Nat)×List (List Nat):=Cw.along Cw.ia (dR ls) done (none,List.replicate ls.length [])
theorem sP{v:List Nat}(hv:v.length<=40)(hn:n<=40):(Cw.ia v n).length<=40:=by
 have h1:((v.reverse.dropWhile (· == 49)).reverse.dropLast).length<=39:=by
  rw[Ox,Nk];have:=(P8 (· == 49) (l:=v.reverse)).length_le;rw[Nk] at this;lia
 unfold Cw.ia Cw.pad;rw[KW,Lp,KW,LO];lia
theorem lS{t:Nat}(h:t∈dM ls):t<ls.length:=LZ.mp ((iU (by rw[L7])).mem_iff.mp h)
theorem zz(ls:List Int)(done:List Nat):(gZ ls done).2.length=ls.length:=by
 unfold gZ;rw[Cw.ft,Lp]
theorem Aa(T:Txt K mg)(F:HasFn K mg "code_of" bX ["lengths"])(hcan_be:k5z P w K mg base)(hword_behind:k13z P w K mg base)(hC_NoCode:mg "NoCode"=some (.ref C_NoCode))(kC_NoCode:pM K C_NoCode):
  ae P w K mg base (nF P w) 4 "code_of" ["lengths"] (sW K [false] (Ck C_NoCode)):=by
 obtain⟨c,Pt,htab,hcc⟩:=T.pG.ex;refine F.Ec dq [false] rfl rfl (by decide) (fun args Qt Et hl h f cdv A outer s H E hr hcd=>?_)
 have:=hcc _ _ hcd;subst this;have hu:=aP hr;obtain⟨ls,rfl,hL,h⟩:=h;refine⟨_,(Y.bp (Y.Fj (Y.uF (Y.t4 K rfl (Y.fn K rfl hcan_be (hr.mono (by decide)) rfl aq (Y.cons (Y.vS 0) Y.nil)))) (Y.fc (Y.qF rfl hC_NoCode kC_NoCode rfl rfl (Y.cons (Y.Dc (Y.uP (Y.J6 hr (Y.vS 0) Y.EG))) Y.nil))) Y.y9)
   (Y.bp (Y.m5 (Y.CJ (j:=1) dq.nd rfl (by right) (osc:=aa bX) (ON:=["lengths","words","ahead","thing"]) (own:=["length"]) (N:=["length","lengths","words","ahead","thing"]) ⟨rfl,by decide +kernel,rfl,by decide +kernel,by decide +kernel,by decide +kernel,by decide +kernel,by decide +kernel⟩ rfl rfl rfl rfl (Y.anyS K rfl (Y.vS 0)) (fun _ _ _ _=>(Z.ax (i:=0) (show List.Nodup (["length","lengths","words","ahead","thing"]:List Str) by decide +kernel) rfl (by right))) (fun _ _ _ _=>Y.mZ) (fun _ _ _ _=>Y.str)))
   (Y.bp (Y.m5 (Y.set (i:=2) dq.nd rfl (by right) Y.aw))
   (Y.bp (Y.m5 (Y.e_ NT rfl (Y.anyS K rfl (Y.HR (k:=0) (j:=0) K rfl (by decide) htab rfl rfl rfl rfl rfl T.jn (Y.cons (Y.ct Y.pw Y.wG rfl T.cI (by decide +kernel) (Y.cons (Y.cb (Y.az K rfl) Y.aN rfl T.cu (by decide +kernel) (Y.cons (Y.vS 0) Y.nil)) Y.nil)) Y.nil) (hr.mono (by decide)) rfl (by decide) rfl rfl rfl rfl rfl rfl rfl (fun _ _ _ _=>rfl))) (Y.ax (i:=3) dq.nd rfl (by right)) (Y.ai (Y.asg (Y.fn K rfl hword_behind (hr.mono (by decide)) rfl aq (Y.cons (Y.vS 2) (Y.cons (Y.ix (Y.bw K rfl) Y.ar (Y.vS 0) (Y.vS 3)) Y.nil))) (Y.qm (Y.vS 1) (Y.vS 3)))
   (Y.ay (Y.set (i:=2) dq.nd rfl (by right) (Y.ix (Y.bw K rfl) Y.ar (Y.vS 1) (Y.vS 3)))))))
   (Y.fc (Y.m5 (Y.ret (Y.ct (Y.bY K rfl) Y.cU rfl T.cN (by decide +kernel) (Y.cons (Y.vS 1) Y.nil))))))))),?_⟩
 refine oJ fun N hN=>?_;rfl';refine⟨_,ls,rfl,.inl rfl,hL,?_⟩;rcases h with ⟨ho,q⟩|⟨ho,q⟩
 ·exists ho;rw[hN];clear hN N;refine oJ fun N hN=>?_;rfl';refine bj (fun rest acc μ=>rest.length+acc.length=ls.length/\acc=wT (List.replicate acc.length [])/\μ=[.tr (.tup (nI ls)),.un,.un,.un]) ⟨by rw[aR];rfl,rfl,rfl⟩ ?_ ?_
  ·rintro acc μ ⟨e1,e2,rfl⟩;have e3:acc=wT (List.replicate ls.length []):=by rw[<- show acc.length=ls.length by simpa using e1];exact e2
   clear e1 e2;subst e3;rfl';refine⟨trivial,?_⟩;rw[hN];clear hN N;refine oJ fun N hN=>?_;rfl';rw[hN];clear hN N;refine oJ fun N hN=>?_;exists aR;refine⟨ls,rfl,rfl,by have:=hL.2.1;lia,?_⟩
   refine bT (fun rest μ=>∃(done todo:List Nat) (o:Option L2.T),done++todo=dM ls/\(rest=todo.map fun k=>L2.T.int ((k:Nat):Int))/\(∀ v,(gZ ls done).1=some v->v.length<=40)/\μ=[.tr (.tup (nI ls)),.bx (.lst (wT (gZ ls done).2)),.tr (IU (gZ ls done).1),sl o]) ⟨[],dM ls,none,rfl,rfl,(fun v z=>by cases z),rfl⟩ ?_ ?_
   ·rintro μ ⟨done,todo,o,e1,e2,_,rfl⟩;have e3:todo=[]:=by simpa using e2.symm
    subst e3;rw[L3] at e1;subst e1;show N _;rw[hN];clear hN N;rfl';exact q
   ·rintro t r μ M ⟨done,todo,o,e1,e2,hw,rfl⟩ k
    cases todo with
    |nil=>cases e2
    |cons th todo =>
     obtain⟨rfl,rfl⟩:=List.cons.inj e2;have hth:th<ls.length:=lS (by rw[<- e1];simp)
     have ex:b9 (nI ls) (th:Int)=some (.int ls[th]):=nQ (b6 (KY hth));have xk:ji (wT (gZ ls done).2).length (th:Int)=some th:=by
      unfold ji;rw[fT,zz,Lg (by lia),Lg (by lia)];simp
     have hlt:=hL.2.2 _ (LL hth);have en:((dR ls th:Nat):Int)=ls[th]:=by
      unfold dR;rw[Ls,KY hth];simp;lia
     have hn20:dR ls th<=40:=by lia
     have eD:gZ ls (done++[th])=Cw.along Cw.ia (dR ls) [th] (gZ ls done):=Cw.gw _ _ _;have fin:∀ y:List Nat,y.length<=40->gZ ls (done++[th])=(some y,(gZ ls done).2.set th y)->M [.tr (.tup (nI ls)),.bx (.lst ((wT (gZ ls done).2).set th (.str (wd y)))),.tr (.str (wd y)),.tr (.int (th:Int))]:=fun y hy e=>by
      refine k _ ⟨done++[th],todo,some (.int (th:Int)),by rw[<- e1];simp,rfl,fun v z=>by rw[e] at z;cases z;exact hy,?_⟩
      rw[e];unfold wT;rw[List.map_set];rfl
     have setI:∀ y:List Nat,b9 ((wT (gZ ls done).2).set th (.str (wd y))) (th:Int)=some (.str (wd y)):=fun y=>b6 (Mc (by rw[fT,zz];exact hth))
     cases hs:gZ ls done with
     |mk a ws =>
      rw[hs] at fin eD xk setI hw;dsimp only at fin xk setI
      cases a with
      |none =>
       rfl';refine Ba fun N2 h2=>?_;exists ex,xk,IU;refine⟨dR ls th,hn20,.inl ⟨by rw[en],?_⟩⟩
       rfl';rw[h2];clear h2 N2;exists xk,setI;exact fin _ (by rw[Lp];exact hn20) eD
      |some v =>
       rfl';refine Ba fun N2 h2=>?_;exists ex,xk,IU;refine⟨dR ls th,hn20,.inr ⟨v,by rw[en],hw v rfl,?_⟩⟩
       rfl';rw[h2];clear h2 N2;exists xk,setI;exact fin _ (sP (hw v rfl) hn20) eD
  ·rintro t r acc μ M ⟨e1,e2,rfl⟩ k;rfl';rw[KZ] at e1;refine⟨trivial,Lu (show acc.length<=40 by have:=hL.2.1;lia) (by decide),k _ _ ⟨by rw[KW];simp;lia,?_,rfl⟩⟩
   rw[KW,LO,N9,wT,Lv,<- wT,<- e2];rfl
 ·exists ho;exact⟨ls,rfl,by have:=hL.2.1;lia,fun i hi=>by have:=hL.2.2 i hi;lia,fun _ _=>q⟩
namespace Cw
noncomputable def Dv(a b:List Nat):Prop:=∃ u,u++[48] <+: a/\u++[49] <+: b
theorem o7{u v:List Nat}{c d:Nat}(h1:u++[c] <+: b)(h2:v++[d] <+: b)(hl:u.length<v.length):u++[c] <+: v:=by
 have h3:v <+: b:=(O9 v [d]).trans h2;exact Od h1 h3 (by rw[KW];exact hl)
theorem Dv.trans(h:Dv a b)(g:Dv b c):Dv a c:=by
 obtain⟨u,h1,h2⟩:=h;obtain⟨v,g1,g2⟩:=g;rcases Nat.lt_trichotomy u.length v.length with e|e|e
 ·exact⟨u,h1,(o7 h2 g1 e).trans ((O9 v [49]).trans g2)⟩
 ·have p1:(u++[49]).length=(v++[48]).length:=by rw[KW,KW,e];rfl
  have p2:u++[49]=v++[48]:=(Od h2 g1 (by lia)).eq_of_length p1
  have p3:[49]=[48]:=(List.append_inj' p2 rfl).2;exact absurd p3 (by decide)
 ·exact⟨v,(o7 g1 h2 e).trans ((O9 u [48]).trans h1),g2⟩
theorem Dv.lt(h:Dv a b):a<b:=by
 obtain⟨u,⟨x,rfl⟩,⟨y,rfl⟩⟩:=h
 induction u with
 |nil=>exact List.Lex.rel (by decide)
 |cons c u ih=>exact List.Lex.cons ih
theorem Bq{w:List Nat}(hb:∀ c∈w,c=48\/c=49)(h:w.all (· == 49)=false):Dv w (ku w n):=by
 obtain⟨p,k,rfl⟩:=parts hb h;unfold ku pad;rw[fz];exact⟨p,⟨List.replicate k 49,by simp⟩,⟨List.replicate k 48++List.replicate (n-(p++49::List.replicate k 48).length) 48,by simp⟩⟩
noncomputable def DY(ln:Nat->Nat)(a:Option (List Nat))(t:Nat):List Nat:=match a with
 |none=>List.replicate (ln t) 48
 |some v=>ia v (ln t)
noncomputable def jR(ln:Nat->Nat):Option (List Nat)->List Nat->List (List Nat)
 |_,[]=>[]
 |a,t::r=>DY ln a t::jR ln (some (DY ln a t)) r
theorem yL:∀(order done:List Nat) (a:Option (List Nat)),(order.Pairwise fun i j=>ln i<=ln j)->(∀ t∈order,ln t<=40)->(∀ v,a=some v->jk done v/\∀ t∈order,v.length<=ln t)->(a=none->done=[])->Kr.ks 40 (done++order.map ln)<=2^40 ->
  (∀ v,a=some v->∀ x∈jR ln a order,Dv v x)/\(jR ln a order).Pairwise Dv/\∀(i t:Nat),order[i]?=some t->∃ w,(jR ln a order)[i]?=some w/\w.length=ln t
 |[],_,_,_,_,_,_,_=>⟨fun _ _ x hx=>(by cases hx),List.Pairwise.nil,fun i t e=>(by cases e)⟩
 |t::r,done,a,hp,h40,ha,hn,hk=>by
  obtain⟨p1,p2⟩:=LG.mp hp;have ht:=h40 t Lj;have hk':Kr.ks 40 ((done++[ln t])++r.map ln)<=2^40:=by rw[Ly];exact hk
  have fin:∀ w:List Nat,w=DY ln a t->jk (done++[ln t]) w->w.length=ln t->(∀ v,a=some v->Dv v w) ->
    (∀ v,a=some v->∀ x∈jR ln a (t::r),Dv v x)/\(jR ln a (t::r)).Pairwise Dv/\∀(i s:Nat),(t::r)[i]?=some s->∃ w,(jR ln a (t::r))[i]?=some w/\w.length=ln s:=fun w ew hH hl hd=>by
   obtain⟨q1,q2,q3⟩:=yL r (done++[ln t]) (some w) p2 (fun x hx=>h40 x (Le _ hx)) (fun v e=>by cases e;exact⟨hH,fun x hx=>by rw[hl];exact p1 x hx⟩) (fun e=>by cases e) hk'
   have es:jR ln a (t::r)=w::jR ln (some w) r:=by rw[ew];rfl
   rw[es];refine⟨fun v e x hx=>?_,LG.mpr ⟨fun x hx=>q1 w rfl x hx,q2⟩,fun i s e=>?_⟩
   ·rcases Ll.mp hx with rfl|hx
    ·exact hd v e
    ·exact (hd v e).trans (q1 w rfl x hx)
   ·cases i with
    |zero=>cases e;exact⟨w,rfl,hl⟩
    |succ i=>exact q3 i s (by simpa using e)
  cases a with
  |none =>
   have:=hn rfl;subst this;exact fin _ rfl (jk.first ht) (show (List.replicate (ln t) 48).length=ln t by rw[Lp]) (fun v e=>by cases e)
  |some v =>
   obtain⟨hv,hl⟩:=ha v rfl;have hvl:=hl t Lj;have hk2:Kr.ks 40 done+2^(40-ln t)<=2^40:=by
    rw[Kr.b_,Kr.b_] at hk';simp[Kr.ks] at hk'
    omega
   have z:=hv.zero (rest:=[]) hk2;have e:=uW hv.bits z hvl;refine fin _ rfl ?_ ?_ ?_
   ·show jk _ (ia v (ln t));rw[e];exact hv.next hvl ht hk2
   ·show (ia v (ln t)).length=_;rw[e];exact j4 hvl
   ·intro u eu;cases eu;show Dv v (ia v (ln t));rw[e];exact Bq hv.bits z
theorem pE:∀(order:List Nat) (a:Option (List Nat)) (ws:List (List Nat)),order.Nodup->(∀ t∈order,t<ws.length)->(∀(i t:Nat),order[i]?=some t->(along ia ln order (a,ws)).2[t]?=(jR ln a order)[i]?)/\∀ t,t∉order->(along ia ln order (a,ws)).2[t]?=ws[t]?
 |[],_,_,_,_=>⟨fun i t e=>(by cases e),fun _ _=>rfl⟩
 |t::r,a,ws,hn,hl=>by
  obtain⟨n1,n2⟩:=LP.mp hn;have ht:=hl t Lj;have ea:along ia ln (t::r) (a,ws)=along ia ln r (some (DY ln a t),ws.set t (DY ln a t)):=by cases a<;>rfl
  rw[ea];obtain⟨q1,q2⟩:=pE r (some (DY ln a t)) (ws.set t (DY ln a t)) n2 (fun x hx=>by rw[Mm];exact hl x (Le _ hx))
  refine⟨fun i s e=>?_,fun s hs=>?_⟩
  ·cases i with
   |zero =>
    cases e;exact (q2 t n1).trans (by rw[Mc ht];rfl)
   |succ i=>exact q1 i s (by simpa using e)
  ·have h1:s≠t:=fun z=>hs (by rw[z];exact Lj)
   have h2:s∉r:=fun z=>hs (Le _ z);exact (q2 s h2).trans (by rw[Mw (Ne.symm h1)])
noncomputable def Lx(p q:Int×Nat):Prop:=p.1<q.1\/(p.1=q.1/\p.2<q.2)
theorem xb{p:Int×Nat}:∀{l:List (Int×Nat)},l.Pairwise Lx->(∀ q∈l,p.2<q.2)->(gc p l).Pairwise Lx
 |[],_,_=>Pn _ _
 |q::r,h,hp=>by
  obtain⟨h1,h2⟩:=LG.mp h;have hq:=hp q Lj;unfold gc;split
  ·rename_i c;refine LG.mpr ⟨fun z hz=>?_,h⟩;have hz2:=hp z hz;have:q.1<=z.1:=by
    rcases Ll.mp hz with rfl|hz
    ·exact MR _
    ·have:=h1 z hz;unfold Lx at this;omega
   unfold Lx;omega
  ·rename_i c;refine LG.mpr ⟨fun z hz=>?_,xb h2 fun z hz=>hp z (Le _ hz)⟩;rcases Ll.mp ((fw p r).mem_iff.mp hz) with rfl|hz
   ·unfold Lx;omega
   ·exact h1 z hz
theorem rG:∀{l:List (Int×Nat)},(l.Pairwise fun p q=>p.2<q.2)->(e9 l).Pairwise Lx
 |[],_=>.nil
 |p::r,h=>by
  obtain⟨h1,h2⟩:=LG.mp h;exact xb (rG h2) fun q hq=>h1 q ((bU r).mem_iff.mp hq)
end Cw
structure Canon (ls:List Int) (W:List (List Nat)):Prop where
 len:W.length=ls.length
 eS:∀ t,t<ls.length->(W.getD t []).length=dR ls t
 part:∀ s t,s<ls.length->t<ls.length->(ls.getD s 0<ls.getD t 0\/(ls.getD s 0=ls.getD t 0/\s<t))->Cw.Dv (W.getD s []) (W.getD t [])
theorem kM(ls:List Int):ls.zip (List.range ls.length)=(List.range ls.length).map fun t=>(ls.getD t 0,t):=by
 apply N_
 ·simp
 ·intro i h1 h2;simp at h1;simp[h1]
theorem canon(hL:nY ls)(hk:KS ls<=2^40):Canon ls (wordsOf Cw.ia ls):=by
 have hS:(Cw.Lx · ·)=(Cw.Lx · ·):=rfl;have hlx:(e9 (ls.zip (List.range ls.length))).Pairwise Cw.Lx:=by
  refine Cw.rG ?_;rw[kM];exact NS.mpr P0
 have hmem:∀ p∈e9 (ls.zip (List.range ls.length)),p.1=ls.getD p.2 0/\p.2<ls.length:=fun p hp=>by
  have:=(bU _).mem_iff.mp hp;rw[kM] at this;obtain⟨t,ht,rfl⟩:=LD.mp this;exact⟨rfl,LZ.mp ht⟩
 have hord:(dM ls).Pairwise fun s t=>ls.getD s 0<ls.getD t 0\/(ls.getD s 0=ls.getD t 0/\s<t):=by
  unfold dM eH;refine NS.mpr (hlx.imp_of_mem fun {p q} hp hq h=>?_);rw[<- (hmem p hp).1,<- (hmem q hq).1];exact h
 have hperm:(dM ls).Perm (List.range ls.length):=iU (by rw[L7])
 have hnd:(dM ls).Nodup:=hperm.nodup_iff.mpr List.nodup_range;have hb:∀ t,t<ls.length->1<=ls.getD t 0/\ls.getD t 0<=40:=fun t ht=>by
  rw[Ls,KY ht];exact hL.2.2 _ (LL ht)
 have hmm:∀ t∈dM ls,t<ls.length:=fun t ht=>lS ht;have hks:Kr.ks 40 ([]++(dM ls).map (dR ls))<=2^40:=by
  rw[MX,Kr.iL (hperm.map (dR ls))];have e:(List.range ls.length).map (dR ls)=ls.map Int.toNat:=by
   apply N_
   ·simp
   ·intro i h1 h2;simp at h1;simp[dR,h1]
  rw[e];exact hk
 obtain⟨_,q2,q3⟩:=Cw.yL (ln:=dR ls) (dM ls) [] none (hord.imp_of_mem fun {s t} hs ht h=>by
  have:=hb s (hmm s hs);have:=hb t (hmm t ht);unfold dR;omega) (fun t ht=>by have:=hb t (hmm t ht);unfold dR;omega) (fun v e=>by cases e) (fun _=>rfl) hks
 obtain⟨a1,_⟩:=Cw.pE (ln:=dR ls) (dM ls) none (List.replicate ls.length []) hnd (fun t ht=>by rw[Lp];exact hmm t ht)
 have hat:∀ t,t<ls.length->∃ i w,(dM ls)[i]?=some t/\(Cw.jR (dR ls) none (dM ls))[i]?=some w/\w.length=dR ls t/\(wordsOf Cw.ia ls).getD t []=w:=fun t ht=>by
  obtain⟨i,hi⟩:=N3.mp (hperm.mem_iff.mpr (LZ.mpr ht));obtain⟨w,hw,hl⟩:=q3 i t hi;refine⟨i,w,hi,hw,hl,?_⟩;unfold wordsOf;rw[Ls,a1 i t hi,hw];rfl
 refine⟨?_,fun t ht=>?_,fun s t hs ht h=>?_⟩
 ·unfold wordsOf;rw[Cw.ft,Lp]
 ·obtain⟨i,w,_,_,hl,e⟩:=hat t ht;rw[e];exact hl
 ·obtain⟨i,w,h1,h2,_,e⟩:=hat s hs;obtain⟨j,v,g1,g2,_,e'⟩:=hat t ht;rw[e,e'];obtain⟨hi,rfl⟩:=Li.mp h2;obtain⟨hj,rfl⟩:=Li.mp g2;obtain⟨hi',ei⟩:=Li.mp h1;obtain⟨hj',ej⟩:=Li.mp g1;have hij:i<j:=by
   rcases Nat.lt_trichotomy i j with c|c|c
   ·exact c
   ·subst c;have est:s=t:=ei.symm.trans ej;subst est
    exfalso;omega
   ·have:=NI.mp hord j i hj' hi' c;rw[ei,ej] at this
    exfalso;omega
  exact NI.mp q2 i j hi hj hij
noncomputable def CD:dX:=fun args Q=>∃ ns:List Int,args=[.dU (nI ns)]/\∀ v:Int,Q (.tr (.int v)) []
theorem u7(T:Txt K mg)(F:HasFn K mg "_law_folded" cO ["script"]):ae P w K mg base aT 1 "_law_folded" ["script"] (spT K [false] CD):=by
 refine F.i4 cq [false] rfl (by decide) ?_;left;obtain⟨ns,rfl,q⟩:=h;refine⟨_,(Y.ai (Y.set (i:=1) cq.nd rfl (by right) (Y.cb (Y.az K rfl) Y.aN rfl T.cu (by decide +kernel) (Y.cons (Y.vS 0) Y.nil)))
   (Y.ai (Y.e_ LQ rfl (Y.anyS K rfl (Y.vS 0)) (Y.ax (i:=2) cq.nd rfl (by right)) (Y.ay (Y.set (i:=1) cq.nd rfl (by right) (Y.op eG Y.bV (Y.op (Y.aB K rfl) Y.aC (Y.op (Y.dh K rfl) Y.cf (Y.vS 1) Y.int) (Y.op eG Y.bV (Y.vS 2) Y.int)) Y.int))))
   (Y.ay (Y.ret (Y.vS 1))))),?_⟩
 refine au fun N hN=>?_;exists aR;symm;rfl';refine bT (fun rest μ=>∃(ms:List Int) (v:Int) (o:Option L2.T),rest=nI ms/\μ=[.tr (.dU (nI ns)),.tr (.int v),sl o]) ⟨ns,_,none,rfl,rfl⟩ ?_ ?_
 ·rintro μ ⟨ms,v,o,_,rfl⟩;show N _;ac_rfl;rfl';exact q v
 ·rintro t r μ M ⟨ms,v,o,e,rfl⟩ k
  cases ms with
  |nil=>cases e
  |cons m ms =>
   cases e;rfl';refine⟨.inr (by decide),by decide,by decide,k _ ⟨ms,_,some _,rfl,rfl⟩⟩
noncomputable def sy:dX:=fun args Q=>args=[]/\Q (.fr (.lst [.str "put",.str "add",.str "sub",.str "copy",.str "tell",.str "hear",.str "jump",.str "zero",.str "halt"])) []
theorem vC(T:Txt K mg)(F:HasFn K mg "_law_words" di []):ae P w K mg base aT 1 "_law_words" [] (spT K [] sy):=by
 refine F.i4 kr [] rfl (by decide) (fun args Qt hl h f cdv A outer s H E hr=>?_)
 obtain⟨rfl,q⟩:=h;refine⟨_,(Y.ay (Y.ret (Y.lst (Y.mq rfl rfl)))),?_⟩;rfl';exact⟨by decide,q⟩
noncomputable def sL:dX:=fun args Q=>∃ s:L2.T,args=[s]/\dE s/\∀(v:Nat) (s':L2.T),dE s'->v<65536->Q (.tr (.int (v:Int))) [s']
theorem uk(T:Txt K mg)(F:HasFn K mg "_law_number" cJ ["seed"])(h_law_draw:k0z P w K mg base):ae P w K mg base aT 2 "_law_number" ["seed"] (spT K [true] sL):=by
 refine F.i4 bI [true] rfl (by decide) ?_;left;obtain⟨sd,rfl,hs,q⟩:=h;have qi:∀(v:Int) (s':L2.T),dE s'->0<=v->v<65536->Qt (.tr (.int v)) [s']:=fun v s' h0 h1 h2=>by
  obtain⟨k,rfl⟩:∃ k:Nat,v=k:=⟨v.toNat,by lia⟩
  exact q k s' h0 (by lia)
 refine⟨_,(Y.ai (Y.set (i:=1) bI.nd rfl (by right) (Y.fn K rfl h_law_draw (hr.mono (by decide)) rfl aq (Y.cons (Y.vS 0) (Y.cons Y.int Y.nil))))
   (Y.ai (Y.hW (Y.bD (Y.bP K rfl (LM hu)) Y.cZ (Y.vS 1) Y.int) (Y.ay (Y.ret (Y.fn K rfl h_law_draw (hr.mono (by decide)) rfl aq (Y.cons (Y.vS 0) (Y.cons Y.int Y.nil))))) Y.cW)
   (Y.ai (Y.hW (Y.bD (Y.bP K rfl (LM hu)) Y.cZ (Y.vS 1) Y.int) (Y.ay (Y.ret (Y.fn K rfl h_law_draw (hr.mono (by decide)) rfl aq (Y.cons (Y.vS 0) (Y.cons Y.int Y.nil))))) Y.cW)
   (Y.ai (Y.hW (Y.bD (Y.bP K rfl (LM hu)) Y.cZ (Y.vS 1) Y.int) (Y.ay (Y.ret (Y.op d5 Y.cw Y.int (Y.fn K rfl h_law_draw (hr.mono (by decide)) rfl aq (Y.cons (Y.vS 0) (Y.cons Y.int Y.nil)))))) Y.cW)
   (Y.ai (Y.set (i:=2) bI.nd rfl (by right) Y.int)
   (Y.ai (Y.e_ LQ rfl (Y.kE rfl T.cI (Y.cons (Y.fn K rfl h_law_draw (hr.mono (by decide)) rfl aq (Y.cons (Y.vS 0) (Y.cons Y.int Y.nil))) Y.nil)) (Y.ax (i:=3) bI.nd rfl (by right)) (Y.ay (Y.set (i:=2) bI.nd rfl (by right) (Y.op (Y.aB K rfl) Y.aC (Y.vS 2) (Y.vS 2)))))
   (Y.ay (Y.ret (Y.op d5 Y.cw (Y.vS 2) (Y.fn K rfl h_law_draw (hr.mono (by decide)) rfl aq (Y.cons (Y.vS 0) (Y.cons Y.int Y.nil)))))))))))),?_⟩
 refine au fun N hN=>?_;rfl';refine⟨sd,4,rfl,hs,by decide,by decide,fun way s1 hs1 w0 w1=>?_⟩
 rfl';symm;by_cases a0:way=0
 ·exists Lg a0;refine⟨s1,5,rfl,hs1,by decide,by decide,fun v s2 hs2 v0 v1=>?_⟩
  rfl';exact qi v s2 hs2 v0 (by lia)
 ·exists K_ a0;symm;by_cases a1:way=1
  ·exists Lg a1;refine⟨s1,65536,rfl,hs1,by decide,by decide,fun v s2 hs2 v0 v1=>?_⟩
   rfl';exact qi v s2 hs2 v0 v1
  ·exists K_ a1;symm;by_cases a2:way=2
   ·exists Lg a2;refine⟨s1,3,rfl,hs1,by decide,by decide,fun v s2 hs2 v0 v1=>?_⟩
    rfl';exact qi _ s2 hs2 (by lia) (by lia)
   ·exists K_ a2;symm;rfl';symm;rfl';refine⟨s1,16,rfl,hs1,by decide,by decide,fun m s2 hs2 m0 m1=>?_⟩
    rfl';refine⟨by lia,by lia,?_⟩
    refine bT (fun rest μ=>∃(j:Nat) (v:Int) (o:Option L2.T),j+rest.length=m.toNat/\v=2^j/\μ=[.pb s2,.tr (.int way),.tr (.int v),sl o]) ⟨0,1,none,by simp,rfl,rfl⟩ ?_ ?_
    ·rintro μ ⟨j,v,o,hj,hv,rfl⟩;show N _;ac_rfl;rfl';refine⟨s2,2,rfl,hs2,by decide,by decide,fun d s3 hs3 d0 d1=>?_⟩
     rfl';have h1:(1:Int)<=2^j:=Int.le_of_lt_add_one (by have:=Int.pow_pos (n:=2) (m:=j) (by decide);lia)
     have h2:(2:Int)^j<=2^15:=by
      have:2^j<=2^15:=Mb (by decide) (by simp at hj;lia)
      exact_mod_cast this
     rw[hv];exact qi _ s3 hs3 (by lia) (by lia)
    ·rintro t r μ M ⟨j,v,o,hj,hv,rfl⟩ k;rfl';refine k _ ⟨j+1,v+v,some t,by rw[KZ] at hj;lia,by rw[hv,Int.pow_succ];lia,rfl⟩
theorem KD{b:Nat}(h:b<8):b=0\/b=1\/b=2\/b=3\/b=4\/b=5\/b=6\/b=7:=by lia
inductive Row where
 |put (b n:Nat)|two (w:Fin 3) (a b:Nat)|one (w:Fin 2) (b:Nat)|jump (g:Nat)|zero (b g:Nat)|halt
 deriving DecidableEq
noncomputable def fM(i:Nat):Str:=⟨#[97+i]⟩
noncomputable def w2:Fin 3->Str
 |0=>"add"
 |1=>"sub"
 |2=>"copy"
noncomputable def w1:Fin 2->Str
 |0=>"tell"
 |1=>"hear"
inductive IB where
 |s (z:Str)|n (k:Nat)
noncomputable def IB.t:IB->L2.T
 |.s z=>.str z
 |.n k=>.int (k:Nat)
noncomputable def Row.ps:Row->List IB
 |.put b n=>[.s "put",.s (fM b),.n n]
 |.two w a b=>[.s (w2 w),.s (fM a),.s (fM b)]
 |.one w b=>[.s (w1 w),.s (fM b)]
 |.jump g=>[.s "jump",.n g]
 |.zero b g=>[.s "zero",.s (fM b),.n g]
 |.halt=>[.s "halt"]
noncomputable def Row.t(r:Row):L2.T:=.tup (r.ps.map IB.t)
noncomputable def Row.Ok(size:Nat):Row->Prop
 |.put b n=>b<8/\n<65536
 |.two _ a b=>a<8/\b<8
 |.one _ b=>b<8
 |.jump g=>g<=size
 |.zero b g=>b<8/\g<=size
 |.halt=>True
theorem Row.Ok.mono{a b:Nat}{r:Row}(h:r.Ok a)(hm:a<=b):r.Ok b:=by
 cases r<;>simp only[Row.Ok] at h ⊢<;>lia
theorem wV{k:Int}(h0:0<=k)(h1:k<8):b9 (Str.ofString "abcdefgh").cps.toList k=some (97+k.toNat):=by
 have e:(Str.ofString "abcdefgh").cps.toList=[97,98,99,100,101,102,103,104]:=by decide +kernel
 rw[e];obtain⟨n,rfl⟩:∃ n:Nat,k=n:=⟨k.toNat,by lia⟩
 unfold b9 ji;have hn:n<8:=by lia
 rw[Lg (by lia),Lg (by simp;lia)]
 show [97,98,99,100,101,102,103,104][((n:Nat):Int).toNat]?=some (97+((n:Nat):Int).toNat);rw[L6];rcases KD hn with rfl|rfl|rfl|rfl|rfl|rfl|rfl|rfl<;>rfl
noncomputable def Row.st:Row->Bool
 |.put _ _=>true
 |.two _ _ _=>true
 |.one _ _=>true
 |_=>false
noncomputable def Ho:dX:=fun args Q=>∃(s:L2.T) (many:Nat),args=[s,.int (many:Int),.int 6]/\dE s/\many<1000/\∀(r:Row) (s':L2.T),r.Ok many->r.st=true->dE s'->Q (.tr r.t) [s']
abbrev k11z(P w K mg base):=ae P w K mg base aT 3 "_law_row" ["seed","many","words"] (spT K [true,false,false] Ho)
theorem D8(T:Txt K mg)(F:HasFn K mg "_law_row" eB ["seed","many","words"])(h_law_draw:k0z P w K mg base)(h_law_words:ae P w K mg base aT 1 "_law_words" [] (spT K [] sy))(h_law_number:ae P w K mg base aT 2 "_law_number" ["seed"] (spT K [true] sL)):
  k11z P w K mg base:=by
 refine F.i4 fi [true,false,false] rfl (by decide) ?_;left;obtain⟨sd,many,rfl,hs,hmy,q⟩:=h;refine⟨_,(Y.ai (Y.set (i:=3) fi.nd rfl (by right) (Y.ix (Y.bw K rfl) Y.ar (Y.JG K rfl h_law_words (hr.mono (by decide)) rfl aq) (Y.fn K rfl h_law_draw (hr.mono (by decide)) rfl aq (Y.cons (Y.vS 0) (Y.cons (Y.vS 2) Y.nil)))))
   (Y.ai (Y.set (i:=4) fi.nd rfl (by right) (Y.ix (Y.bw K rfl) Y.ar Y.str (Y.fn K rfl h_law_draw (hr.mono (by decide)) rfl aq (Y.cons (Y.vS 0) (Y.cons Y.int Y.nil)))))
   (Y.ai (Y.hW (Y.bD (Y.bP K rfl (LM hu)) Y.cZ (Y.vS 3) Y.str) (Y.ay (Y.ret (Y.tup (Y.cons (Y.vS 3) (Y.cons (Y.vS 4) (Y.cons (Y.fn K rfl h_law_number (hr.mono (by decide)) rfl aq (Y.cons (Y.vS 0) Y.nil)) Y.nil)))))) Y.cW)
   (Y.ai (Y.hW (Y.bD (Y.r9 K rfl) Y.zI (Y.vS 3) (Y.tup (Y.mq rfl rfl))) (Y.ay (Y.ret (Y.tup (Y.cons (Y.vS 3) (Y.cons (Y.vS 4) (Y.cons (Y.ix (Y.bw K rfl) Y.ar Y.str (Y.fn K rfl h_law_draw (hr.mono (by decide)) rfl aq (Y.cons (Y.vS 0) (Y.cons Y.int Y.nil)))) Y.nil)))))) Y.cW)
   (Y.ai (Y.hW (Y.bD (Y.r9 K rfl) Y.zI (Y.vS 3) (Y.tup (Y.mq rfl rfl))) (Y.ay (Y.ret (Y.tup (Y.cons (Y.vS 3) (Y.cons (Y.vS 4) Y.nil))))) Y.cW)
   (Y.ai (Y.hW (Y.bD (Y.bP K rfl (LM hu)) Y.cZ (Y.vS 3) Y.str) (Y.ay (Y.ret (Y.tup (Y.cons (Y.vS 3) (Y.cons (Y.fn K rfl h_law_draw (hr.mono (by decide)) rfl aq (Y.cons (Y.vS 0) (Y.cons (Y.op (Y.aB K rfl) Y.aC (Y.vS 1) Y.int) Y.nil))) Y.nil))))) Y.cW)
   (Y.ai (Y.hW (Y.bD (Y.bP K rfl (LM hu)) Y.cZ (Y.vS 3) Y.str) (Y.ay (Y.ret (Y.tup (Y.cons (Y.vS 3) (Y.cons (Y.vS 4) (Y.cons (Y.fn K rfl h_law_draw (hr.mono (by decide)) rfl aq (Y.cons (Y.vS 0) (Y.cons (Y.op (Y.aB K rfl) Y.aC (Y.vS 1) Y.int) Y.nil))) Y.nil)))))) Y.cW)
   (Y.ay (Y.ret (Y.tup (Y.cons (Y.vS 3) Y.nil))))))))))),?_⟩
 refine au fun N hN=>?_;rfl';refine⟨rfl,?_⟩;rfl';refine⟨sd,6,rfl,hs,by decide,by decide,fun c s1 hs1 c0 c1=>?_⟩
 obtain⟨v,hv,ha⟩:∃ v,v∈[L2.T.str "put",.str "add",.str "sub",.str "copy",.str "tell",.str "hear"]/\b9 [L2.T.str "put",.str "add",.str "sub",.str "copy",.str "tell",.str "hear",.str "jump",.str "zero",.str "halt"] c=some v:=by
  rcases (show c=0\/c=1\/c=2\/c=3\/c=4\/c=5 by lia) with rfl|rfl|rfl|rfl|rfl|rfl<;>exact⟨_,by simp,rfl⟩
 exists ha;clear ha c0 c1;symm;rfl';refine⟨s1,8,rfl,hs1,by decide,by decide,fun b s2 hs2 b0 b1=>?_⟩
 have hb:=wV b0 b1;exists hb;refine⟨by decide +kernel,?_⟩
 ac_rfl;obtain⟨bn,rfl⟩:∃ bn:Nat,b=bn:=⟨b.toNat,by lia⟩
 have hb8:bn<8:=by lia
 rw[L6];show Y.BN _ _ _ [.pb s2,.tr (.int (many:Int)),.tr (.int 6),.tr v,.tr (.str (fM bn))];have hv6:v=.str "put"\/(∃ w,v=.str (w2 w))\/(∃ w,v=.str (w1 w)):=by
  simp only[Ll,LK,M9] at hv;rcases hv with h|h|h|h|h|h<;>subst h<;>first|exact .inl rfl|exact .inr (.inl ⟨0,rfl⟩)|exact .inr (.inl ⟨1,rfl⟩)|exact .inr (.inl ⟨2,rfl⟩)|exact .inr (.inr ⟨0,rfl⟩)|exact .inr (.inr ⟨1,rfl⟩)
 clear hv;refine au fun N hN=>?_;rcases hv6 with rfl|⟨u,rfl⟩|⟨u,rfl⟩
 ·exists (show (Str.ofString "put"=Str.ofString "put")=True from eq_true rfl),M1;refine⟨s2,rfl,hs2,fun k s3 hs3 k1=>?_⟩;rfl';exact⟨by decide,q (.put bn k) s3 ⟨hb8,k1⟩ rfl hs3⟩
 ·have n1:∀ u,w2 u≠"put":=by decide +kernel
  have i1:∀ u,Y.i7 (.str (w2 u)) [.str "add",.str "sub",.str "copy"]=true:=by decide +kernel
  exists K_ (n1 u);symm;exists i1 u;refine⟨by decide,rfl,rfl,s2,8,rfl,hs2,by decide,by decide,fun c s3 hs3 c0 c1=>?_⟩
  have hc:=wV c0 c1;exists hc;exact⟨by decide +kernel,by decide,q (.two u bn c.toNat) s3 ⟨hb8,by lia⟩ rfl hs3⟩
 ·have n1:∀ u,w1 u≠"put":=by decide +kernel
  have i1:∀ u,Y.i7 (.str (w1 u)) [.str "add",.str "sub",.str "copy"]=false:=by decide +kernel
  have i2:∀ u,Y.i7 (.str (w1 u)) [.str "tell",.str "hear"]=true:=by decide +kernel
  exists K_ (n1 u);symm;exists i1 u;refine⟨by decide,rfl,rfl,?_⟩
  symm;exists i2 u;exact⟨by decide,rfl,rfl,by decide,q (.one u bn) s2 hb8 rfl hs2⟩
noncomputable def oI:Option Nat->L2.T
 |none=>.aw
 |some k=>.int k
noncomputable def bO(n:Nat):List L2.T:=List.replicate n .aw
theorem jV(n:Nat):(bO n).length=n:=Lp
noncomputable def jm:Int->List Int->List Int
 |_,[]=>[]
 |a,s::ss=>(a+s)::jm (a+s) ss
noncomputable def DG(ss:List Int):List Int:=0::jm 0 ss
noncomputable def IM:dX:=fun _ _=>False
theorem zd{st:Stmt}{N ps:List Str}{md:List Bool}(F:HasFn K mg x st ps)(S:aj N ps (aa st))(hmd:md.length=ps.length)(hnd:md.length<=N.length):ae P w K mg base aT (k+1) x ps (spT K md IM):=by
 refine F.i4 S md hmd hnd (fun args Qt hl h f cdv A outer s H E hr=>h.elim)
noncomputable def CP:dX:=fun args Q=>args=[.aw]/\Q (.tr (.int 0)) []
theorem nH(T:Txt K mg)(F:HasFn K mg "own_part" eC ["width"]):ae P w K mg base aT 1 "own_part" ["width"] (spT K [false] CP):=by
 refine F.i4 oU [false] rfl (by decide) ?_;left;obtain⟨rfl,q⟩:=h;refine⟨_,(Y.ay (Y.ret (Y.FP (Y.bD qZ Y.qA (Y.vS 0) Y.aw) Y.int (Y.op (Y.aB K rfl) Y.aC (Y.cb (Y.az K rfl) Y.aN rfl T.cu (by decide +kernel) (Y.cons (Y.ix (Y.bw K rfl) Y.ar (Y.kL rfl T.zY) (Y.vS 0)) Y.nil)) (Y.ix (Y.bw K rfl) Y.ar (Y.kL rfl T.wM) (Y.vS 0)))))),?_⟩
 rfl';exact q
theorem Bu{pre:List Int}{a:Int}:b9 (nI (pre++[a])) (-1)=some (.int a):=nQ (y_ pre a)
noncomputable def DS:dX:=fun args Q=>∃(ss:List Int) (t2:L2.T),args=[.lst (nI ss),t2]/\(t2=.tup (bO ss.length)\/t2=.lst (bO ss.length))/\ss.length<=60/\Q (.fr (.lst (nI (DG ss)))) []
abbrev k1z(P w K mg base):=ae P w K mg base aT 2 "row_starts" ["sizes","widths"] (spT K [false,false] DS)
theorem kB(T:Txt K mg)(F:HasFn K mg "row_starts" c_ ["sizes","widths"])(hown_part:ae P w K mg base aT 1 "own_part" ["width"] (spT K [false] CP)):k1z P w K mg base:=by
 refine F.i4 cP [false,false] rfl (by decide) ?_;left;obtain⟨ss,t2,rfl,h2,hle,q⟩:=h;refine⟨_,(Y.ai (Y.set (i:=2) cP.nd rfl (by right) (Y.lst (Y.cons Y.int Y.nil)))
   (Y.ai (Y.e_ LQ rfl (Y.zip K rfl rfl T.sv (Y.cons (Y.vS 0) (Y.cons (Y.vS 1) Y.nil))) (Y.o8 (n:=2) K rfl rfl (Y.aW (Y.ax (i:=3) cP.nd rfl (by right)) (Y.aW (Y.ax (i:=4) cP.nd rfl (by right)) Y.eQ))) (Y.ay (Y.expr (Y.bm K rfl PySem.F.slot_list_append PySem.F.type_list_append cc Y.cF (Y.vS 2) (Y.cons (Y.op (Y.aB K rfl) Y.aC (Y.op (Y.aB K rfl) Y.aC (Y.ix (Y.bw K rfl) Y.ar (Y.vS 2) (Y.neg Y.int)) (Y.vS 3)) (Y.fn K rfl hown_part (hr.mono (by decide)) rfl aq (Y.cons (Y.vS 4) Y.nil))) Y.nil)))))
   (Y.ay (Y.ret (Y.vS 2))))),?_⟩
 have e2:nU t2=some (bO ss.length):=by rcases h2 with rfl|rfl<;>rfl
 refine au fun N hN=>?_;rfl';refine⟨by decide,?_⟩
 symm;exists e2;refine bT (fun rest μ=>∃(ss' pre:List Int) (a:Int) (s3 s4:Option L2.T),rest=kh (nI ss') (bO ss'.length)/\pre++a::jm a ss'=DG ss/\pre.length+ss'.length<=60/\μ=[.tr (.lst (nI ss)),.tr t2,.bx (.lst (nI (pre++[a]))),sl s3,sl s4])
  ⟨ss,[],0,none,none,rfl,rfl,by simpa using hle,rfl⟩ ?_ ?_
 ·rintro μ ⟨ss',pre,a,s3,s4,e,ep,_,rfl⟩;have:ss'=[]:=by
   cases ss' with
   |nil=>rfl
   |cons=>cases e
  subst this;show N _;ac_rfl;rfl';rw[show pre++[a]=DG ss from ep];exact q
 ·rintro t ts μ M ⟨ss',pre,a,s3,s4,e,ep,hz,rfl⟩ k
  cases ss' with
  |nil=>cases e
  |cons z ss' =>
   cases e;exists Bu;refine⟨rfl,?_⟩;rfl';rw[KZ] at hz;refine⟨by rw[aR,KW,LO];exact Lu (show _<=61 by lia) (by decide),?_⟩
   rw[Pf];refine k _ ⟨ss',pre++[a],a+z,some (.int z),some .aw,rfl,by rw[Ly];exact ep,by rw[KW,LO];lia,?_⟩
   rw[gY (pre++[a]) [a+z]];rfl
noncomputable def Ci:dX:=fun args Q=>∃ n:Nat,args=[.lst (bO n)]/\n<=60/\Q (.fr (.lst (bO n))) []
theorem mE(T:Txt K mg)(F:HasFn K mg "narrowest" cV ["goals"]):ae P w K mg base aT 1 "narrowest" ["goals"] (spT K [false] Ci):=by
 refine F.i4 mP [false] rfl (by decide) ?_;left;obtain⟨n,rfl,hn,q⟩:=h;refine⟨_,(Y.ay (Y.ret (Y.ie (osc:=aa cV) (ON:=["goals"]) (own:=["goal"]) (N:=["goal","goals"]) ⟨rfl,by decide +kernel,rfl,by decide +kernel,by decide +kernel,by decide +kernel,by decide +kernel,by decide +kernel⟩ rfl rfl rfl rfl (Y.anyS K rfl (Y.vS 0)) (fun _ _ _ _=>(Z.ax (i:=0) (show List.Nodup (["goal","goals"]:List Str) by decide +kernel) rfl (by right))) (fun _ _ _ _=>Y.mZ) (fun _ _ _ _=>(Y.FP (Y.bD qZ Y.qA (Y.vS 0) Y.aw) Y.aw Y.int))))),?_⟩
 rfl';refine bj (fun rest acc μ=>∃ i j:Nat,i+j=n/\rest=bO j/\acc=bO i/\μ=[.tr (.lst (bO n))]) ⟨0,n,MT _,rfl,rfl,rfl⟩ ?_ ?_
 ·rintro acc μ ⟨i,j,e,e2,rfl,rfl⟩
  cases j with
  |succ j=>cases e2
  |zero =>
   cases e;refine⟨trivial,?_⟩;rfl';exact q
 ·rintro t r acc μ N ⟨i,j,e,e2,rfl,rfl⟩ k
  cases j with
  |zero=>cases e2
  |succ j =>
   cases e2;refine⟨trivial,by rw[jV];exact Lu (show i<=60 by lia) (by decide),?_⟩
   rfl';exact k _ _ ⟨i+1,j,by lia,rfl,by unfold bO;rw[N9],rfl⟩
theorem mX(ts:List L2.T):(pairs ts).length=ts.length:=by unfold pairs;rw[Ld,L7]
theorem uL(n i:Nat)(h:i<n):(pairs (bO n)).drop i=.tup [.int (i:Nat),.aw]::(pairs (bO n)).drop (i+1):=by
 have e:(pairs (bO n))[i]?=some (.tup [.int (i:Nat),.aw]):=by
  unfold pairs bO;rw[Lw,Lp,ML h];show some (L2.T.tup [.int (i:Nat),((List.replicate n L2.T.aw)[i]?).getD .aw])=_;rw[Mz,Lg h];rfl
 obtain⟨hi,e2⟩:=Li.mp e;rw[LJ hi,e2]
noncomputable def HA:dX:=fun args Q=>∃ ss:List Int,args=[.lst (nI ss),.lst (bO ss.length),.lst (bO ss.length)]/\ss.length<=60/\Q (.tr .aw) []
abbrev k3z(P w K mg base):=ae P w K mg base aT 3 "first_too_narrow" ["sizes","goals","widths"] (spT K [false,false,false] HA)
theorem uO(T:Txt K mg)(F:HasFn K mg "first_too_narrow" b7 ["sizes","goals","widths"])(hrow_starts:k1z P w K mg base)(hfits:ae P w K mg base aT 2 "fits" ["starts","goals","widths","row"] (spT K [false,false,false,false] IM)):k3z P w K mg base:=by
 refine F.i4 bo [false,false,false] rfl (by decide) ?_;left;obtain⟨ss,rfl,hle,q⟩:=h;refine⟨_,(Y.ai (Y.set (i:=3) bo.nd rfl (by right) (Y.fn K rfl hrow_starts (hr.mono (by decide)) rfl aq (Y.cons (Y.vS 0) (Y.cons (Y.vS 2) Y.nil))))
   (Y.ai (Y.e_ LQ rfl (Y.CK K rfl rfl T.eZ (Y.cons (Y.vS 1) Y.nil)) (Y.o8 (n:=2) K rfl rfl (Y.aW (Y.ax (i:=4) bo.nd rfl (by right)) (Y.aW (Y.ax (i:=5) bo.nd rfl (by right)) Y.eQ))) (Y.ay (Y.hW (Y.tw (Y.xA (Y.bD m6 Y.m8 (Y.vS 5) Y.aw) (Y.nK (Y.uF (Y.t4 K rfl (Y.fn K rfl hfits (hr.mono (by decide)) rfl aq (Y.cons (Y.vS 3) (Y.cons (Y.vS 1) (Y.cons (Y.vS 2) (Y.cons (Y.vS 4) Y.nil)))))))))) (Y.ay (Y.ret (Y.vS 4))) Y.cW)))
   (Y.ay (Y.ret Y.aw)))),?_⟩
 refine au fun N hN=>?_;rfl';refine⟨ss,_,rfl,.inr rfl,hle,?_⟩;rfl';symm;rfl';refine bT (fun rest μ=>∃(i:Nat) (s4 s5:Option L2.T),rest=(pairs (bO ss.length)).drop i/\i<=ss.length/\μ=[.tr (.lst (nI ss)),.tr (.lst (bO ss.length)),.tr (.lst (bO ss.length)),.bx (.lst (nI (DG ss))),sl s4,sl s5]) ⟨0,none,none,rfl,LA _,rfl⟩ ?_ ?_
 ·rintro μ ⟨i,s4,s5,e,hi,rfl⟩;show N _;ac_rfl;rfl';exact q
 ·rintro t ts μ M ⟨i,s4,s5,e,hi,rfl⟩ k;have hi2:i<ss.length:=by
   rcases M5 i ss.length with z|z
   ·exact z
   ·rw[P9 (by rw[mX,jV];exact z)] at e;cases e
  rw[uL _ _ hi2] at e;cases e;rfl';exact k _ ⟨i+1,some _,some _,rfl,hi2,rfl⟩
noncomputable def Cf:vA:=fun args Q _=>∃ ss:List Int,args=[.lst (nI ss),.lst (bO ss.length)]/\ss.length<=60/\Q (.tr (.tup [.tup (bO ss.length),.tup []])) []
abbrev k9z(P w K mg base):=ae P w K mg base (nF P w) 4 "raised_till_good" ["sizes","goals"] (sW K [false,false] Cf)
theorem qB(T:Txt K mg)(F:HasFn K mg "raised_till_good" b8 ["sizes","goals"])(hnarrowest:ae P w K mg base aT 1 "narrowest" ["goals"] (spT K [false] Ci))(hfirst_too_narrow:k3z P w K mg base):k9z P w K mg base:=by
 obtain⟨C_NoReach,hC_NoReach,kC_NoReach⟩:=T.vx;refine F.Ii aM [false,false] rfl rfl (by decide) (fun args Qt Et hl h f cdv A outer s H E hr=>?_)
 have hu:=aP hr;obtain⟨ss,rfl,hle,q⟩:=h;refine⟨_,(Y.bp (Y.m5 (Y.set (i:=2) aM.nd rfl (by right) (Y.fn K rfl hnarrowest (hr.mono (by decide)) rfl aq (Y.cons (Y.vS 1) Y.nil))))
   (Y.bp (Y.m5 (Y.set (i:=3) aM.nd rfl (by right) (Y.lst Y.nil)))
   (Y.bp (Y.m5 (Y.set (i:=4) aM.nd rfl (by right) (Y.fn K rfl hfirst_too_narrow (hr.mono (by decide)) rfl aq (Y.cons (Y.vS 0) (Y.cons (Y.vS 1) (Y.cons (Y.vS 2) Y.nil))))))
   (Y.bp (Y.A6 NT (Y.bD m6 Y.m8 (Y.vS 4) Y.aw) (Y.bp (Y.Fj (Y.bD (Y.bP K rfl (LM hu)) Y.cZ (Y.ix (Y.bw K rfl) Y.ar (Y.vS 2) (Y.vS 4)) (Y.kL rfl T.xM)) (Y.fc (Y.qF rfl hC_NoReach kC_NoReach rfl rfl (Y.cons (Y.Dc (Y.uP (Y.D9 (Y.vS 4) (Y.uP Y.EG)))) Y.nil))) Y.y9)
   (Y.bp (Y.m5 (Y.asg (Y.op (Y.aB K rfl) Y.aC (Y.ix (Y.bw K rfl) Y.ar (Y.vS 2) (Y.vS 4)) Y.int) (Y.qm (Y.vS 2) (Y.vS 4))))
   (Y.bp (Y.m5 (Y.expr (Y.bm K rfl PySem.F.slot_list_append PySem.F.type_list_append cc Y.cF (Y.vS 3) (Y.cons (Y.vS 4) Y.nil))))
   (Y.fc (Y.m5 (Y.set (i:=4) aM.nd rfl (by right) (Y.fn K rfl hfirst_too_narrow (hr.mono (by decide)) rfl aq (Y.cons (Y.vS 0) (Y.cons (Y.vS 1) (Y.cons (Y.vS 2) Y.nil)))))))))))
   (Y.fc (Y.m5 (Y.ret (Y.tup (Y.cons (Y.ct (Y.bY K rfl) Y.cU rfl T.cN (by decide +kernel) (Y.cons (Y.vS 2) Y.nil)) (Y.cons (Y.ct (Y.bY K rfl) Y.cU rfl T.cN (by decide +kernel) (Y.cons (Y.vS 3) Y.nil)) Y.nil)))))))))),?_⟩
 refine oJ fun N hN=>?_;rfl';refine⟨ss.length,rfl,hle,?_⟩;rfl';rw[hN];clear hN N;refine oJ fun N hN=>?_;rfl';rw[hN];clear hN N;refine oJ fun N hN=>?_;rfl';refine⟨ss,rfl,hle,?_⟩;rfl';refine⟨.inr ⟨rfl,rfl⟩,?_⟩;rw[hN];clear hN N;refine oJ fun N hN=>?_;refine⟨fun m μ=>m=0/\μ=[.tr (.lst (nI ss)),.tr (.lst (bO ss.length)),.bx (.lst (bO ss.length)),.bx (.lst []),.tr .aw],⟨0,rfl,rfl⟩,?_⟩;rintro m μ ⟨rfl,rfl⟩;rfl';rw[hN];clear hN N;rfl';exact⟨by decide,q⟩
noncomputable def HU:vA:=fun args Q _=>∃ ss:List Int,args=[.lst (nI ss),.lst (bO ss.length)]/\ss.length<=60/\Q (.tr (.tup (bO ss.length))) []
noncomputable def Hw:dX:=fun args Q=>∃ ss:List Int,args=[.lst (nI ss),.lst (bO ss.length)]/\ss.length<=60/\Q (.tr (.tup (bO ss.length))) []
theorem t_(T:Txt K mg)(F:HasFn K mg "least_widths" cx ["sizes","goals"])(hraised_till_good:k9z P w K mg base):ae P w K mg base (nF P w) 5 "least_widths" ["sizes","goals"] (sW K [false,false] HU):=by
 refine F.Ii i5 [false,false] rfl rfl (by decide) (fun args Qt Et hl h f cdv A outer s H E hr=>?_)
 have hu:=aP hr;obtain⟨ss,rfl,hle,q⟩:=h;refine⟨_,(Y.fc (Y.Kd (Y.KA (Y.bw K rfl) Y.ar (Y.IE K rfl hraised_till_good (hr.mono (by decide)) rfl rfl (Y.cons (Y.vS 0) (Y.cons (Y.vS 1) Y.nil))) Y.int))),?_⟩
 rfl';refine⟨ss,rfl,hle,?_⟩;rfl';exact q
noncomputable def dg(n:Int):Nat:=48+(n % 2).toNat
noncomputable def fe:Int->Nat->List Nat->List Nat
 |_,0,acc=>acc
 |n,k+1,acc=>fe (n / 2) k (dg n::acc)
theorem lI:∀(k:Nat) (n:Int) (acc:List Nat),(fe n k acc).length=k+acc.length
 |0,_,_=>by rw[fe,MT]
 |k+1,n,acc=>by rw[fe,lI k,KZ];lia
theorem j_:∀(k:Nat) (n:Int) (acc:List Nat),∃ d,fe n (k+1) acc=d::fe n k acc
 |0,n,acc=>⟨dg n,rfl⟩
 |k+1,n,acc=>by
  obtain⟨d,e⟩:=j_ k (n / 2) (dg n::acc);exact⟨d,e⟩
theorem JC(n:Int):dg n=48\/dg n=49:=by
 unfold dg;have:n % 2=0\/n % 2=1:=by lia
 rcases this with e|e<;>rw[e]
 ·exact .inl rfl
 ·exact .inr rfl
theorem Fs(n:Int):Str.ofString (toString (n % 2))=wd [dg n]:=by
 have:n % 2=0\/n % 2=1:=by lia
 unfold dg;rcases this with e|e<;>rw[e]
 ·exact (by decide +kernel)
 ·exact (by decide +kernel)
theorem my(a b:List Nat):wd a++wd b=wd (a++b):=by
 apply CW;show (a.toArray++b.toArray).toList=_;simp
theorem nv:Str.ofString ""=wd []:=by decide +kernel
noncomputable def CS:dX:=fun args Q=>∃(n k:Int),args=[.int n,.int k]/\-1<=k/\k<=16/\Q (.tr (.str (wd (fe n k.toNat [])))) []
abbrev k14z(P w K mg base):=ae P w K mg base aT 1 "last_figures" ["number","many"] (spT K [false,false] CS)
theorem As(T:Txt K mg)(F:HasFn K mg "last_figures" cm ["number","many"]):k14z P w K mg base:=by
 refine F.i4 aY [false,false] rfl (by decide) ?_;left;obtain⟨n,k,rfl,hk0,hk,q⟩:=h;refine⟨_,(Y.ai (Y.set (i:=2) aY.nd rfl (by right) Y.str)
   (Y.ai (Y.set (i:=3) aY.nd rfl (by right) (Y.vS 0))
   (Y.ai (Y.e_ LQ rfl (Y.kE rfl T.cI (Y.cons (Y.vS 1) Y.nil)) (Y.ax (i:=4) aY.nd rfl (by right)) (Y.ai (Y.set (i:=2) aY.nd rfl (by right) (Y.op (Y.aB K rfl) Y.aC (Y.ct v7 Y.EX rfl T.C5 (by decide +kernel) (Y.cons (Y.op eG Y.bV (Y.vS 3) Y.int) Y.nil)) (Y.vS 2)))
   (Y.ay (Y.set (i:=3) aY.nd rfl (by right) (Y.op Y.gp Y.bV (Y.vS 3) Y.int)))))
   (Y.ay (Y.ret (Y.vS 2)))))),?_⟩
 refine au fun N hN=>?_;rfl';symm;rfl';symm;rfl';refine⟨by lia,by lia,?_⟩
 refine bT (fun rest μ=>∃(m:Int) (acc:List Nat) (o:Option L2.T),fe m rest.length acc=fe n k.toNat []/\rest.length+acc.length=k.toNat/\μ=[.tr (.int n),.tr (.int k),.tr (.str (wd acc)),.tr (.int m),sl o]) ⟨n,[],none,by rw[Ld,L7],by rw[Ld,L7];rfl,by rw[nv];rfl⟩ ?_ ?_
 ·rintro μ ⟨m,acc,o,e,_,rfl⟩;show N _;ac_rfl;rfl';rw[<- e] at q;exact q
 ·rintro t ts μ M ⟨m,acc,o,e,hl,rfl⟩ kk;rw[KZ] at e hl;rfl';refine au fun M' hM=>?_;rfl';have h2:(m % 2).natAbs.log2<1920:=by
   have:m % 2=0\/m % 2=1:=by lia
   rcases this with e|e<;>rw[e]<;>decide
  rw[Fs,cA,cA,my];refine⟨by decide,h2,Lr (show _<=20 by simp;lia) (by decide),?_⟩
  refine hM _ ?_;clear hM M';rfl';exact⟨⟨by decide,by decide⟩,kk _ ⟨m / 2,dg m::acc,some _,e,by rw[KZ];lia,rfl⟩⟩
noncomputable def hZ(n:Nat):Nat:=Builtin.Int.intBits (n:Int)
noncomputable def rn(n:Nat):List Nat:=fe (n:Int) (hZ n) []
theorem iI{n:Nat}(h:n<65536):hZ n<17:=by
 unfold hZ Builtin.Int.intBits;split
 ·decide
 ·rename_i hz;have h0:n≠0:=fun z=>hz (by rw[z];rfl)
  show (n:Int).natAbs.log2+1<17;rw[Int.natAbs_natCast];have:=(Pz (n:=n) (k:=16) h0).mpr (by lia)
  lia
noncomputable def E8:dX:=fun args Q=>∃ n:Nat,args=[.int (n:Int)]/\n<65536/\Q (.tr (.str (wd (rn n).tail))) []
abbrev k17z(P w K mg base):=ae P w K mg base aT 2 "figures_behind_first" ["number"] (spT K [false] E8)
theorem DP(T:Txt K mg)(F:HasFn K mg "figures_behind_first" aO ["number"])(hlast_figures:k14z P w K mg base):k17z P w K mg base:=by
 refine F.i4 ee [false] rfl (by decide) ?_;left;obtain⟨n,rfl,hn,q⟩:=h;refine⟨_,(Y.ay (Y.ret (Y.fn K rfl hlast_figures (hr.mono (by decide)) rfl aq (Y.cons (Y.vS 0) (Y.cons (Y.op d5 Y.cw (Y.bits (Y.vS 0)) Y.int) Y.nil))))),?_⟩
 rfl';have hb:=iI hn;unfold hZ at hb;refine⟨(n:Int),_,rfl,by lia,by lia,?_⟩
 have e:fe (n:Int) ((Builtin.Int.intBits (n:Int):Int)-1).toNat []=(rn n).tail:=by
  unfold rn hZ
  cases c:Builtin.Int.intBits (n:Int) with
  |zero=>rfl
  |succ k =>
   obtain⟨d,e⟩:=j_ k (n:Int) [];rw[e,List.tail_cons,show ((k+1:Nat):Int)-1=(k:Int) by lia,L6]
 rw[e];exact q
noncomputable def Row.wi:Row->Nat
 |.put _ _=>0
 |.two u _ _=>1+u
 |.one u _=>4+u
 |.jump _=>6
 |.zero _ _=>7
 |.halt=>8
theorem Row.yP(r:Row):r.wi<9:=by
 cases r with
 |two u a b=>exact (by decide:∀ u:_root_.Fin 3,1+(u:Nat)<9) u
 |one u b=>exact (by decide:∀ u:_root_.Fin 2,4+(u:Nat)<9) u
 |put b n=>exact (by decide:0<9)
 |jump g=>exact (by decide:6<9)
 |zero b g=>exact (by decide:7<9)
 |halt=>exact (by decide:8<9)
inductive Pk where
 |box (b:Nat)|num (n:Nat)|goal (g:Nat)
noncomputable def Pk.kd:Pk->Str
 |.box _=>"box"
 |.num _=>"number"
 |.goal _=>"goal"
noncomputable def Pk.t:Pk->L2.T
 |.box b=>.str (fM b)
 |.num n=>.int (n:Nat)
 |.goal g=>.int (g:Nat)
noncomputable def Pk.Ok:Pk->Prop
 |.box b=>b<8
 |.num n=>n<65536
 |.goal _=>True
noncomputable def Pk.JP:Pk->List (Nat×Nat)
 |.box b=>[(2,b)]
 |.num n=>[(1,hZ n)]
 |.goal _=>[]
noncomputable def Row.wd:Row->Str
 |.put _ _=>"put"
 |.two u _ _=>w2 u
 |.one u _=>w1 u
 |.jump _=>"jump"
 |.zero _ _=>"zero"
 |.halt=>"halt"
noncomputable def Row.mV:Row->List Pk
 |.put b n=>[.box b,.num n]
 |.two _ a b=>[.box a,.box b]
 |.one _ b=>[.box b]
 |.jump g=>[.goal g]
 |.zero b g=>[.box b,.goal g]
 |.halt=>[]
theorem Row.DK(r:Row):r.t=.tup (.str r.wd::r.mV.map Pk.t):=by cases r<;>rfl
theorem Row.qD{r:Row}(h:r.Ok k):∀ p∈r.mV,p.Ok:=by
 cases r with
 |put b n=>simp only[Row.mV,Ll,LK,M9];exact fun p z=>z.elim (fun e=>e ▸ h.1) fun e=>e ▸ h.2
 |two u a b=>simp only[Row.mV,Ll,LK,M9];exact fun p z=>z.elim (fun e=>e ▸ h.1) fun e=>e ▸ h.2
 |one u b=>simp only[Row.mV,Ll,LK,M9];rintro p rfl;exact h
 |jump g=>simp only[Row.mV,Ll,LK,M9];rintro p rfl;exact trivial
 |zero b g=>simp only[Row.mV,Ll,LK,M9];exact fun p z=>z.elim (fun e=>e ▸ h.1) fun e=>e ▸ trivial
 |halt=>simp[Row.mV]
noncomputable def cC(r:Row):List (Nat×Nat):=(0,r.wi)::r.mV.flatMap Pk.JP
noncomputable def fL:List Str:=["put","add","sub","copy","tell","hear","jump","zero","halt"]
theorem HF:∀ k,k<9->∀ m,m<k->fL[m]?≠fL[k]?:=by decide +kernel
theorem C7(r:Row):fL[r.wi]?=some r.wd/\∀ m,m<r.wi->fL[m]?≠some r.wd:=by
 have h1:fL[r.wi]?=some r.wd:=by
  cases r with
  |two u a b=>exact (by decide +kernel:∀ u:_root_.Fin 3,fL[1+(u:Nat)]?=some (w2 u)) u
  |one u b=>exact (by decide +kernel:∀ u:_root_.Fin 2,fL[4+(u:Nat)]?=some (w1 u)) u
  |put b n=>rfl
  |jump g=>rfl
  |zero b g=>rfl
  |halt=>rfl
 exact⟨h1,fun m hm=>by rw[<- h1];exact HF _ r.yP m hm⟩
theorem yh(t:L2.T)(ts:List L2.T):Y.bM (t::ts) (some 1) none=ts:=by
 unfold Y.bM;rw[HT.fb,show (some (1:Int))=some ((1:Nat):Int) from rfl,HT.ni];simp
noncomputable def cT(l:List (Nat×Nat)):List L2.T:=l.map fun p=>.tup [.int (p.1:Nat),.int (p.2:Nat)]
noncomputable def qM:dX:=fun args Q=>∃(r:Row) (k:Nat),args=[r.t]/\r.Ok k/\Q (.fr (.lst (cT (cC r)))) []
noncomputable def df:List (Str×List Str):=[("put",["box","number"]),("add",["box","box"]),("sub",["box","box"]),("copy",["box","box"]),("tell",["box"]),("hear",["box"]),("jump",["goal"]),("zero",["box","goal"]),("halt",[])]
theorem kH(r:Row):KTD.datumAt r.wd df=some (r.mV.map Pk.kd):=by
 cases r with
 |two u a b=>exact (by decide +kernel:∀ u:_root_.Fin 3,KTD.datumAt (w2 u) df=some [("box":Str),"box"]) u
 |one u b=>exact (by decide +kernel:∀ u:_root_.Fin 2,KTD.datumAt (w1 u) df=some [("box":Str)]) u
 |put b n=>exact (by decide +kernel:KTD.datumAt ("put":Str) df=some [("box":Str),"number"])
 |jump g=>exact (by decide +kernel:KTD.datumAt ("jump":Str) df=some [("goal":Str)])
 |zero b g=>exact (by decide +kernel:KTD.datumAt ("zero":Str) df=some [("box":Str),"goal"])
 |halt=>exact (by decide +kernel:KTD.datumAt ("halt":Str) df=some ([]:List Str))
theorem yr:∀ ps:List Pk,kh ((ps.map Pk.kd).map L2.T.str) (ps.map Pk.t)=ps.map fun p=>.tup [.str p.kd,p.t]
 |[]=>rfl
 |p::ps=>LF (_::·) (yr ps)
noncomputable def Ht:List Str:=["a","b","c","d","e","f","g","h"]
theorem wq{b:Nat}(h:b<8):Ht[b]?=some (fM b)/\∀ m,m<b->Ht[m]?≠some (fM b):=(by decide +kernel:∀ b,b<8->Ht[b]?=some (fM b)/\∀ m,m<b->Ht[m]?≠some (fM b)) b h
theorem w6(a b:List (Nat×Nat)):cT (a++b)=cT a++cT b:=Lv
abbrev k4z(P w K mg base):=ae P w K mg base aT 1 "coded_things" ["row"] (spT K [false] qM)
theorem yD(T:Txt K mg)(F:HasFn K mg "coded_things" cy ["row"]):k4z P w K mg base:=by
 refine F.i4 bS [false] rfl (by decide) ?_;left;obtain⟨r,k,rfl,aD,q⟩:=h;refine⟨_,(Y.ai (Y.set (i:=1) bS.nd rfl (by right) (Y.lst (Y.cons (Y.tup (Y.cons (Y.kL rfl T.rd) (Y.cons (Y.IY K rfl rfl rfl T.jU rfl T.yY (Y.ix (Y.bw K rfl) Y.ar (Y.vS 0) Y.int)) Y.nil))) Y.nil)))
   (Y.ai (Y.e_ LQ rfl (Y.zip K rfl rfl T.sv (Y.cons (Y.Kq K rfl rfl T.jU (Y.ix (Y.bw K rfl) Y.ar (Y.vS 0) Y.int)) (Y.cons (Y.je K rfl (Y.vS 0) (Y.DR Y.int) Y.EF) Y.nil))) (Y.o8 (n:=2) K rfl rfl (Y.aW (Y.ax (i:=2) bS.nd rfl (by right)) (Y.aW (Y.ax (i:=3) bS.nd rfl (by right)) Y.eQ))) (Y.ay (Y.hW (Y.bD (Y.bP K rfl (LM hu)) Y.cZ (Y.vS 2) Y.str) (Y.ay (Y.expr (Y.bm K rfl PySem.F.slot_list_append PySem.F.type_list_append cc Y.cF (Y.vS 1) (Y.cons (Y.tup (Y.cons (Y.kL rfl T.pO) (Y.cons (Y.I_ K rfl rfl T.Az T.Bs (Y.vS 3)) Y.nil))) Y.nil)))) (Y.ay (Y.hW (Y.bD (Y.bP K rfl (LM hu)) Y.cZ (Y.vS 2) Y.str) (Y.ay (Y.expr (Y.bm K rfl PySem.F.slot_list_append PySem.F.type_list_append cc Y.cF (Y.vS 1) (Y.cons (Y.tup (Y.cons (Y.kL rfl T.mw) (Y.cons (Y.bits (Y.vS 3)) Y.nil))) Y.nil)))) Y.cW)))))
   (Y.ay (Y.ret (Y.vS 1))))),?_⟩
 rw[Row.DK];refine au fun N hN=>?_;rfl';refine⟨r.wi,(C7 r).1,(C7 r).2,by decide,by decide,?_⟩
 symm;have e1:=kH r;unfold df at e1;exists e1,yh;show Y.fo _ _ _ (kh ((r.mV.map Pk.kd).map L2.T.str) (r.mV.map Pk.t)) _;rw[yr];refine bT (fun rest μ=>∃(ps:List Pk) (l:List (Nat×Nat)) (o2 o3:Option L2.T),rest=ps.map (fun p=>.tup [.str p.kd,p.t])/\(∀ p∈ps,p.Ok)/\l.length+ps.length<=10/\cC r=l++ps.flatMap Pk.JP/\μ=[.tr (.tup (.str r.wd::r.mV.map Pk.t)),.bx (.lst (cT l)),sl o2,sl o3]) ⟨r.mV,[(0,r.wi)],none,none,rfl,Row.qD aD,by cases r<;>simp[Row.mV],rfl,rfl⟩ ?_ ?_
 ·rintro μ ⟨ps,l,o2,o3,e1,_,_,ea,rfl⟩;have e2:ps=[]:=ND.mp e1.symm;subst e2;rw[List.flatMap_nil,L3] at ea;rw[ea] at q;show N _;ac_rfl;rfl';exact q
 ·rintro t rest μ M ⟨ps,l,o2,o3,e1,hp,l10,ea,rfl⟩ k;obtain⟨p,ps',rfl,rfl,rfl⟩:=List.map_eq_cons_iff.mp e1.symm;have hp0:=hp p (Lj ..);have hp1:∀ q∈ps',q.Ok:=fun q hq=>hp q (Le _ hq);rw[KZ] at l10;clear hN q e1
  cases p with
  |box b =>
   show Y.FA _ _ (R.tr (.tup [.str "box",.str (fM b)])) _ _;exists (show (Str.ofString "box"=Str.ofString "box")=True from eq_true rfl),M1;refine⟨Ht,b,rfl,(wq hp0).1,(wq hp0).2,by decide,?_,?_⟩
   ·exact Lu (by unfold cT;rw[Ld];lia) (show 10<sizeLine by decide)
   refine k _ ⟨ps',l++[(2,b)],some (.str "box"),some (.str (fM b)),rfl,hp1,by rw[KW];simp only[KZ,LI];lia,by rw[ea,M0,Ly];rfl,by rw[w6];rfl⟩
  |num n =>
   show Y.FA _ _ (R.tr (.tup [.str "number",.int (n:Nat)])) _ _;have n1:(Str.ofString "number")≠(Str.ofString "box"):=by decide +kernel
   exists K_ n1,(show (Str.ofString "number"=Str.ofString "number")=True from eq_true rfl),M1;refine⟨by decide,?_,?_⟩
   ·exact Lu (by unfold cT;rw[Ld];lia) (show 10<sizeLine by decide)
   refine k _ ⟨ps',l++[(1,hZ n)],some (.str "number"),some (.int (n:Nat)),rfl,hp1,by rw[KW];simp only[KZ,LI];lia,by rw[ea,M0,Ly];rfl,by rw[w6];rfl⟩
  |goal n =>
   show Y.FA _ _ (R.tr (.tup [.str "goal",.int (n:Nat)])) _ _;have n1:(Str.ofString "goal")≠(Str.ofString "box"):=by decide +kernel
   have n2:(Str.ofString "goal")≠(Str.ofString "number"):=by decide +kernel
   exists K_ n1,K_ n2;exact k _ ⟨ps',l,some (.str "goal"),some (.int (n:Nat)),rfl,hp1,by lia,by rw[ea,M0];rfl,rfl⟩
theorem iX:∀(o:List Nat) (a:Option (List Nat)) (ws:List (List Nat)),(∀ t∈o,ln t<=40)->(∀ v,a=some v->v.length<=40)->(∀ x∈ws,x.length<=40)->∀ x∈(Cw.along Cw.ia ln o (a,ws)).2,x.length<=40
 |[],_,_,_,_,h=>h
 |t::o,a,ws,ho,ha,hw=>by
  have ht:=ho t Lj;have h2:=fun t h=>ho t (Le _ h)
  cases a with
  |none =>
   refine iX o (some (List.replicate (ln t) 48)) _ h2 (fun v e=>by cases e;rw[Lp];exact ht) fun x hx=>?_
   rcases NK hx with z|z
   ·exact hw x z
   ·rw[z,Lp];exact ht
  |some v =>
   have hv:=sP (ha v rfl) ht;refine iX o (some (Cw.ia v (ln t))) _ h2 (fun v e=>by cases e;exact hv) fun x hx=>?_
   rcases NK hx with z|z
   ·exact hw x z
   ·rw[z];exact hv
theorem y4(hL:nY ls):∀ x∈wordsOf Cw.ia ls,x.length<=40:=by
 refine iX _ _ _ (fun t ht=>?_) (fun v e=>by cases e) fun x hx=>by rw[(MV.mp hx).2];decide
 have h:=lS ht;have:=hL.2.2 _ (LL h);unfold dR;rw[Ls,KY h];show ls[t].toNat<=40;lia
theorem gW(ls:List Int):(wordsOf Cw.ia ls).length=ls.length:=(Cw.ft _ _).trans (Lp ..)
structure Cd (cd:List (List (List Nat))):Prop where
 ex:∃ a b c,cd=[a,b,c]/\a.length=9/\b.length=17/\c.length=8
 le:∀ ws∈cd,∀ x∈ws,x.length<=40
noncomputable def gg(cd:List (List (List Nat)))(p:Nat×Nat):List Nat:=(cd.getD p.1 []).getD p.2 []
noncomputable def se:Row->List Nat
 |.put _ n=>(rn n).tail
 |_=>[]
noncomputable def cS(cd:List (List (List Nat)))(r:Row):List Nat:=(cC r).flatMap (gg cd)++se r
noncomputable def Bk(bk:List (List Int)):Prop:=∃ a b c,bk=[a,b,c]/\a.length=9/\b.length=17/\c.length=8/\∀ l∈bk,nY l/\nG l=true
noncomputable def pN(bk:List (List Int)):L2.T:=.tup (bk.map fun l=>.tup (nI l))
noncomputable def dZ(bk:List (List Int)):List (List (List Nat)):=bk.map (wordsOf Cw.ia)
theorem Bk.cd{bk:List (List Int)}(h:Bk bk):Cd (dZ bk):=by
 obtain⟨a,b,c,rfl,h1,h2,h3,h4⟩:=h;refine⟨⟨_,_,_,rfl,by rw[gW,h1],by rw[gW,h2],by rw[gW,h3]⟩,fun ws hw=>?_⟩
 obtain⟨l,hl,rfl⟩:=LD.mp hw;exact y4 (h4 l hl).1
noncomputable def yw:dX:=fun args Q=>∃ bk:List (List Int),args=[pN bk]/\Bk bk/\Q (.fr (.lst ((dZ bk).map fun ws=>.tup (wT ws)))) []
noncomputable def xF:dX:=fun args Q=>∃ ls:List Int,args=[.tup (nI ls)]/\nY ls/\nG ls=true/\Q (.tr (.tup (wT (wordsOf Cw.ia ls)))) []
theorem yK(T:Txt K mg)(F:HasFn K mg "codes_of" d3 ["book"])(hcalm_code_of:ae P w K mg base aT 5 "code_of" ["lengths"] (spT K [false] xF)):ae P w K mg base aT 6 "codes_of" ["book"] (spT K [false] yw):=by
 refine F.i4 pj [false] rfl (by decide) ?_;left;obtain⟨bk,rfl,hB,q⟩:=h;obtain⟨a,b,c,e,h1,h2,h3,h4⟩:=hB;refine⟨_,(Y.ay (Y.ret (Y.ie (osc:=aa d3) (ON:=["book"]) (own:=["lengths"]) (N:=["lengths","book"]) ⟨rfl,by decide +kernel,rfl,by decide +kernel,by decide +kernel,by decide +kernel,by decide +kernel,by decide +kernel⟩ rfl rfl rfl rfl (Y.anyS K rfl (Y.vS 0)) (fun _ _ _ _=>(Z.ax (i:=0) (show List.Nodup (["lengths","book"]:List Str) by decide +kernel) rfl (by right))) (fun _ _ _ _=>Y.mZ) (fun _ _ _ _=>(Y.fn K rfl hcalm_code_of (hr.mono (by decide)) rfl aq (Y.cons (Y.vS 0) Y.nil)))))),?_⟩
 unfold pN;rfl';refine bj (fun rest acc μ=>∃(done todo:List (List Int)),done++todo=bk/\(rest=todo.map fun l=>L2.T.tup (nI l))/\(acc=(dZ done).map fun ws=>L2.T.tup (wT ws))/\μ=[.tr (pN bk)]) ⟨[],bk,rfl,rfl,rfl,rfl⟩ ?_ ?_
 ·rintro acc μ ⟨done,todo,e1,e2,rfl,rfl⟩;have e3:todo=[]:=by
   cases todo with
   |nil=>rfl
   |cons=>cases e2
  subst e3;rw[L3] at e1;subst e1;refine⟨trivial,?_⟩;rfl';exact q
 ·rintro t r acc μ M ⟨done,todo,e1,e2,rfl,rfl⟩ k
  cases todo with
  |nil=>cases e2
  |cons x todo =>
   obtain⟨rfl,rfl⟩:=List.cons.inj e2;have hx:=h4 x (by rw[<- e1];simp)
   have hd:done.length<=3:=by
    have:=LF List.length e1;rw[KW,e] at this;simp at this;lia
   refine⟨trivial,by unfold dZ;rw[Ld,Ld];exact Lu hd (by decide),?_⟩
   rfl';refine⟨x,rfl,hx.1,hx.2,?_⟩;rfl';refine k _ _ ⟨done++[x],todo,by rw[<- e1];simp,rfl,?_,rfl⟩
   unfold dZ;rw[Lv,Lv];rfl
theorem mC:∀ l:List (List Nat),(Str.ofString "").join (l.map wd)=wd l.flatten
 |[]=>rfl
 |[x]=>by simp[Str.join]
 |x::y::r=>by
  show wd x++Str.ofString ""++(Str.ofString "").join ((y::r).map wd)=_;rw[mC (y::r),nv,my,my,L3];rfl
theorem yf{r:Row}(h:r.Ok k):∀ p∈cC r,(p.1=0/\p.2<9)\/(p.1=1/\p.2<17)\/(p.1=2/\p.2<8):=by
 intro p hp;unfold cC at hp;rcases Ll.mp hp with rfl|hp
 ·exact .inl ⟨rfl,r.yP⟩
 ·obtain⟨q,hq,hp⟩:=List.mem_flatMap.mp hp;have:=Row.qD h q hq
  cases q with
  |box b=>rw[Ln.mp hp];exact .inr (.inr ⟨rfl,this⟩)
  |num n=>rw[Ln.mp hp];exact .inr (.inl ⟨rfl,iI this⟩)
  |goal n=>cases hp
theorem Cd.at{cd:List (List (List Nat))}(h:Cd cd)(hp:(p.1=0/\p.2<9)\/(p.1=1/\p.2<17)\/(p.1=2/\p.2<8)):cd[p.1]?=some (cd.getD p.1 [])/\(cd.getD p.1 [])[p.2]?=some (gg cd p)/\(gg cd p).length<=40:=by
 obtain⟨a,b,c,rfl,h1,h2,h3⟩:=h.ex;have key:∀(l:List (List Nat)) (i:Nat),i<l.length->l[i]?=some (l.getD i [])/\l.getD i []∈l:=fun l i hi=>by
  rw[Ls,KY hi];exact⟨rfl,LL hi⟩
 obtain⟨x,y⟩:=p;rcases hp with ⟨rfl,hy⟩|⟨rfl,hy⟩|⟨rfl,hy⟩
 ·have:=key a y (by rw[h1];exact hy)
  exact⟨rfl,this.1,h.le a (by simp) _ this.2⟩
 ·have:=key b y (by rw[h2];exact hy)
  exact⟨rfl,this.1,h.le b (by simp) _ this.2⟩
 ·have:=key c y (by rw[h3];exact hy)
  exact⟨rfl,this.1,h.le c (by simp) _ this.2⟩
theorem rN(r:Row):(cC r).length<=3:=by cases r<;>simp[cC,Row.mV,Pk.JP]
theorem jZ{cd:List (List (List Nat))}{r:Row}(hC:Cd cd)(h:r.Ok k):((cC r).flatMap (gg cd)).length<=120/\(se r).length<=16:=by
 refine⟨?_,?_⟩
 ·have:∀ l:List (Nat×Nat),(∀ p∈l,(gg cd p).length<=40)->(l.flatMap (gg cd)).length<=40*l.length:=fun l=>by
   induction l with
   |nil=>exact fun _=>Lf _
   |cons p l ih =>
    intro h;have h1:=h p Lj;have h2:=ih fun q hq=>h q (Le _ hq);rw[M0,KW,KZ];lia
  have h1:=this (cC r) fun p hp=>(hC.at (yf h p hp)).2.2;have h2:=rN r;lia
 ·cases r with
  |put b n =>
   have:=iI (n:=n) h.2;show (rn n).tail.length<=16;rw[List.length_tail];unfold rn;rw[lI];simp only[LI];lia
  |_=>exact LA _
noncomputable def CB:dX:=fun args Q=>∃(r:Row) (k:Nat) (cd:List (List (List Nat))),args=[r.t,.lst (cd.map fun ws=>.tup (wT ws))]/\r.Ok k/\Cd cd/\Q (.tr (.str (wd (cS cd r)))) []
abbrev k12z(P w K mg base):=ae P w K mg base aT 3 "bits_ahead_of_goal" ["row","codes"] (spT K [false,false] CB)
theorem wF(T:Txt K mg)(F:HasFn K mg "bits_ahead_of_goal" aI ["row","codes"])(hcoded_things:k4z P w K mg base)(hfigures_behind_first:k17z P w K mg base):k12z P w K mg base:=by
 refine F.i4 cD [false,false] rfl (by decide) ?_;left;obtain⟨r,k,cd,rfl,aD,hC,q⟩:=h;refine⟨_,(Y.ai (Y.set (i:=2) cD.nd rfl (by right) (Y.sm K rfl PySem.F.slot_str_join PySem.F.type_str_join (Y.oR K rfl) Y.tm Y.str (Y.cons (Y.C8 K rfl (osc:=aa aI) (ON:=["row","codes","bits"]) (own:=["which","thing"]) (N:=["which","thing","row","codes","bits"]) ⟨rfl,by decide +kernel,rfl,by decide +kernel,by decide +kernel,by decide +kernel,by decide +kernel,by decide +kernel⟩ rfl rfl rfl rfl (Y.anyS K rfl (Y.fn K rfl hcoded_things (hr.mono (by decide)) rfl aq (Y.cons (Y.vS 0) Y.nil))) (fun _ _ _ _=>(Z.pZ (n:=2) K rfl rfl (Z.aW (Z.ax (i:=0) (show List.Nodup (["which","thing","row","codes","bits"]:List Str) by decide +kernel) rfl (by right)) (Z.aW (Z.ax (i:=1) (show List.Nodup (["which","thing","row","codes","bits"]:List Str) by decide +kernel) rfl (by right)) Z.eQ)))) (fun _ _ _ _=>Y.mZ) (fun _ _ _ _=>(Y.ix (Y.bw K rfl) Y.ar (Y.ix (Y.bw K rfl) Y.ar (Y.vS 3) (Y.vS 0)) (Y.vS 1)))) Y.nil)))
   (Y.ay (Y.ret (Y.FP (Y.bD (Y.bP K rfl (LM hu)) Y.cZ (Y.ix (Y.bw K rfl) Y.ar (Y.vS 0) Y.int) Y.str) (Y.op (Y.aB K rfl) Y.aC (Y.vS 2) (Y.fn K rfl hfigures_behind_first (hr.mono (by decide)) rfl aq (Y.cons (Y.ix (Y.bw K rfl) Y.ar (Y.vS 0) (Y.neg Y.int)) Y.nil))) (Y.vS 2))))),?_⟩
 refine au fun N hN=>?_;rfl';refine⟨r,k,rfl,aD,?_⟩;rfl';refine bj (fun rest acc μ=>∃(done todo:List (Nat×Nat)),done++todo=cC r/\rest=cT todo/\(acc=(done.map (gg cd)).map fun x=>L2.T.str (wd x))/\μ=[.tr r.t,.tr (.lst (cd.map fun ws=>.tup (wT ws))),.un]) ⟨[],cC r,rfl,rfl,rfl,rfl⟩ ?_ ?_
 ·rintro acc μ ⟨done,todo,e1,e2,rfl,rfl⟩;have e3:todo=[]:=by
   cases todo with
   |nil=>rfl
   |cons=>cases e2
  subst e3;rw[L3] at e1;subst e1;refine⟨trivial,?_⟩;rfl';refine⟨((cC r).map (gg cd)).map wd,by rw[Ml (g:=L2.T.str)];rfl,?_,?_⟩
  ·have e:(((cC r).map (gg cd)).map wd).map (fun x=>x.length)=((cC r).map (gg cd)).map List.length:=by
    rw[Ml];exact M4 fun x _=>cA x
   rw[e,<- List.length_flatten,<- List.flatMap_def,nv,cA];have:=(jZ hC aD).1;simp only[LI,Nat.mul_zero];lia
  rw[mC,<- List.flatMap_def];ac_rfl;have hh:=jZ hC aD;have other:r.wd≠"put"->se r=[]->Y.vn (Y.Hb (Y.lM (Y.vN (Y.uR (Y.GA false)) (Y.vN Y.wu (Y.jg 0) (Y.uC (L2.T.int 0))) (Y.uC (L2.T.str (Str.ofString "put"))))) (Y.vN Y.tP (Y.jg 2) (Y.Eh [false] E8 (Y.o_ (Y.vN Y.wu (Y.jg 0) (Y.zy (Y.uC (L2.T.int 1)))) Y.ve))) (Y.jg 2)) (vd [false,false] Qt) [Sl.tr r.t,Sl.tr (L2.T.lst (List.map (fun ws=>L2.T.tup (wT ws)) cd)),Sl.tr (L2.T.str (wd ((cC r).flatMap (gg cd))))]:=fun n1 n2=>by
   have q':=q;unfold cS at q';rw[n2,L3] at q';rw[Row.DK];exists K_ n1;exact q'
  cases r with
  |put b n =>
   have a2:b9 [L2.T.str (Str.ofString "put"),L2.T.str (fM b),L2.T.int (n:Nat)] (-1)=some (.int (n:Nat)):=rfl;show Y.vn _ _ [Sl.tr (.tup [L2.T.str (Str.ofString "put"),L2.T.str (fM b),L2.T.int (n:Nat)]),_,_];exists (show (Str.ofString "put"=Str.ofString "put")=True from eq_true rfl),M1,a2;refine⟨n,rfl,aD.2,?_⟩;rfl';rw[cA,cA,my];exact⟨Lr (show _<=200 by have h1:=hh.1;have h2:(rn n).tail.length<=16:=hh.2;lia) (by decide),q⟩
  |two u a b=>exact other ((by decide +kernel:∀ u,w2 u≠"put") u) rfl
  |one u b=>exact other ((by decide +kernel:∀ u,w1 u≠"put") u) rfl
  |jump g=>exact other (show Str.ofString "jump"≠Str.ofString "put" by decide +kernel) rfl
  |zero b g=>exact other (show Str.ofString "zero"≠Str.ofString "put" by decide +kernel) rfl
  |halt=>exact other (by decide +kernel) rfl
 ·rintro t rs acc μ M ⟨done,todo,e1,e2,rfl,rfl⟩ kk
  cases todo with
  |nil=>cases e2
  |cons p todo =>
   obtain⟨rfl,rfl⟩:=List.cons.inj e2;obtain⟨a1,a2,a3⟩:=hC.at (yf aD p (by rw[<- e1];simp))
   have hd:done.length<=3:=by
    have:=LF List.length e1;have:=rN r;rw[KW] at *;lia
   have b1:b9 (cd.map fun ws=>L2.T.tup (wT ws)) (p.1:Int)=some (.tup (wT (cd.getD p.1 []))):=b6 (by rw[Lw,a1];rfl)
   have b2:b9 (wT (cd.getD p.1 [])) (p.2:Int)=some (.str (wd (gg cd p))):=b6 (by unfold wT;rw[Lw,a2];rfl)
   refine⟨trivial,by rw[Ld,Ld];exact Lu hd (by decide),?_⟩
   exists b1,b2;refine kk _ _ ⟨done++[p],todo,by rw[<- e1];simp,rfl,?_,rfl⟩
   rw[Lv,Lv];rfl
noncomputable def tq:Row->Option Nat
 |.jump g=>some g
 |.zero _ g=>some g
 |_=>none
noncomputable def rT(rs:List Row):List L2.T:=rs.map Row.t
theorem jC(rs:List Row):(rT rs).length=rs.length:=Ld ..
noncomputable def C3:dX:=fun args Q=>∃ r:Row,args=[r.t]/\Q (.tr (oI (tq r))) []
theorem zU(T:Txt K mg)(F:HasFn K mg "goal_of" fA ["row"]):ae P w K mg base aT 1 "goal_of" ["row"] (spT K [false] C3):=by
 refine F.i4 qN [false] rfl (by decide) ?_;left;obtain⟨r,rfl,q⟩:=h;refine⟨_,(Y.ay (Y.ret (Y.FP (Y.bD (Y.r9 K rfl) Y.zI Y.str (Y.Kq K rfl rfl T.jU (Y.ix (Y.bw K rfl) Y.ar (Y.vS 0) Y.int))) (Y.ix (Y.bw K rfl) Y.ar (Y.vS 0) (Y.neg Y.int)) Y.aw))),?_⟩;rw[Row.DK];have e1:=kH r;unfold df at e1;exists e1;refine⟨rfl,?_,?_⟩
 ·rw[MM];intro x hx;obtain⟨z,_,rfl⟩:=LD.mp hx;rfl
 have two:(Y.i7 (L2.T.str (Str.ofString "goal")) ((r.mV.map Pk.kd).map L2.T.str)=false/\tq r=none)\/(Y.i7 (L2.T.str (Str.ofString "goal")) ((r.mV.map Pk.kd).map L2.T.str)=true/\b9 (.str r.wd::r.mV.map Pk.t) (-1)=some (oI (tq r))):=by
  cases r with
  |put b n=>exact .inl ⟨show Y.i7 (L2.T.str (Str.ofString "goal")) [L2.T.str (Str.ofString "box"),L2.T.str (Str.ofString "number")]=false by decide +kernel,rfl⟩
  |two u a b=>exact .inl ⟨show Y.i7 (L2.T.str (Str.ofString "goal")) [L2.T.str (Str.ofString "box"),L2.T.str (Str.ofString "box")]=false by decide +kernel,rfl⟩
  |one u b=>exact .inl ⟨show Y.i7 (L2.T.str (Str.ofString "goal")) [L2.T.str (Str.ofString "box")]=false by decide +kernel,rfl⟩
  |jump g=>exact .inr ⟨show Y.i7 (L2.T.str (Str.ofString "goal")) [L2.T.str (Str.ofString "goal")]=true by decide +kernel,rfl⟩
  |zero b g=>exact .inr ⟨show Y.i7 (L2.T.str (Str.ofString "goal")) [L2.T.str (Str.ofString "box"),L2.T.str (Str.ofString "goal")]=true by decide +kernel,rfl⟩
  |halt=>exact .inl ⟨show Y.i7 (L2.T.str (Str.ofString "goal")) []=false by decide +kernel,rfl⟩
 rcases two with ⟨n1,n2⟩|⟨n1,n2⟩
 ·rw[n1,K_ (by decide)]
  rw[n2] at q;exact q
 ·rw[n1,Lg rfl,n2];exact q
noncomputable def d4(hs:List (List Nat)):List Int:=hs.map fun x=>(x.length:Int)
structure Hx (rs:List Row) (cd:List (List (List Nat))):Prop where
 le:rs.length<=60
 ok:∀ r∈rs,r.Ok rs.length
 cd:Cd cd
 st:∀ r∈rs,r.st=true
theorem Hx.sz{rs:List Row}{cd:List (List (List Nat))}(h:Hx rs cd):∀ x∈d4 (rs.map (cS cd)),0<=x/\x<=150:=fun x hx=>by
 obtain⟨y,hy,rfl⟩:=LD.mp hx;obtain⟨r,hr,rfl⟩:=LD.mp hy;have:=jZ h.cd (h.ok r hr);unfold cS;rw[KW];lia
theorem Bf{r:Row}(h:r.st=true):tq r=none:=by cases r<;>first|rfl|cases h
noncomputable def sC:dX:=fun args Q=>∃(rs:List Row) (bk:List (List Int)),args=[.tup (rT rs),pN bk]/\Bk bk/\Hx rs (dZ bk)/\Q (.tr (.tup [.str (wd (rs.map (cS (dZ bk))).flatten),.tup (nI (DG (d4 (rs.map (cS (dZ bk))))).dropLast)])) []
abbrev k2z(P w K mg base):=ae P w K mg base aT 7 "pack_rows" ["program","book"] (spT K [false,false] sC)
theorem B7(T:Txt K mg)(F:HasFn K mg "pack_rows" bL ["program","book"])(hcodes_of:ae P w K mg base aT 6 "codes_of" ["book"] (spT K [false] yw))(hbits_ahead_of_goal:k12z P w K mg base)(hgoal_of:ae P w K mg base aT 1 "goal_of" ["row"] (spT K [false] C3))(hcalm_least_widths:ae P w K mg base aT 5 "least_widths" ["sizes","goals"] (spT K [false,false] Hw))
  (hrow_starts:k1z P w K mg base) (hdistance_of:ae P w K mg base aT 1 "distance_of" ["starts","goals","row"] (spT K [false,false,false] IM)) (hjump_written:ae P w K mg base aT 2 "jump_written" ["width","distance"] (spT K [false,false] IM)):k2z P w K mg base:=by
 refine F.i4 aH [false,false] rfl (by decide) ?_;left;obtain⟨rs,bk,rfl,hB,hP,q⟩:=h;refine⟨_,(Y.ai (Y.G2 (i:=2) aH.nd rfl (by right) (Y.fn K rfl hcodes_of (hr.mono (by decide)) rfl aq (Y.cons (Y.vS 1) Y.nil)))
   (Y.ai (Y.qy (j:=3) aH.nd rfl (by right) (osc:=aa bL) (ON:=["program","book","codes","firsts","sizes","goals","widths","starts","bits","row","first"]) (own:=["row"]) (N:=["row","program","book","codes","firsts","sizes","goals","widths","starts","bits",".row","first"]) ⟨rfl,by decide +kernel,rfl,by decide +kernel,by decide +kernel,by decide +kernel,by decide +kernel,by decide +kernel⟩ rfl rfl rfl rfl (Y.anyS K rfl (Y.vS 0)) (fun _ _ _ _=>(Z.ax (i:=0) (show List.Nodup (["row","program","book","codes","firsts","sizes","goals","widths","starts","bits",".row","first"]:List Str) by decide +kernel) rfl (by right))) (fun _ _ _ _=>Y.mZ) (fun _ _ _ _=>(Y.fn K rfl hbits_ahead_of_goal (hr.mono (by decide)) rfl aq (Y.cons (Y.vS 0) (Y.cons (Y.vS 3) Y.nil)))))
   (Y.ai (Y.qy (j:=4) aH.nd rfl (by right) (osc:=aa bL) (ON:=["program","book","codes","firsts","sizes","goals","widths","starts","bits","row","first"]) (own:=["first"]) (N:=["first","program","book","codes","firsts","sizes","goals","widths","starts","bits","row",".first"]) ⟨rfl,by decide +kernel,rfl,by decide +kernel,by decide +kernel,by decide +kernel,by decide +kernel,by decide +kernel⟩ rfl rfl rfl rfl (Y.anyS K rfl (Y.vS 3)) (fun _ _ _ _=>(Z.ax (i:=0) (show List.Nodup (["first","program","book","codes","firsts","sizes","goals","widths","starts","bits","row",".first"]:List Str) by decide +kernel) rfl (by right))) (fun _ _ _ _=>Y.mZ) (fun _ _ _ _=>(Y.cb (Y.az K rfl) Y.aN rfl T.cu (by decide +kernel) (Y.cons (Y.vS 0) Y.nil))))
   (Y.ai (Y.qy (j:=5) aH.nd rfl (by right) (osc:=aa bL) (ON:=["program","book","codes","firsts","sizes","goals","widths","starts","bits","row","first"]) (own:=["row"]) (N:=["row","program","book","codes","firsts","sizes","goals","widths","starts","bits",".row","first"]) ⟨rfl,by decide +kernel,rfl,by decide +kernel,by decide +kernel,by decide +kernel,by decide +kernel,by decide +kernel⟩ rfl rfl rfl rfl (Y.anyS K rfl (Y.vS 0)) (fun _ _ _ _=>(Z.ax (i:=0) (show List.Nodup (["row","program","book","codes","firsts","sizes","goals","widths","starts","bits",".row","first"]:List Str) by decide +kernel) rfl (by right))) (fun _ _ _ _=>Y.mZ) (fun _ _ _ _=>(Y.fn K rfl hgoal_of (hr.mono (by decide)) rfl aq (Y.cons (Y.vS 0) Y.nil))))
   (Y.ai (Y.set (i:=6) aH.nd rfl (by right) (Y.fn K rfl hcalm_least_widths (hr.mono (by decide)) rfl aq (Y.cons (Y.vS 4) (Y.cons (Y.vS 5) Y.nil))))
   (Y.ai (Y.G2 (i:=7) aH.nd rfl (by right) (Y.fn K rfl hrow_starts (hr.mono (by decide)) rfl aq (Y.cons (Y.vS 4) (Y.cons (Y.vS 6) Y.nil))))
   (Y.ai (Y.set (i:=8) aH.nd rfl (by right) (Y.lst Y.nil))
   (Y.ai (Y.e_ LQ rfl (Y.CK K rfl rfl T.eZ (Y.cons (Y.vS 3) Y.nil)) (Y.o8 (n:=2) K rfl rfl (Y.aW (Y.ax (i:=9) aH.nd rfl (by right)) (Y.aW (Y.ax (i:=10) aH.nd rfl (by right)) Y.eQ))) (Y.ai (Y.expr (Y.bm K rfl PySem.F.slot_list_append PySem.F.type_list_append cc Y.cF (Y.vS 8) (Y.cons (Y.vS 10) Y.nil)))
   (Y.ay (Y.hW (Y.bD m6 Y.m8 (Y.ix (Y.bw K rfl) Y.ar (Y.vS 5) (Y.vS 9)) Y.aw) (Y.ay (Y.expr (Y.bm K rfl PySem.F.slot_list_append PySem.F.type_list_append cc Y.cF (Y.vS 8) (Y.cons (Y.fn K rfl hjump_written (hr.mono (by decide)) rfl aq (Y.cons (Y.ix (Y.bw K rfl) Y.ar (Y.vS 6) (Y.vS 9)) (Y.cons (Y.fn K rfl hdistance_of (hr.mono (by decide)) rfl aq (Y.cons (Y.vS 7) (Y.cons (Y.vS 5) (Y.cons (Y.vS 9) Y.nil)))) Y.nil))) Y.nil)))) Y.cW))))
   (Y.ay (Y.ret (Y.tup (Y.cons (Y.sm K rfl PySem.F.slot_str_join PySem.F.type_str_join (Y.oR K rfl) Y.tm Y.str (Y.cons (Y.vS 8) Y.nil)) (Y.cons (Y.ct (Y.bY K rfl) Y.cU rfl T.cN (by decide +kernel) (Y.cons (Y.je K rfl (Y.vS 7) Y.EF (Y.DR (Y.neg Y.int))) Y.nil)) Y.nil))))))))))))),?_⟩
 refine au fun N hN=>?_;rfl';refine⟨bk,rfl,hB,?_⟩;rfl';ac_rfl;have hcd:=hB.cd;generalize dZ bk=cd at *;obtain⟨ct,ect⟩:∃ ct,ct=L2.T.lst (cd.map fun ws=>L2.T.tup (wT ws)):=⟨_,rfl⟩;rw[<- ect];refine au fun N hN=>?_;rfl';refine bj (fun rest acc μ=>∃(done todo:List Row),done++todo=rs/\rest=rT todo/\acc=wT (done.map (cS cd))/\μ=[.tr (.tup (rT rs)),.tr (pN bk),.tr ct,.un,.un,.un,.un,.un,.un,.un,.un]) ⟨[],rs,rfl,rfl,rfl,rfl⟩ ?_ ?_
 case refine_2 =>
  rintro t r acc μ M ⟨done,todo,e1,e2,rfl,rfl⟩ k
  cases todo with
  |nil=>cases e2
  |cons x todo =>
   obtain⟨rfl,rfl⟩:=List.cons.inj e2;have hd:done.length<=60:=by
    have:=LF List.length e1;have:=hP.le;rw[KW] at *;lia
   refine⟨trivial,by rw[fT,Ld];exact Lu hd (by decide),?_⟩
   rfl';refine⟨x,rs.length,cd,by rw[ect],hP.ok x (by rw[<- e1];simp),hcd,?_⟩
   rfl';refine k _ _ ⟨done++[x],todo,by rw[<- e1];simp,rfl,?_,rfl⟩
   rw[Lv];unfold wT;rw[Lv];rfl
 rintro acc μ ⟨done,todo,e1,e2,rfl,rfl⟩;have e3:todo=[]:=ND.mp e2.symm;subst e3;rw[L3] at e1;subst e1;refine⟨trivial,?_⟩;rfl';ac_rfl;have hsz:=hP.sz;have h60:=hP.le;have hhl:(done.map (cS cd)).length=done.length:=Ld ..;generalize ehs:done.map (cS cd)=hs at *;have hsl:(d4 hs).length=done.length:=by unfold d4;rw[Ld,hhl]
 refine au fun N hN=>?_;rfl';refine bj (fun rest acc μ=>∃(d t:List (List Nat)),d++t=hs/\rest=wT t/\acc=nI (d4 d)/\μ=[.tr (.tup (rT done)),.tr (pN bk),.tr ct,.tr (.lst (wT hs)),.un,.un,.un,.un,.un,.un,.un]) ⟨[],hs,rfl,rfl,rfl,rfl⟩ ?_ ?_
 case refine_2 =>
  rintro t r acc μ M ⟨d,td,e1,e2,rfl,rfl⟩ k
  cases td with
  |nil=>cases e2
  |cons x td =>
   obtain⟨rfl,rfl⟩:=List.cons.inj e2;have hd:d.length<=60:=by
    have:=LF List.length e1;rw[KW] at this;lia
   have hx:x.length<=150:=by
    have:=hsz (x.length:Int) (LD.mpr ⟨x,by rw[<- e1];simp,rfl⟩)
    lia
   refine⟨trivial,by rw[aR];unfold d4;rw[Ld];exact Lu hd (by decide),?_⟩
   exists cA;refine⟨Lr (show _<=150 by lia) (by decide),k _ _ ⟨d++[x],td,by rw[<- e1];simp,rfl,?_,rfl⟩⟩
   unfold d4;rw[Lv,gY];rfl
 rintro acc μ ⟨d,td,e1,e2,rfl,rfl⟩;have e3:td=[]:=ND.mp e2.symm;subst e3;rw[L3] at e1;subst e1;refine⟨trivial,?_⟩;rfl';symm;rfl';refine bj (fun rest acc μ=>∃(x y:List Row),x++y=done/\rest=rT y/\acc=bO x.length/\μ=[.tr (.tup (rT done)),.tr (pN bk),.tr ct,.tr (.lst (wT d)),.tr (.lst (nI (d4 d))),.un,.un,.un,.un,.un,.un]) ⟨[],done,rfl,rfl,rfl,rfl⟩ ?_ ?_
 case refine_2 =>
  rintro t r acc μ M ⟨x,y,e1,e2,rfl,rfl⟩ k
  cases y with
  |nil=>cases e2
  |cons z y =>
   obtain⟨rfl,rfl⟩:=List.cons.inj e2;have hd:x.length<=60:=by
    have:=LF List.length e1;rw[KW] at this;lia
   refine⟨trivial,by rw[jV];exact Lu hd (by decide),?_⟩
   have hz:=Bf (hP.st z (by rw[<- e1];simp))
   rfl';refine⟨z,rfl,?_⟩;rw[hz];exists oI;refine k _ _ ⟨x++[z],y,by rw[<- e1];simp,rfl,?_,rfl⟩
   unfold bO;rw[KW,LO,N9]
 rintro acc μ ⟨x,y,e1,e2,rfl,rfl⟩;have e3:y=[]:=ND.mp e2.symm;subst e3;rw[L3] at e1;subst e1;refine⟨trivial,?_⟩;rfl';symm;rfl';refine⟨d4 d,by rw[hsl],by rw[hsl];exact h60,?_⟩
 rw[hsl];rfl';symm;rfl';refine⟨d4 d,_,rfl,.inl (by rw[hsl]),by rw[hsl];exact h60,?_⟩
 rfl';ac_rfl;obtain⟨Pl,ePl⟩:∃ Pl,Pl=DG (d4 d):=⟨_,rfl⟩;rw[<- ePl] at q ⊢;refine au fun N hN=>?_;rfl';symm;rfl';have hdl:d.length=x.length:=hhl;have hdx:∀ i,i<x.length->(d.getD i []).length<=150:=fun i hi=>by
  have h1:i<d.length:=by lia
  have:=hsz ((d.getD i []).length:Int) (LD.mpr ⟨d.getD i [],by rw[Ls,KY h1];exact LL h1,rfl⟩)
  lia
 refine bT (fun rest μ=>∃(i:Nat) (o9 o10:Option L2.T),rest=(pairs (wT d)).drop i/\i<=x.length/\μ=[.tr (.tup (rT x)),.tr (pN bk),.tr ct,.tr (.lst (wT d)),.tr (.lst (nI (d4 d))),.tr (.lst (bO x.length)),.tr (.tup (bO x.length)),.tr (.lst (nI Pl)),.bx (.lst (wT (d.take i))),sl o9,sl o10]) ⟨0,none,none,rfl,LA _,rfl⟩ ?_ ?_
 ·rintro μ ⟨i,o9,o10,e,hi,rfl⟩;have hi2:i=x.length:=by
   rcases M5 i x.length with z|z
   ·rw[LJ (by rw[mX,fT];lia)] at e
    cases e
   ·lia
  subst hi2;rw[MQ (by lia)]
  show N _;ac_rfl;rfl';have ecut:Y.bM (nI Pl) none (some (-1))=nI Pl.dropLast:=by
   rw[Aq];unfold Y.bM;rw[HT.fb,Nb,N1,PF];congr 2;show (if (-1:Int)<0 then ((-1:Int)+(Pl.length:Int)).toNat else min (-1:Int).toNat Pl.length)=_
   rw[Lg (by decide)]
   lia
  refine⟨d.map wd,by unfold wT;rw[Ml];rfl,?_,by decide,?_⟩
  ·have e:(d.map wd).map (fun x=>x.length)=d.map List.length:=by
    rw[Ml];exact M4 fun x _=>cA x
   have hfl:∀ l:List (List Nat),(∀ y∈l,y.length<=150)->l.flatten.length<=150*l.length:=fun l=>by
    induction l with
    |nil=>exact fun _=>Lf _
    |cons p l ih =>
     intro h;have h1:=h p Lj;have h2:=ih fun q hq=>h q (Le _ hq);rw[LX,KW,KZ];lia
   have:=hfl d fun y hy=>by
    have:=hsz (y.length:Int) (LD.mpr ⟨y,hy,rfl⟩);lia
   rw[e,<- List.length_flatten,nv,cA];simp only[LI,Nat.mul_zero];lia
  rw[mC,ecut];exact q
 ·rintro t ts μ M ⟨i,o9,o10,e,hi,rfl⟩ k;have hi2:i<x.length:=by
   rcases M5 i x.length with z|z
   ·exact z
   ·rw[P9 (by rw[mX,fT];lia)] at e;cases e
  have hid:i<d.length:=by lia
  have ep:(pairs (wT d))[i]?=some (.tup [.int (i:Nat),.str (wd d[i])]):=by
   unfold pairs;rw[Lw,fT,ML hid];show some (L2.T.tup [.int (i:Nat),((wT d)[i]?).getD .aw])=_;unfold wT;rw[Lw,KY hid];rfl
  obtain⟨hp1,hp2⟩:=Li.mp ep;rw[LJ hp1,hp2] at e;obtain⟨rfl,rfl⟩:=List.cons.inj e;clear e;have ag:b9 (bO x.length) (i:Int)=some .aw:=b6 (by unfold bO;rw[Mz,Lg hi2])
  rfl';refine au fun M2 h2=>?_;rfl';have wa:wT (d.take i)++[L2.T.str (wd d[i])]=wT (d.take (i+1)):=by
   rw[OM,KY hid];unfold wT;rw[Lv];rfl
  rw[wa,fT,LR];refine⟨Lu (show _<=60 by lia) (by decide),?_⟩
  refine h2 _ ?_;clear h2 M2;exists ag;exact k _ ⟨i+1,some _,some _,rfl,hi2,rfl⟩
noncomputable def fG(l:List Int)(i:Nat)(c:Int):List Int:=l.set i (l.getD i 0+c)
noncomputable def oo(l:List Int)(is:List Nat)(c:Int):List Int:=is.foldl (fun l i=>fG l i c) l
noncomputable def Row.cls:Row->List Nat
 |.put _ n=>[hZ n]
 |_=>[]
noncomputable def Row.KI:Row->List Nat
 |.put b _=>[b]
 |.two _ a b=>[a,b]
 |.one _ b=>[b]
 |.jump _=>[]
 |.zero b _=>[b]
 |.halt=>[]
structure eN where
 w:List Int
 c:List Int
 b:List Int
noncomputable def eN.row(s:eN)(r:Row)(c:Int):eN:=⟨fG s.w r.wi c,oo s.c r.cls c,oo s.b r.KI c⟩
noncomputable def counted:List Row->List Int->eN->eN
 |r::rs,c::cs,s=>counted rs cs (s.row r c)
 |_,_,s=>s
noncomputable def dW:eN:=⟨List.replicate 9 0,List.replicate 17 0,List.replicate 8 0⟩
theorem fk(l:List Int)(i:Nat)(c:Int):(fG l i c).length=l.length:=Mm
theorem gX:∀(is:List Nat) (l:List Int) (c:Int),(oo l is c).length=l.length
 |[],_,_=>rfl
 |i::is,l,c=>by show (oo (fG l i c) is c).length=_;rw[gX is,fk]
theorem tS{l:List Int}{c:Int}(h:∀ x∈l,0<=x)(hc:0<=c):∀ x∈fG l i c,0<=x:=fun x hx=>by
 rcases NK hx with hx|hx
 ·exact h x hx
 ·have:0<=l.getD i 0:=by
   rw[Ls]
   cases e:l[i]? with
   |none=>exact MR 0
   |some y=>exact h y (Mx e)
  lia
theorem jW:∀(is:List Nat) {l:List Int} {c:Int},(∀ x∈l,0<=x)->0<=c->∀ x∈oo l is c,0<=x
 |[],_,_,h,_=>h
 |i::is,l,c,h,hc=>jW is (tS (i:=i) h hc) hc
structure eN.Ok (s:eN):Prop where
 lw:s.w.length=9
 lc:s.c.length=17
 lb:s.b.length=8
 nw:∀ x∈s.w,0<=x
 nc:∀ x∈s.c,0<=x
 nb:∀ x∈s.b,0<=x
theorem eN.Ok.row{s:eN}(h:s.Ok)(r:Row){c:Int}(hc:0<=c):(s.row r c).Ok:=
 ⟨by rw[<- h.lw];exact fk _ _ _,by rw[<- h.lc];exact gX _ _ _,by rw[<- h.lb];exact gX _ _ _,tS h.nw hc,jW _ h.nc hc,jW _ h.nb hc⟩
theorem mH:dW.Ok:=⟨rfl,rfl,rfl,by decide,by decide,by decide⟩
theorem eM:∀(rs:List Row) (cs:List Int) {s:eN},s.Ok->(∀ x∈cs,0<=x)->(counted rs cs s).Ok
 |[],_,_,h,_=>h
 |_::_,[],_,h,_=>h
 |r::rs,c::cs,_,h,hc=>eM rs cs (h.row r (hc c (Lj ..))) fun x hx=>hc x (Le _ hx)
noncomputable def eN.add(s:eN)(p:Nat×Nat)(c:Int):eN:=if p.1=0 then {s with w:=fG s.w p.2 c} else if p.1=1 then {s with c:=fG s.c p.2 c} else {s with b:=fG s.b p.2 c}
theorem r_(s:eN)(r:Row)(c:Int):(cC r).foldl (fun s p=>s.add p c) s=s.row r c:=by cases r<;>rfl
local macro_rules | `(tactic| walk_at "rz") => do
  let ids := ("Nat.reduceAdd Nat.reduceSub Nat.reduceLeDiff L2.Ap.v5 L2.Ap.tC L2.Ap.vI L2.Ap.ju L2.Ap.gf L2.Ap.xK L2.Ap.fI L2.Ap.vO L2.Ap.j6 L2.Ap.bC L2.Ap.zJ L2.Ap.oK L2.Ap.eR L2.Ap.oY L2.Ap.xS L2.Ap.zt Au xt L2.Ap.BW L2.Ap.Dl L2.start Ha GZ HC HJ List.map_cons List.map_nil List.length_cons List.length_nil List.replicate List.cons_append List.nil_append List.append_nil List.getElem?_cons_zero List.getElem?_cons_succ List.set_cons_zero List.set_cons_succ Option.some.injEq exists_eq_left' V.ref.injEq List.cons.injEq and_true true_and decide_eq_true_eq Bool.not_eq_true' Bool.false_eq_true L2.Ap.oB L2.Ap.yt".splitOn " ").toArray.map fun n => Lean.mkIdent n.toName
  `(tactic| simp only [↓reduceIte, $[$ids:ident],*])
noncomputable def iV(xs:List Int):List V:=xs.map V.int
theorem f_:∀{xs:List Int} {vs:List V},ak K H B vs (nI xs)->vs=iV xs
 |[],_,r=>by cases r;rfl
 |x::xs,_,r=>by
  cases r with
  |cons h r=>cases h;rw[f_ r];rfl
theorem oW:∀ xs:List Int,ak K H B (iV xs) (nI xs)
 |[]=>.nil
 |x::xs=>.cons (.int x) (oW xs)
theorem lX:∀{ts:List L2.T} {vs:List V},ak K H B vs ts->∀{i:Nat} {t:L2.T},ts[i]?=some t->∃ v,vs[i]?=some v/\Rep K H B v t
 |[],_,_,i,t,e=>by simp at e
 |u::ts,_,r,i,t,e=>by
  cases r with
  |cons h r =>
   cases i with
   |zero=>cases e;exact⟨_,rfl,h⟩
   |succ i=>exact lX r (by simpa using e)
theorem lF{v:V}{t:L2.T}:∀{ts:List L2.T} {vs:List V},ak K H B vs ts->Rep K H B v t->ak K H B (vs++[v]) (ts++[t])
 |[],_,r,h=>by cases r;exact .cons h .nil
 |u::ts,_,r,h=>by
  cases r with
  |cons h' r=>exact .cons h' (lF r h)
theorem iQ:∀{ts:List L2.T} {vs:List V},ak K H B vs ts->vs.length=ts.length
 |[],_,r=>by cases r;rfl
 |u::ts,_,r=>by
  cases r with
  |cons h' r=>rw[KZ,KZ,iQ r]
noncomputable def x5(z:eN):L2.T:=.tup [.tup (nN (aA z.w 12)),.tup (nN (aA z.c 12)),.tup (nN (aA z.b 12))]
noncomputable def B_:dX:=fun args Q=>∃ cs:List Int,args=[.tup (nI cs),.int 12]/\1<=cs.length/\cs.length<=20/\Q (.tr (.tup (nN (aA cs 12)))) []
theorem J5{C:Addr}(args:List L2.T)(Q:R->List L2.T->Prop)(h:B_ args Q):zE C args Q fun _=>False:=by
 obtain⟨cs,rfl,h1,h2,q⟩:=h;refine⟨cs,12,rfl,h1,h2,by decide,by decide,.inl ⟨?_,q⟩⟩
 unfold qu;exact Mi ⟨by decide,Lr h2 (by decide)⟩
noncomputable def rJ:dX:=fun args Q=>∃(rs:List Row) (cs:List Int),args=[.tup (rT rs),.tup (nI cs)]/\rs.length=cs.length/\rs.length<=60/\(∀ r∈rs,r.Ok 60)/\Q (.tr (x5 (counted rs cs dW))) []
theorem lC:∀ n:Nat,(List.replicate n [V.int 0]).flatten=iV (List.replicate n 0)
 |0=>rfl
 |n+1=>by
  rw[LC,LX,lC n];rfl
structure MB (H:Hp) (D p0 p1 p2:Addr) (z:eN):Prop where
 oD:H D=some (.lst [.ref p0,.ref p1,.ref p2])
 o0:H p0=some (.lst (iV z.w))
 o1:H p1=some (.lst (iV z.c))
 o2:H p2=some (.lst (iV z.b))
structure MN (D p0 p1 p2:Addr):Prop where
 d0:D≠p0
 d1:D≠p1
 d2:D≠p2
 Kz:p0≠p1
 Kj:p0≠p2
 Kn:p1≠p2
theorem MB.kb{H':Hp}{D:Addr}{z:eN}(m:MB H D p0 p1 p2 z)(k:KB [] H H'):MB H' D p0 p1 p2 z:=⟨k _ _ m.oD (by simp),k _ _ m.o0 (by simp),k _ _ m.o1 (by simp),k _ _ m.o2 (by simp)⟩
theorem MB.out{D q:Addr}{z:eN}(m:MB H D p0 p1 p2 z)(h:H q=none\/∃ t,H q=some (.tup t)):q∉[p0,p1,p2]:=by
 have key:∀ p l,H p=some (.lst l)->q≠p:=fun p l e z=>by
  subst z;rcases h with h|⟨t,h⟩
  ·rw[h] at e;cases e
  ·rw[h] at e;cases e
 simp only[Ll,LK,M9,not_or];exact⟨key _ _ m.o0,key _ _ m.o1,key _ _ m.o2⟩
theorem MB.at{D:Addr}{z:eN}(m:MB H D p0 p1 p2 z)(n:MN D p0 p1 p2)(lw:z.w.length=9)(lc:z.c.length=17)(lb:z.b.length=8)(h:(i=0/\j<9)\/(i=1/\j<17)\/(i=2/\j<8))(c:Int):
  ∃ p l,b9 [V.ref p0,V.ref p1,V.ref p2] ((i:Nat):Int)=some (.ref p)/\H p=some (.lst (iV l))/\j<l.length/\p∈[p0,p1,p2]/\MB (upd H p (.lst (iV (fG l j c)))) D p0 p1 p2 (z.add (i,j) c):=by
 rcases h with ⟨rfl,h⟩|⟨rfl,h⟩|⟨rfl,h⟩
 ·exact⟨p0,z.w,rfl,m.o0,by lia,by simp,⟨by rw[af n.d0];exact m.oD,ah,by rw[af n.Kz.symm];exact m.o1,by rw[af n.Kj.symm];exact m.o2⟩⟩
 ·exact⟨p1,z.c,rfl,m.o1,by lia,by simp,⟨by rw[af n.d1];exact m.oD,by rw[af n.Kz];exact m.o0,ah,by rw[af n.Kn.symm];exact m.o2⟩⟩
 ·exact⟨p2,z.b,rfl,m.o2,by lia,by simp,⟨by rw[af n.d2];exact m.oD,by rw[af n.Kj];exact m.o0,by rw[af n.Kn];exact m.o1,ah⟩⟩
theorem mO{r:Row}(h:r.Ok k):∀ p∈cC r,(p.1=0/\p.2<9)\/(p.1=1/\p.2<17)\/(p.1=2/\p.2<8):=by
 intro p hp;rcases Ll.mp hp with rfl|hp
 ·exact .inl ⟨rfl,r.yP⟩
 ·obtain⟨x,hx,hp⟩:=List.mem_flatMap.mp hp;have hx:=Row.qD h x hx
  cases x with
  |box b=>rw[Ln.mp hp];exact .inr (.inr ⟨rfl,hx⟩)
  |num n=>rw[Ln.mp hp];exact .inr (.inl ⟨rfl,iI hx⟩)
  |goal g=>cases hp
theorem eN.tR(z:eN)(p:Nat×Nat)(c:Int):(z.add p c).w.length=z.w.length/\(z.add p c).c.length=z.c.length/\(z.add p c).b.length=z.b.length:=by
 unfold eN.add;split
 ·exact⟨fk _ _ _,rfl,rfl⟩
 ·split
  ·exact⟨rfl,fk _ _ _,rfl⟩
  ·exact⟨rfl,rfl,fk _ _ _⟩
abbrev k15z(P w K mg base):=ae P w K mg base aT 7 "book_of" ["program","counts"] (spT K [false,false] rJ)
theorem u4(T:Txt K mg)(F:HasFn K mg "book_of" dm ["program","counts"])(hcoded_things:k4z P w K mg base)(hleast_lengths:ae P w K mg base aT 6 "least_lengths" ["counts","bound"] (spT K [false,false] B_)):k15z P w K mg base:=by
 obtain⟨w_HM,u_HM,hg_HOW_MANY,hr_HOW_MANY,rp_HM⟩:=T.qI;obtain⟨w_L,u_L,hg_LONGEST,hr_LONGEST,rp_L⟩:=T.vy;refine F.Ks cG (fun vs H Q E h=>?_) (fun f cdv A outer s H vs Q E hr h=>?_)
 ·obtain⟨B,args,Qt,ag,_⟩:=h;exact ag.len.1
 ·obtain⟨B,args,Qt,ag,hB,hnd,⟨rs,cs,rfl,hl,h60,aD,hq⟩,q⟩:=h;have hu:=aP hr;obtain⟨v1,v2,rfl⟩:=Y.yF ag.len.1;obtain⟨r1,r2,_⟩:=ag
  cases r2 with
  |@tup cv vsc _ nc oc rc =>
   have ec:=f_ rc;subst ec
   cases r1 with
   |@tup pv pvs _ np op rp =>
    refine⟨_,(Z.ai (Z.setC (j:=2) cG.nd rfl (by right) (osc:=aa dm) (ON:=["program","counts","sums","row","count","which","thing"]) (own:=["many"]) (N:=["many","program","counts","sums","row","count","which","thing"]) ⟨rfl,by decide +kernel,rfl,by decide +kernel,by decide +kernel,by decide +kernel,by decide +kernel,by decide +kernel⟩ rfl rfl rfl (Z.seq K rfl (Z.glob rfl hg_HOW_MANY hr_HOW_MANY)) (fun _ _ _ _=>(Z.ax (i:=0) (show List.Nodup (["many","program","counts","sums","row","count","which","thing"]:List Str) by decide +kernel) rfl (by right))) (fun _ _ _ _=>Z.mZ) (fun _ _ _ _=>(Z.op sF (Z.lst (Z.cons Z.int Z.nil)) (Z.v 0))))
   (Z.ai (Z.e_ LQ rfl (Z.zip K rfl rfl T.sv (Z.cons (Z.v 0) (Z.cons (Z.v 1) Z.nil))) (Z.pZ (n:=2) K rfl rfl (Z.aW (Z.ax (i:=3) cG.nd rfl (by right)) (Z.aW (Z.ax (i:=4) cG.nd rfl (by right)) Z.eQ))) (Z.ay (Z.e_ LQ rfl (Z.any K rfl (Z.fn hcoded_things (hr.mono (by decide)) rfl aq (Z.cons (Z.v 3) Z.nil))) (Z.pZ (n:=2) K rfl rfl (Z.aW (Z.ax (i:=5) cG.nd rfl (by right)) (Z.aW (Z.ax (i:=6) cG.nd rfl (by right)) Z.eQ))) (Z.ay (Z.asg (Z.op (Z.HQ K rfl) (Z.ix (Z.Ef K rfl hu) (Z.ix (Z.Ef K rfl hu) (Z.v 2) (Z.v 5)) (Z.v 6)) (Z.v 4)) (Z.qm (Z.ix (Z.Ef K rfl hu) (Z.v 2) (Z.v 5)) (Z.v 6)))))))
   (Z.ay (Z.ret (Z.ct (Z.sM K rfl) rfl T.cN (by decide +kernel) (Z.cons (Z.comp (osc:=aa dm) (ON:=["program","counts","sums","row","count","which","thing"]) (own:=["counted"]) (N:=["counted","program","counts","sums","row","count","which","thing"]) ⟨rfl,by decide +kernel,rfl,by decide +kernel,by decide +kernel,by decide +kernel,by decide +kernel,by decide +kernel⟩ rfl rfl rfl (Z.any K rfl (Z.v 2)) (fun _ _ _ _=>(Z.ax (i:=0) (show List.Nodup (["counted","program","counts","sums","row","count","which","thing"]:List Str) by decide +kernel) rfl (by right))) (fun _ _ _ _=>Z.mZ) (fun _ _ _ _=>(Z.fn hleast_lengths (hr.mono (by decide)) rfl aq (Z.cons (Z.ct (Z.sM K rfl) rfl T.cN (by decide +kernel) (Z.cons (Z.v 0) Z.nil)) (Z.cons (Z.glob rfl hg_LONGEST hr_LONGEST) Z.nil))))) Z.nil)))))),?_⟩
    have eL:w_L=.int 12:=by have:=rp_L (fun _=>none) (fun _=>False);cases this;rfl
    subst eL;obtain⟨bm,rfl,kt⟩:∃ b,w_HM=.ref b/\GV K b [.int 9,.int 17,.int 8]:=by
     have:=rp_HM (fun _=>none) (fun _=>False)
     cases this with
     |dk h r =>
      have e:=f_ (xs:=[9,17,8]) r;subst e;exact⟨_,rfl,h⟩
    refine HP fun N hN=>?_;walk_at "rz";refine .inr ⟨⟨_,.inr kt⟩,?_⟩;refine uq (xs:=[V.int 9,V.int 17,V.int 8]) (by decide) (fun D i ys H'=>H D=none/\KB [] H H'/\H' D=some (.lst ys)/\∃ as:List Addr,ys=as.map V.ref/\as.length=i/\as.Nodup/\D∉as/\∀(j:Nat) a,as[j]?=some a->H a=none/\∃ n:Nat,[9,17,8][j]?=some n/\H' a=some (.lst (iV (List.replicate n 0)))) (fun D hD=>⟨hD,KB.new hD,ah,[],rfl,rfl,N0,LK,fun j a e=>by cases e⟩) (fun D i ys H' ⟨h1,h2,h3,as,h4,h5,_⟩=>⟨h3,by rw[h4,Ld,h5]⟩) (fun D i ys H' _=>.inr kt) ?_ ?_
    ·rintro D i ys H' z R hx ⟨h1,h2,h3,as,h4,h5,h6,h7,h8⟩ k;obtain⟨n,hn,rfl,hn1⟩:∃ n:Nat,[9,17,8][i]?=some n/\z=.int (n:Nat)/\n<20:=by
      have hi:i=0\/i=1\/i=2:=by
       have:=(Li.mp hx).1;simp only[KZ,LI] at this;lia
      rcases hi with rfl|rfl|rfl
      ·exact⟨9,rfl,(Option.some.inj hx).symm,by decide⟩
      ·exact⟨17,rfl,(Option.some.inj hx).symm,by decide⟩
      ·exact⟨8,rfl,(Option.some.inj hx).symm,by decide⟩
     walk_at "rz";refine⟨by decide,fun p hp=>?_⟩
     refine⟨p,(n:Nat),[.int 0],rfl,rfl,ah,by lia,by lia,Lr (show 1*((n:Nat):Int).toNat<=20 by lia) (by decide),fun p2 hp2=>?_⟩
     have k1:KB [] H' (upd H' p (.lst [.int 0])):=KB.new hp;have k2:=k1.trans (KB.new (o:=.lst (List.replicate ((n:Nat):Int).toNat [V.int 0]).flatten) hp2);have hp2':H' p2=none:=k1.free (by simp) hp2
     have nD:p2≠D:=fun e=>by rw[e,h3] at hp2';cases hp2'
     have fp2:H p2=none:=h2.free (by simp) hp2'
     have hfl:(List.replicate ((n:Nat):Int).toNat [V.int 0]).flatten=iV (List.replicate n 0):=by rw[L6];exact lC n
     have hpa:∀ a∈as,a≠p2:=fun a ha e=>by
      obtain⟨j,hj⟩:=N3.mp ha;obtain⟨_,m,_,g3⟩:=h8 j a hj;rw[e,hp2'] at g3;cases g3
     rw[hfl] at k2;rw[hfl];refine k _ _ (k2 _ _ h3 (by simp)) ⟨h1,fun c o e _=>?_,ah,as++[p2],by rw[h4,Lv];rfl,by rw[KW,h5];rfl,?_,?_,?_⟩
     ·rw[af (ao e h1)];exact k2 c o (h2 c o e (by simp)) (by simp)
     ·refine List.nodup_append.mpr ⟨h6,by simp,fun a ha b hb e=>?_⟩
      rw[Ln.mp hb] at e;exact hpa a ha e
     ·intro hm;rcases L1.mp hm with hm|hm
      ·exact h7 hm
      ·exact nD (Ln.mp hm).symm
     ·intro j a e;have hj:j<as.length\/j=as.length:=by
       have:=(Li.mp e).1;rw[KW] at this;simp only[KZ,LI] at this;lia
      rcases hj with hj|rfl
      ·rw[MD hj] at e;obtain⟨g1,m,g2,g3⟩:=h8 j a e;have na:a≠D:=fun z=>h7 (z ▸ Mx e);exact⟨g1,m,g2,by rw[af na];exact k2 _ _ g3 (by simp)⟩
      ·rw[Mq (Lf _),Oq] at e;cases e;exact⟨fp2,n,by rw[h5];exact hn,by rw[af nD];exact ah⟩
    rintro D ys H2 ⟨hD1,k2,oD,as,rfl,has,hnd2,hDa,hall⟩;obtain⟨p0,p1,p2,rfl⟩:∃ p0 p1 p2,as=[p0,p1,p2]:=by
     rcases as with _|⟨a,_|⟨b,_|⟨c,_|⟨d,as⟩⟩⟩⟩
     ·cases has
     ·cases has
     ·cases has
     ·exact⟨a,b,c,rfl⟩
     ·exfalso;revert has;simp
    have n3:MN D p0 p1 p2:=by
     simp only[Ll,LK,M9,not_or] at hDa;simp only[LP,Ll,LK,M9,not_or] at hnd2;exact⟨hDa.1,hDa.2.1,hDa.2.2,hnd2.1.1,hnd2.1.2,hnd2.2.1⟩
    have m0:MB H2 D p0 p1 p2 dW:=by
     obtain⟨_,n,en,e0⟩:=hall 0 p0 rfl;obtain⟨_,m,em,e1⟩:=hall 1 p1 rfl;obtain⟨_,l,el,e2⟩:=hall 2 p2 rfl
     cases en;cases em;cases el
     exact⟨oD,e0,e1,e2⟩
    have f0:=(hall 0 p0 rfl).1;have f1:=(hall 1 p1 rfl).1;have f2:=(hall 2 p2 rfl).1;clear hall has hnd2 hDa oD kt;rw[hN];clear hN N;refine HP fun N hN=>?_;walk_at "rz";have lp:pvs.length=rs.length:=by rw[iQ rp];unfold rT;rw[Ld]
    have lcv:(iV cs).length=cs.length:=by unfold iV;rw[Ld]
    refine⟨pv,cv,false,false,⟨rfl,rfl⟩,⟨_,aV.of (k2 _ _ op (by simp))⟩,⟨_,aV.of (k2 _ _ oc (by simp))⟩,?_⟩
    refine uU (xs:=pvs) (ys:=iV cs) (by lia) (fun i σ H'=>∃(z:eN) (o3 o4 o5 o6:Option V),MB H' D p0 p1 p2 z/\counted rs cs dW=counted (rs.drop i) (cs.drop i) z/\z.w.length=9/\z.c.length=17/\z.b.length=8/\KB [] H H'/\σ=[some (.ref pv),some (.ref cv),some (.ref D),o3,o4,o5,o6]) ⟨dW,none,none,none,none,m0,rfl,rfl,rfl,rfl,k2,rfl⟩ (fun i σ H' _ ⟨z,o3,o4,o5,o6,h1,h2,h3,h4,h5,h6,h7⟩=>⟨aV.of (h6 _ _ op (by simp)),aV.of (h6 _ _ oc (by simp))⟩) ?_ ?_
    ·rintro i x y σ H3 pr ex ey ⟨z,o3,o4,o5,o6,mb,ec,lw,lc,lb,k3,rfl⟩ hpr;have hi:i<rs.length:=by have:=(Li.mp ex).1;lia
     have hi2:i<cs.length:=by lia
     obtain⟨v,ev,rv⟩:=lX rp (i:=i) (t:=(rs[i]).t) (by unfold rT;rw[Lw,KY hi];rfl)
     rw[ex] at ev;cases ev;have ey':y=.int cs[i]:=by
      unfold iV at ey;rw[Lw,KY hi2] at ey;exact (Option.some.inj ey).symm
     subst ey';have hr0:(rs[i]).Ok 60:=aD _ (LL hi);have ed:counted rs cs dW=counted (rs.drop (i+1)) (cs.drop (i+1)) (z.row rs[i] cs[i]):=by
      rw[ec,LJ hi,LJ hi2];rfl
     clear ec ex ey;generalize rs[i]=r0 at *;generalize cs[i]=c0 at *;clear hN q;walk_at "rz";refine⟨pr,[x,.int c0],rfl,aV.of ah,rfl,?_⟩;walk_at "rz";obtain⟨H4,e4⟩:∃ H4,H4=upd H3 pr (.tup [x,.int c0]):=⟨_,rfl⟩;rw[<- e4];have k34:KB [] H3 H4:=by rw[e4];exact KB.new hpr
     clear e4;have mb4:=mb.kb k34;have k4:KB [] H H4:=k3.trans k34;refine⟨B,[r0.t],fun r outs=>r=.fr (.lst (cT (cC r0)))/\outs=[],⟨rv.fr fun b o h n=>⟨k4 b o h (by simp),n⟩,trivial⟩,fun b hb=>let ⟨o,ho⟩:=hB b hb;⟨o,k4 b o ho (by simp)⟩,N0,⟨r0,60,rfl,hr0,rfl,rfl⟩,fun v H5 r outs hQ keep res=>?_⟩
     obtain⟨rfl,rfl⟩:=hQ;obtain⟨a,rfl,na,nBa,⟨us,oa,ra⟩,_⟩:=res;have k45:KB [] H4 H5:=fun b o e _=>keep b o e (by show b∉([]:List Addr);simp)
     have mb5:=mb4.kb k45;have ap:a∉[p0,p1,p2]:=mb4.out (.inl na);have sqa:sq H5 a=some (true,us):=gO oa;simp only[sqa];have lus:us.length=(cC r0).length:=by rw[iQ ra];unfold cT;rw[Ld]
     refine tU (xs:=us) (fun j σ H'=>∃(z':eN) (o5 o6:Option V),MB H' D p0 p1 p2 z'/\((cC r0).drop j).foldl (fun s p=>s.add p c0) z'=z.row r0 c0/\z'.w.length=9/\z'.c.length=17/\z'.b.length=8/\KB [p0,p1,p2] H5 H'/\σ=[some (.ref pv),some (.ref cv),some (.ref D),some x,some (.int c0),o5,o6]) ⟨z,o5,o6,mb5,r_ z r0 c0,lw,lc,lb,KB.refl _ _,rfl⟩ (fun j σ H' _ ⟨z',o5,o6,h1,h2,h3,h4,h5,h6,h7⟩=>bz.of (h6 _ _ oa ap)) ?_ ?_
     ·rintro j u σ H6 eu ⟨z',o5,o6,mb6,ef,lw',lc',lb',k6,rfl⟩;have hj:j<(cC r0).length:=by have:=(Li.mp eu).1;lia
      obtain⟨v,ev,rv2⟩:=lX ra (i:=j) (t:=.tup [.int (((cC r0)[j]).1:Nat),.int (((cC r0)[j]).2:Nat)]) (by unfold cT;rw[Lw,KY hj];rfl)
      rw[eu] at ev;cases ev;have hin:=mO hr0 _ (LL hj);have ef':((cC r0).drop (j+1)).foldl (fun s p=>s.add p c0) (z'.add (cC r0)[j] c0)=z.row r0 c0:=by
       rw[<- ef,LJ hj];rfl
      clear ef;generalize (cC r0)[j]=pq at *;obtain⟨i1,i2⟩:=pq
      cases rv2 with
      |@tup q vs2 _ nq oq rq =>
       have e2:=f_ (xs:=[(i1:Int),(i2:Int)]) rq;subst e2;have qp:q∉[p0,p1,p2]:=mb5.out (.inr ⟨_,oq⟩);have oq6:=k6 _ _ oq qp;obtain⟨p,l,ea,op6,hl2,hp,mb7⟩:=mb6.at n3 lw' lc' lb' hin c0;walk_at "rz";refine⟨q,_,rfl,aV.of oq6,rfl,?_⟩;have sD:sq H6 D=some (true,[.ref p0,.ref p1,.ref p2]):=gO mb6.oD;have sp:sq H6 p=some (true,iV l):=gO op6;have e1:b9 (iV l) ((i2:Nat):Int)=some (.int (l.getD i2 0)):=b6 (by unfold iV;rw[Lw,Ls,KY hl2];rfl)
       have ei:ji (iV l).length ((i2:Nat):Int)=some i2:=by
        rw[EN (by lia) (by unfold iV;rw[Ld];lia)];simp
       have eset:(iV l).set i2 (V.int (l.getD i2 0+c0))=iV (fG l i2 c0):=by unfold iV fG;rw[List.map_set]
       show eR _ _ [V.int (i1:Nat),V.int (i2:Nat)] _ _ _;walk_at "rz";simp only[sD,ea,L2.Ap.BW,sp,e1,L2.Ap.HZ,L2.Ap.setRef,op6,ei,eset];obtain⟨g1,g2,g3⟩:=eN.tR z' (i1,i2) c0;exact⟨_,some (.int (i1:Nat)),some (.int (i2:Nat)),mb7,ef',by rw[g1];exact lw',by rw[g2];exact lc',by rw[g3];exact lb',k6.trans (KB.set hp),rfl,rfl⟩
     ·rintro σ H6 ⟨z',o5,o6,mb6,ef,lw',lc',lb',k6,rfl⟩;rw[lus,N6] at ef;have ef':z'=z.row r0 c0:=ef;subst ef';refine⟨_,some x,some (.int c0),o5,o6,mb6,ed,lw',lc',lb',fun b o e _=>k6 b o (k45 b o (k4 b o e (by simp)) (by simp)) ?_,rfl⟩
      simp only[Ll,LK,M9,not_or];exact⟨ao e f0,ao e f1,ao e f2⟩
    ·rintro σ H3 ⟨z,o3,o4,o5,o6,mb,ec,lw,lc,lb,k3,rfl⟩;have ez:counted rs cs dW=z:=by rw[ec,lp,N6];rfl
     rw[ez] at hq;show N _ _;rw[hN];clear hN N;walk_at "rz";have sD:sq H3 D=some (true,[.ref p0,.ref p1,.ref p2]):=gO mb.oD;simp only[sD];refine rm (xs:=[.ref p0,.ref p1,.ref p2]) (show 3<=sizeLine by decide) (fun D2 i ys H'=>H3 D2=none/\KB [] H3 H'/\H' D2=some (.lst ys)/\ys.length=i/\ak K H' (more B D2) ys ([L2.T.tup (nN (aA z.w 12)),.tup (nN (aA z.c 12)),.tup (nN (aA z.b 12))].take i)) (fun D2 hD=>⟨hD,KB.new hD,ah,rfl,.nil⟩) (fun D2 i ys H' ⟨h1,h2,h3,h4,h5⟩=>⟨h3,h4⟩) (fun D2 i ys H' ⟨h1,h2,h3,h4,h5⟩=>bz.of (h2 _ _ mb.oD (by simp))) ?_ ?_
     ·rintro D2 i ys H4 u R eu ⟨h1,k4,h3,h4,h5⟩ kk;obtain⟨p,l,rfl,op4,hl1,hl2,et⟩:∃ p l,u=.ref p/\H4 p=some (.lst (iV l))/\1<=l.length/\l.length<=20/\[L2.T.tup (nN (aA z.w 12)),.tup (nN (aA z.c 12)),.tup (nN (aA z.b 12))].take (i+1)=[L2.T.tup (nN (aA z.w 12)),.tup (nN (aA z.c 12)),.tup (nN (aA z.b 12))].take i++[.tup (nN (aA l 12))]:=by
       have hi:i=0\/i=1\/i=2:=by
        have:=(Li.mp eu).1;simp only[KZ,LI] at this;lia
       rcases hi with rfl|rfl|rfl
       ·exact⟨p0,z.w,(Option.some.inj eu).symm,k4 _ _ mb.o0 (by simp),by lia,by lia,rfl⟩
       ·exact⟨p1,z.c,(Option.some.inj eu).symm,k4 _ _ mb.o1 (by simp),by lia,by lia,rfl⟩
       ·exact⟨p2,z.b,(Option.some.inj eu).symm,k4 _ _ mb.o2 (by simp),by lia,by lia,rfl⟩
      have sp:sq H4 p=some (true,iV l):=gO op4;walk_at "rz";simp only[sp];intro t ht;have k5:KB [] H4 (upd H4 t (.tup (iV l))):=KB.new ht;have kall:KB [] H (upd H4 t (.tup (iV l))):=(k3.trans k4).trans k5;have nt:¬ more B D2 t:=fun z=>by
       rcases z with z|z
       ·rw[z,h3] at ht;cases ht
       ·obtain⟨o,ho⟩:=hB t z;rw[(k3.trans k4) t o ho (by simp)] at ht;cases ht
      refine⟨more B D2,[.tup (nI l),.int 12],fun r outs=>r=.tr (.tup (nN (aA l 12)))/\outs=[],⟨.tup nt ah (oW l),.int 12,trivial⟩,fun b hb=>?_,N0,⟨l,rfl,hl1,hl2,rfl,rfl⟩,fun v H5 r outs hQ keep res=>?_⟩
      ·rcases hb with rfl|hb
       ·exact⟨_,k5 _ _ h3 (by simp)⟩
       ·obtain⟨o,ho⟩:=hB b hb;exact⟨o,kall b o ho (by simp)⟩
      ·obtain⟨rfl,rfl⟩:=hQ;obtain⟨rep,_⟩:=res;have k6:KB [] H4 H5:=k5.trans fun b o e _=>keep b o e (by show b∉([]:List Addr);simp)
       have fs:Fr (more B D2) H5 (more B D2) (upd H5 D2 (.lst (ys++[v]))):=Fr.set (.inl rfl);refine kk v H5 (k6 _ _ h3 (by simp)) ⟨h1,fun b o e _=>?_,ah,by rw[KW,h4];rfl,?_⟩
       ·rw[af (ao e h1)];exact k6 b o (k4 b o e (by simp)) (by simp)
       ·rw[et];exact lF ((h5.fr fun b o e n=>⟨k6 b o e (by simp),n⟩).fr fs) (rep.fr fs)
     rintro D2 ys H4 ⟨h1,k4,h3,h4,h5⟩;have s2:sq H4 D2=some (true,ys):=gO h3;walk_at "rz";simp only[s2];intro t ht;have kt:KB [] H (upd H4 t (.tup ys)):=(k3.trans k4).trans (KB.new ht);have nt:¬ B t:=fun z=>by
      obtain⟨o,ho⟩:=hB t z;rw[(k3.trans k4) t o ho (by simp)] at ht;cases ht
     refine q _ _ _ _ hq (fun b o e _=>kt b o e (by simp)) ⟨.tup nt ah (h5.fr fun b o e n=>⟨?_,fun z=>n (.inr z)⟩),.nil⟩
     rw[af (ao e ht)];exact e
noncomputable def oy:dX:=fun args Q=>∃ s:L2.T,args=[s,.int 60,.int 6]/\dE s/\∀(rs:List Row) (s':L2.T),dE s'->rs.length<=60->(∀ r∈rs,r.Ok rs.length/\r.st=true)->Q (.tr (.tup (rT rs))) [s']
abbrev k7z(P w K mg base):=ae P w K mg base aT 4 "_law_program" ["seed","most","words"] (spT K [true,false,false] oy)
theorem qC(T:Txt K mg)(F:HasFn K mg "_law_program" bK ["seed","most","words"])(h_law_draw:k0z P w K mg base)(h_law_row:k11z P w K mg base):
  k7z P w K mg base:=by
 refine F.i4 cX [true,false,false] rfl (by decide) ?_;left;obtain⟨sd,rfl,hs,q⟩:=h;refine⟨_,(Y.ai (Y.set (i:=3) cX.nd rfl (by right) (Y.fn K rfl h_law_draw (hr.mono (by decide)) rfl aq (Y.cons (Y.vS 0) (Y.cons Y.int Y.nil))))
   (Y.ai (Y.hW (Y.bD (Y.bP K rfl (LM hu)) Y.cZ (Y.fn K rfl h_law_draw (hr.mono (by decide)) rfl aq (Y.cons (Y.vS 0) (Y.cons Y.int Y.nil))) Y.int) (Y.ay (Y.set (i:=3) cX.nd rfl (by right) (Y.op d5 Y.cw (Y.vS 1) (Y.fn K rfl h_law_draw (hr.mono (by decide)) rfl aq (Y.cons (Y.vS 0) (Y.cons (Y.op (Y.aB K rfl) Y.aC Y.int (Y.op Y.gp Y.bV (Y.vS 1) Y.int)) Y.nil)))))) Y.cW)
   (Y.ay (Y.ret (Y.ct (Y.bY K rfl) Y.cU rfl T.cN (by decide +kernel) (Y.cons (Y.ie (osc:=aa bK) (ON:=["seed","most","words","many"]) (own:=["row"]) (N:=["row","seed","most","words","many"]) ⟨rfl,by decide +kernel,rfl,by decide +kernel,by decide +kernel,by decide +kernel,by decide +kernel,by decide +kernel⟩ rfl rfl rfl rfl (Y.kE rfl T.cI (Y.cons (Y.vS 3) Y.nil)) (fun _ _ _ _=>(Z.ax (i:=0) (show List.Nodup (["row","seed","most","words","many"]:List Str) by decide +kernel) rfl (by right))) (fun _ _ _ _=>Y.mZ) (fun _ _ _ _=>(Y.fn K rfl h_law_row (hr.mono (by decide)) rfl aq (Y.cons (Y.vS 1) (Y.cons (Y.vS 4) (Y.cons (Y.vS 3) Y.nil)))))) Y.nil)))))),?_⟩
 refine au fun N hN=>?_;rfl';refine⟨sd,9,rfl,hs,by decide,by decide,fun m s1 hs1 m0 m1=>?_⟩
 rfl';symm;rfl';refine⟨s1,5,rfl,hs1,by decide,by decide,fun v s2 hs2 v0 v1=>?_⟩
 have fin:∀(n:Nat) (s':L2.T),dE s'->n<=60->N [.pb s',.tr (.int 60),.tr (.int 6),.tr (.int (n:Int))]:=fun n s' hs' hn=>by
  ac_rfl;rfl';refine⟨by lia,by lia,?_⟩
  refine bj (fun rest acc μ=>∃(rs:List Row) (s4:L2.T),rest.length+rs.length=n/\acc=rT rs/\(∀ r∈rs,r.Ok n/\r.st=true)/\dE s4/\μ=[.pb s4,.tr (.int 60),.tr (.int 6),.tr (.int (n:Int))]) ⟨[],s',by simp,rfl,(fun r hr=>by cases hr),hs',rfl⟩ ?_ ?_
  ·rintro acc μ ⟨rs,s4,e,rfl,aD,hs4,rfl⟩;refine⟨trivial,?_⟩;rfl';have e':rs.length=n:=by simpa using e
   exact q rs s4 hs4 (by lia) (by rw[e'];exact aD)
  ·rintro t r acc μ M ⟨rs,s4,e,rfl,aD,hs4,rfl⟩ k;rw[KZ] at e;refine⟨trivial,by rw[jC];exact Lu (show _<=60 by lia) (by decide),?_⟩
   rfl';refine⟨s4,n,rfl,hs4,by lia,fun rw' s5 hok5 hst5 hs5=>?_⟩
   rfl';refine k _ _ ⟨rs++[rw'],s5,by rw[KW,LO];lia,by unfold rT;rw[Lv];rfl,fun x hx=>?_,hs5,rfl⟩
   rcases L1.mp hx with z|z
   ·exact aD x z
   ·rw[Ln.mp z];exact⟨hok5,hst5⟩
 by_cases a:v=0
 ·exists Lg a;refine⟨⟨by decide,by decide⟩,s2,1+60 / 2,rfl,hs2,by decide,by decide,fun d s3 hs3 d0 d1=>?_⟩
  obtain⟨n,hn⟩:∃ n:Nat,60-d=n:=⟨(60-d).toNat,by lia⟩
  exists hn;exact fin n s3 hs3 (by lia)
 ·obtain⟨n,rfl⟩:∃ n:Nat,m=n:=⟨m.toNat,by lia⟩
  exists K_ a;exact fin n s2 hs2 (by lia)
noncomputable def sx:dX:=fun args Q=>∃(s:L2.T) (n:Nat),args=[s,.int (n:Int)]/\dE s/\n<=60/\∀(cs:List Int) (s':L2.T),dE s'->cs.length=n->(∀ x∈cs,0<=x/\x<2^60)->Q (.tr (.tup (nI cs))) [s']
theorem iW(v:Int)(n:Nat):(List.replicate n [L2.T.int v]).flatten=nI (List.replicate n v):=by
 induction n with
 |zero=>rfl
 |succ n ih=>rw[LC,LX,ih,LC];rfl
abbrev k16z(P w K mg base):=ae P w K mg base aT 2 "_law_counts" ["seed","many"] (spT K [true,false] sx)
theorem uw(T:Txt K mg)(F:HasFn K mg "_law_counts" bQ ["seed","many"])(h_law_draw:k0z P w K mg base):k16z P w K mg base:=by
 refine F.i4 fj [true,false] rfl (by decide) ?_;left;obtain⟨sd,n,rfl,hs,hn,q⟩:=h;refine⟨_,(Y.ai (Y.set (i:=2) fj.nd rfl (by right) (Y.fn K rfl h_law_draw (hr.mono (by decide)) rfl aq (Y.cons (Y.vS 0) (Y.cons Y.int Y.nil))))
   (Y.ai (Y.hW (Y.bD kU Y.eO (Y.vS 2) Y.int) (Y.ay (Y.ret (Y.op (Y.f9 K rfl) Y.f7 (Y.tup (Y.cons (Y.vS 2) Y.nil)) (Y.vS 1)))) Y.cW)
   (Y.ay (Y.ret (Y.ct (Y.bY K rfl) Y.cU rfl T.cN (by decide +kernel) (Y.cons (Y.ie (osc:=aa bQ) (ON:=["seed","many","way"]) (own:=["row"]) (N:=["row","seed","many","way"]) ⟨rfl,by decide +kernel,rfl,by decide +kernel,by decide +kernel,by decide +kernel,by decide +kernel,by decide +kernel⟩ rfl rfl rfl rfl (Y.kE rfl T.cI (Y.cons (Y.vS 1) Y.nil)) (fun _ _ _ _=>(Z.ax (i:=0) (show List.Nodup (["row","seed","many","way"]:List Str) by decide +kernel) rfl (by right))) (fun _ _ _ _=>Y.mZ) (fun _ _ _ _=>(Y.fn K rfl h_law_draw (hr.mono (by decide)) rfl aq (Y.cons (Y.vS 1) (Y.cons (Y.ix (Y.bw K rfl) Y.ar (Y.lst (Y.cons Y.int (Y.cons (Y.op yz Y.bV Y.int Y.int) Y.nil))) (Y.op d5 Y.cw (Y.vS 3) Y.int)) Y.nil))))) Y.nil)))))),?_⟩
 refine au fun N hN=>?_;rfl';refine⟨sd,4,rfl,hs,by decide,by decide,fun way s1 hs1 w0 w1=>?_⟩
 rfl';symm;by_cases a:way<2
 ·exists Lg a,L6,iW;exact⟨by decide,⟨by simp,by lia,by lia⟩,q _ _ hs1 (Lp ..) fun x hx=>by rw[Pd hx];exact⟨w0,by lia⟩⟩
 ·exists K_ a;ac_rfl;obtain⟨d,hd0,hd1,ed⟩:∃ d:Int,0<d/\d<2^60/\b9 [L2.T.int 6,.int 1000000000000] (way-2)=some (.int d):=by
   have:way=2\/way=3:=by lia
   rcases this with rfl|rfl
   ·exact⟨6,by decide,by decide,rfl⟩
   ·exact⟨1000000000000,by decide,by decide,rfl⟩
  rfl';refine⟨by lia,by lia,?_⟩
  refine bj (fun rest acc μ=>∃(cs:List Int) (s4:L2.T),rest.length+cs.length=n/\acc=nI cs/\(∀ x∈cs,0<=x/\x<2^60)/\dE s4/\μ=[.pb s4,.tr (.int (n:Int)),.tr (.int way)]) ⟨[],s1,by simp,rfl,(fun x hx=>by cases hx),hs1,rfl⟩ ?_ ?_
  ·rintro acc μ ⟨cs,s4,e,rfl,h0,hs4,rfl⟩;refine⟨trivial,?_⟩;rfl';exact q cs s4 hs4 (by simpa using e) h0
  ·rintro t r acc μ M ⟨cs,s4,e,rfl,h0,hs4,rfl⟩ k;rw[KZ] at e;refine⟨trivial,by rw[aR];exact Lu (show _<=60 by lia) (by decide),?_⟩
   exists ed;refine⟨⟨by decide,by decide,by decide⟩,by decide,s4,d,rfl,hs4,hd0,hd1,fun v s5 hs5 v0 v1=>?_⟩
   rfl';refine k _ _ ⟨cs++[v],s5,by rw[KW,LO];lia,by rw[gY];rfl,fun x hx=>?_,hs5,rfl⟩
   rcases L1.mp hx with z|z
   ·exact h0 x z
   ·rw[Ln.mp z];exact⟨v0,by lia⟩
noncomputable def FK(ls:List Nat):Prop:=∀ x∈ls,1<=x/\x<=12
noncomputable def Ca:dX:=fun args Q=>∃(s:L2.T) (m:Nat),args=[s,.int (m:Int),.int 12]/\dE s/\2<=m/\m<=17/\∀(ls:List Nat) (s':L2.T),dE s'->ls.length=m->FK ls->Kr.ks 40 ls<=2^40->Q (.tr (.tup (nI (nZ ls)))) [s']
structure Pt (l:List Nat):Prop where
 ks:Kr.ks 40 l=2^40
 le:∀ x∈l,x<=12
 one:l=[0]\/∀ x∈l,1<=x
theorem Pt.pos(h:Pt l):1<=l.length:=by
 cases l with
 |nil=>have:=h.ks;simp[Kr.ks] at this
 |cons=>simp
theorem wU:∀ l:List Nat,(∀ x∈l,12<=x)->Kr.ks 40 l<=l.length*2^28
 |[],_=>LA _
 |x::l,h=>by
  have h1:=wU l fun y hy=>h y (Le _ hy);have h2:2^(40-x)<=2^28:=Mb (by decide) (by have:=h x Lj;lia)
  rw[Kr.ks,KZ];lia
noncomputable def low(l:List Nat)(n:Nat):List Nat:=(List.range n).filter fun j=>decide (l.getD j 0<12)
theorem oO(l:List Nat)(n:Nat):low l (n+1)=low l n++(if l.getD n 0<12 then [n] else []):=by
 unfold low;rw[MF,List.filter_append];congr 1;simp[Nh]
theorem AE(h:j∈low l n):j<n/\l.getD j 0<12:=by
 obtain⟨h1,h2⟩:=Oe.mp h;exact⟨LZ.mp h1,Nx h2⟩
theorem rM(l:List Nat)(n:Nat):(low l n).length<=n:=by
 have:=List.length_filter_le (fun j=>decide (l.getD j 0<12)) (List.range n);rw[L7] at this;exact this
theorem Pt.low(h:Pt l)(hl:l.length<=17):0<(low l l.length).length:=by
 rcases O8 (G.low l l.length).length with e|e
 ·exfalso
  have e':=List.eq_nil_of_length_eq_zero e;have key:∀ x∈l,12<=x:=fun x hx=>by
   obtain⟨j,hj,rfl⟩:=List.mem_iff_getElem.mp hx;rcases M5 l[j] 12 with c|c
   ·have:j∈G.low l l.length:=Oe.mpr ⟨LZ.mpr hj,Mi (by rw[Ls,KY hj];exact c)⟩
    rw[e'] at this;cases this
   ·exact c
  have:=wU l key;rw[h.ks] at this;have:l.length*2^28<=17*2^28:=M_ _ hl;lia
 ·exact e
theorem Pt.next{l3:List Nat}{a:Nat}(h:Pt l)(ha:a<l.length)(hl:l[a]<12)(hp:l3.Perm ((l[a]+1)::(l[a]+1)::l.eraseIdx a)):Pt l3/\l3.length=l.length+1:=by
 have hpm:(l[a]::l.eraseIdx a).Perm l:=by
  rw[Nl]
  conv=>rhs;rw[<- Mk a l,<- PB ha]
  exact LW.symm
 have hle:=l.length_eraseIdx_of_lt ha;have hx:=h.le _ (LL ha);have h3:l3.length=l.length+1:=by
  rw[hp.length_eq,KZ,KZ,hle];lia
 have mem:∀ y∈l3,y=l[a]+1\/y∈l.eraseIdx a:=fun y hy=>by
  rcases Ll.mp (hp.mem_iff.mp hy) with z|z
  ·exact .inl z
  ·rcases Ll.mp z with z|z
   ·exact .inl z
   ·exact .inr z
 have mem2:∀ y∈l.eraseIdx a,y∈l:=fun y hy=>hpm.mem_iff.mp (Le _ hy);refine⟨⟨?_,fun y hy=>?_,.inr fun y hy=>?_⟩,h3⟩
 ·have e1:=Kr.iL (L:=40) hpm;rw[h.ks,Kr.ks] at e1;rw[Kr.iL hp,Kr.ks,Kr.ks];have e2:2^(40-l[a])=2*2^(40-(l[a]+1)):=by rw[show 40-l[a]=(40-(l[a]+1))+1 by lia,M6];lia
  lia
 ·rcases mem y hy with rfl|z
  ·lia
  ·exact h.le y (mem2 y z)
 ·rcases mem y hy with rfl|z
  ·lia
  ·rcases h.one with e|e
   ·subst e;have ha0:a=0:=by simpa using ha
    subst ha0;cases z
   ·exact e y (mem2 y z)
abbrev k8z(P w K mg base):=ae P w K mg base aT 2 "_law_lengths" ["seed","many","most"] (spT K [true,false,false] Ca)
theorem xI(T:Txt K mg)(F:HasFn K mg "_law_lengths" bq ["seed","many","most"])(h_law_draw:k0z P w K mg base):k8z P w K mg base:=by
 refine F.i4 aK [true,false,false] rfl (by decide) ?_;left;obtain⟨sd,m,rfl,hsd,hm2,hm,q⟩:=h;refine⟨_,(Y.ai (Y.set (i:=3) aK.nd rfl (by right) (Y.lst (Y.cons Y.int Y.nil)))
   (Y.ai (Y.jS LQ (Y.bD kU Y.eO (Y.cb (Y.az K rfl) Y.aN rfl T.cu (by decide +kernel) (Y.cons (Y.vS 3) Y.nil)) (Y.vS 1)) (Y.ai (Y.CJ (j:=4) aK.nd rfl (by right) (osc:=aa bq) (ON:=["seed","many","most","found","short","at","one","longer"]) (own:=["k"]) (N:=["k","seed","many","most","found","short","at","one","longer"]) ⟨rfl,by decide +kernel,rfl,by decide +kernel,by decide +kernel,by decide +kernel,by decide +kernel,by decide +kernel⟩ rfl rfl rfl rfl (Y.kE rfl T.cI (Y.cons (Y.cb (Y.az K rfl) Y.aN rfl T.cu (by decide +kernel) (Y.cons (Y.vS 3) Y.nil)) Y.nil)) (fun _ _ _ _=>(Z.ax (i:=0) (show List.Nodup (["k","seed","many","most","found","short","at","one","longer"]:List Str) by decide +kernel) rfl (by right))) (fun _ _ _ _=>(Y.JF (Y.bD kU Y.eO (Y.ix (Y.bw K rfl) Y.ar (Y.vS 4) (Y.vS 0)) (Y.vS 3)))) (fun _ _ _ _=>(Y.vS 0)))
   (Y.ai (Y.set (i:=5) aK.nd rfl (by right) (Y.ix (Y.bw K rfl) Y.ar (Y.vS 4) (Y.fn K rfl h_law_draw (hr.mono (by decide)) rfl aq (Y.cons (Y.vS 0) (Y.cons (Y.cb (Y.az K rfl) Y.aN rfl T.cu (by decide +kernel) (Y.cons (Y.vS 4) Y.nil)) Y.nil)))))
   (Y.ai (Y.set (i:=6) aK.nd rfl (by right) (Y.op (Y.aB K rfl) Y.aC (Y.bm K rfl PySem.F.slot_list_pop PySem.F.type_list_pop wj Y.xf (Y.vS 3) (Y.cons (Y.vS 5) Y.nil)) Y.int))
   (Y.ai (Y.expr (Y.bm K rfl PySem.F.slot_list_append PySem.F.type_list_append cc Y.cF (Y.vS 3) (Y.cons (Y.vS 6) Y.nil)))
   (Y.ay (Y.expr (Y.bm K rfl PySem.F.slot_list_insert PySem.F.type_list_insert vb Y.uJ (Y.vS 3) (Y.cons (Y.fn K rfl h_law_draw (hr.mono (by decide)) rfl aq (Y.cons (Y.vS 0) (Y.cons (Y.op (Y.aB K rfl) Y.aC (Y.cb (Y.az K rfl) Y.aN rfl T.cu (by decide +kernel) (Y.cons (Y.vS 3) Y.nil)) Y.int) Y.nil))) (Y.cons (Y.vS 6) Y.nil))))))))))
   (Y.ai (Y.set (i:=7) aK.nd rfl (by right) (Y.fn K rfl h_law_draw (hr.mono (by decide)) rfl aq (Y.cons (Y.vS 0) (Y.cons Y.int Y.nil))))
   (Y.ai (Y.hW (Y.bD (Y.bP K rfl (LM hu)) Y.cZ (Y.vS 7) Y.int) (Y.ay (Y.asg (Y.ie (osc:=aa bq) (ON:=["seed","many","most","found","short","at","one","longer"]) (own:=["one"]) (N:=["one","seed","many","most","found","short","at",".one","longer"]) ⟨rfl,by decide +kernel,rfl,by decide +kernel,by decide +kernel,by decide +kernel,by decide +kernel,by decide +kernel⟩ rfl rfl rfl rfl (Y.anyS K rfl (Y.vS 3)) (fun _ _ _ _=>(Z.ax (i:=0) (show List.Nodup (["one","seed","many","most","found","short","at",".one","longer"]:List Str) by decide +kernel) rfl (by right))) (fun _ _ _ _=>Y.mZ) (fun _ _ _ _=>(Y.cb (lu rfl) Y.xo rfl T.Cc (by decide +kernel) (Y.cons (Y.vS 3) (Y.cons (Y.op (Y.aB K rfl) Y.aC (Y.vS 0) (Y.fn K rfl h_law_draw (hr.mono (by decide)) rfl aq (Y.cons (Y.vS 1) (Y.cons Y.int Y.nil)))) Y.nil))))) (Y.ax (i:=3) aK.nd rfl (by right)))) Y.cW)
   (Y.ay (Y.ret (Y.ct (Y.bY K rfl) Y.cU rfl T.cN (by decide +kernel) (Y.cons (Y.vS 3) Y.nil)))))))),?_⟩
 refine au fun N hN=>?_;rfl';refine⟨by decide,?_⟩
 symm;refine⟨fun mm μ=>∃(l:List Nat) (s:L2.T) (o5 o6:Option L2.T) (b4:Sl),dE s/\Pt l/\l.length<=m/\nb (some b4)=True/\mm=m-l.length/\μ=[.pb s,.tr (.int (m:Int)),.tr (.int 12),.bx (.lst (nI (nZ l))),b4,sl o5,sl o6,.un],⟨_,[0],sd,none,none,.un,hsd,⟨by decide,by simp,.inl rfl⟩,by simp;lia,rfl,rfl,rfl⟩,?_⟩
 rintro mm μ ⟨l,s,o5,o6,b4,hs,hl,hlm,hb4,rfl,rfl⟩;by_cases c:(l.length:Int)<(m:Int)
 ·exists aR,bH,Lg c;refine au fun M2 h2=>?_;exists aR,bH,hb4;refine⟨by lia,by lia,?_⟩
  rw[L6,Mp];refine bj (fun rest acc μ=>∃ i:Nat,i<=l.length/\(rest=(List.range' i (l.length-i)).map fun k:Nat=>L2.T.int (0+(k:Int)))/\acc=nI (nZ (low l i))/\μ=[.pb s,.tr (.int (m:Int)),.tr (.int 12),.bx (.lst (nI (nZ l))),b4,sl o5,sl o6,.un]) ⟨0,LA _,rfl,rfl,rfl⟩ ?_ ?_
  case refine_2 =>
   rintro t r acc μ M ⟨i,hi,e,rfl,rfl⟩ k;have hi2:i<l.length:=by
    have:=LF List.length e;rw[Ld,LU,KZ] at this;lia
   rw[show l.length-i=(l.length-(i+1))+1 by lia,Me,Lz] at e
   obtain⟨rfl,rfl⟩:=List.cons.inj e;clear e;have hlo:=rM l i;have ea:b9 (nI (nZ l)) (i:Int)=some (.int ((l[i]:Nat):Int)):=nQ (b6 (by unfold nZ;rw[Lw,KY hi2];rfl))
   refine⟨trivial,by rw[aR,bH];exact Lu (show _<=20 by lia) (by decide),?_⟩
   rw[Pe];have eg:l.getD i 0=l[i]:=by rw[Ls,KY hi2];rfl
   exists ea;by_cases c12:((l[i]:Nat):Int)<12
   ·rw[Lg c12];refine k _ _ ⟨i+1,hi2,rfl,?_,rfl⟩;rw[oO,eg,Lg (by lia)]
    unfold nI nZ;rw[Lv,Lv];rfl
   ·rw[K_ c12];refine k _ _ ⟨i+1,hi2,rfl,?_,rfl⟩;rw[oO,eg,K_ (by lia),L3]
  rintro acc μ ⟨i,hi,e,rfl,rfl⟩;have hi2:i=l.length:=by
   have:=LF List.length e;rw[Ld,LU,LI] at this;lia
  subst hi2;refine⟨trivial,?_⟩;exists hb4;refine h2 _ ?_;clear h2 M2;refine au fun M2 h2=>?_;exists aR,bH;have hlo:=rM l l.length;have hlp:=hl.low (by lia)
  refine⟨s,(low l l.length).length,rfl,hs,by lia,by lia,fun v s2 hs2 v0 v1=>?_⟩
  obtain⟨u,rfl⟩:∃ u:Nat,v=u:=⟨v.toNat,by lia⟩
  have hu':u<(low l l.length).length:=by lia
  obtain⟨a,ela⟩:∃ a,a=(low l l.length)[u]:=⟨_,rfl⟩;have ham:=AE (LL hu');rw[<- ela] at ham;have ha:a<l.length:=ham.1;have ha12:l[a]<12:=by
   have:=ham.2;rw[Ls,KY ha] at this;exact this
  have ea:b9 (nI (nZ (low l l.length))) (u:Int)=some (.int (a:Int)):=nQ (b6 (by unfold nZ;rw[Lw,KY hu',<- ela];rfl))
  exists ea;refine h2 _ ?_;clear h2 M2;refine au fun M2 h2=>?_;rfl';have six:seqIndex? (a:Int) (nI (nZ l)).length=some a:=by
   rw[aR,bH];unfold seqIndex?
   simp;lia
  have enZ:(nI (nZ l))[a]?=some (.int ((l[a]:Nat):Int)):=by unfold nI nZ;rw[Lw,Lw,KY ha];rfl
  have eer:(nI (nZ l)).eraseIdx a=nI (nZ (l.eraseIdx a)):=by
   unfold nI nZ;simp only[Nl,Lv,NX,OH]
  refine⟨by lia,by lia,a,_,six,enZ,?_⟩
  rw[eer];rfl';refine h2 _ ?_;clear h2 M2;have hpm:(l[a]::l.eraseIdx a).Perm l:=by
   rw[Nl]
   conv=>rhs;rw[<- Mk a l,<- PB ha]
   exact LW.symm
  have hle:=l.length_eraseIdx_of_lt ha;have hx:=hl.le _ (LL ha);refine au fun M2 h2=>?_;rfl';rw[aR,bH];refine⟨Lu (show _<=20 by lia) (by decide),?_⟩
  have eap:nI (nZ (l.eraseIdx a))++[L2.T.int (((l[a]:Nat):Int)+1)]=nI (nZ (l.eraseIdx a++[l[a]+1])):=by unfold nI nZ;rw[Lv,Lv];rfl
  rw[eap];refine h2 _ ?_;clear h2 M2;exists aR,bH;rw[KW,LO,hle];refine⟨s2,_,rfl,hs2,by lia,by lia,fun v s3 hs3 w0 w1=>?_⟩
  rfl';rw[aR,bH];have eins:∀ n:Nat,fU (nI (nZ (l.eraseIdx a++[l[a]+1]))) n (L2.T.int (((l[a]:Nat):Int)+1))=nI (nZ (fU (l.eraseIdx a++[l[a]+1]) n (l[a]+1))):=fun n=>by
   unfold fU nI nZ;simp only[Lv,NX,OH,Lz];rfl
  rw[eins];have hpi:∀ n:Nat,(fU (l.eraseIdx a++[l[a]+1]) n (l[a]+1)).Perm ((l[a]+1)::(l[a]+1)::l.eraseIdx a):=fun n=>by
   unfold fU;refine LW.trans ?_;rw[Mk];exact List.Perm.cons _ N4
  obtain⟨hP3,hL3⟩:=hl.next ha ha12 (hpi (min v.toNat (l.eraseIdx a++[l[a]+1]).length));refine⟨by lia,by lia,Lu (show _<=20 by rw[KW,LO,hle];lia) (by decide),m-(l.length+1),by lia,_,s3,some (.int (a:Int)),some (.int (((l[a]:Nat):Int)+1)),_,hs3,hP3,by rw[hL3];lia,rfl,by rw[hL3],rfl⟩
 ·exists aR,bH,K_ c;symm;rfl';have hlm2:l.length=m:=by lia
  have h1:∀ x∈l,1<=x:=by
   rcases hl.one with e|e
   ·exfalso;rw[e] at hlm2;simp at hlm2;lia
   ·exact e
  refine⟨s,3,rfl,hs,by decide,by decide,fun v s2 hs2 v0 v1=>?_⟩
  rfl';symm;by_cases cv:v=0
  ·exists Lg cv;refine bj (fun rest acc μ=>∃(x y ds:List Nat) (s:L2.T),x++y=l/\rest=nI (nZ y)/\acc=nI (nZ ds)/\ds.length=x.length/\Kr.ks 40 ds<=Kr.ks 40 x/\(∀ z∈ds,1<=z/\z<=12)/\dE s/\μ=[.pb s,.tr (.int (m:Int)),.tr (.int 12),.bx (.lst (nI (nZ l))),b4,sl o5,sl o6,.tr (.int v)]) ⟨[],l,[],s2,rfl,rfl,rfl,rfl,Lf _,(fun z hz=>by cases hz),hs2,rfl⟩ ?_ ?_
   ·rintro acc μ ⟨x,y,ds,s,e1,e2,rfl,hdl,hks,hd,hs,rfl⟩;have e3:y=[]:=by
     cases y with
     |nil=>rfl
     |cons=>cases e2
    subst e3;rw[L3] at e1;subst e1;refine⟨rfl,?_⟩;rfl';ac_rfl;rfl';exact q _ _ hs (by rw[hdl,hlm2]) hd (Lr hks (PV hl.ks))
   ·rintro t r acc μ M ⟨x,y,ds,s,e1,e2,rfl,hdl,hks,hd,hs,rfl⟩ k
    cases y with
    |nil=>cases e2
    |cons z y =>
     obtain⟨rfl,rfl⟩:=List.cons.inj e2;have hz:=h1 z (by rw[<- e1];simp)
     have hz2:=hl.le z (by rw[<- e1];simp)
     have hxl:x.length<=17:=by
      have:=LF List.length e1;rw[KW] at this;lia
     refine⟨rfl,by rw[aR,bH];exact Lu (show _<=20 by lia) (by decide),?_⟩
     rfl';refine⟨s,5,rfl,hs,by decide,by decide,fun u s3 hs3 u0 u1=>?_⟩
     obtain⟨uu,rfl⟩:∃ uu:Nat,u=uu:=⟨u.toNat,by lia⟩
     obtain⟨nz,enz,hnz⟩:∃ nz:Nat,(if ((z:Nat):Int)+(uu:Int)<12 then ((z:Nat):Int)+(uu:Int) else 12)=(nz:Int)/\z<=nz/\nz<=12:=by
      by_cases c:((z:Nat):Int)+(uu:Int)<12
      ·rw[Lg c];exact⟨z+uu,rfl,by lia,by lia⟩
      ·rw[K_ c];exact⟨12,rfl,by lia,by lia⟩
     exists enz;refine k _ _ ⟨x++[z],y,ds++[nz],s3,by rw[<- e1];simp,rfl,by unfold nI nZ;rw[Lv,Lv];rfl,by rw[KW,KW,hdl];rfl,?_,fun w hw=>?_,hs3,rfl⟩
     ·rw[Kr.b_,Kr.b_];have:2^(40-nz)<=2^(40-z):=Mb (by decide) (by lia)
      simp only[Kr.ks];lia
     ·rcases L1.mp hw with z'|z'
      ·exact hd w z'
      ·rw[Ln.mp z'];lia
  ·exists K_ cv;ac_rfl;rfl';exact q _ _ hs2 hlm2 (fun x hx=>⟨h1 x hx,hl.le x hx⟩) (PV hl.ks)
structure A7 (a b c:List Nat):Prop where
 la:a.length=9
 lb:b.length=17
 lc:c.length=8
 ra:FK a
 rb:FK b
 rc:FK c
 ka:Kr.ks 40 a<=2^40
 kb:Kr.ks 40 b<=2^40
 kc:Kr.ks 40 c<=2^40
noncomputable def Cv:dX:=fun args Q=>∃ s:L2.T,args=[s,.int 12]/\dE s/\∀(a b c:List Nat) (s':L2.T),dE s'->A7 a b c->Q (.tr (pN [nZ a,nZ b,nZ c])) [s']
abbrev k18z(P w K mg base):=ae P w K mg base aT 3 "_law_book" ["seed","most"] (spT K [true,false] Cv)
theorem AQ(T:Txt K mg)(F:HasFn K mg "_law_book" dF ["seed","most"])(h_law_draw:k0z P w K mg base)(h_law_lengths:k8z P w K mg base):k18z P w K mg base:=by
 refine F.i4 ny [true,false] rfl (by decide) ?_;left;obtain⟨sd,rfl,hs,q⟩:=h;refine⟨_,(Y.ai (Y.hW (Y.bD (Y.bP K rfl (LM hu)) Y.cZ (Y.fn K rfl h_law_draw (hr.mono (by decide)) rfl aq (Y.cons (Y.vS 0) (Y.cons Y.int Y.nil))) Y.int) (Y.ay (Y.ret (Y.tup (Y.cons (Y.op (Y.f9 K rfl) Y.f7 (Y.tup (Y.cons (Y.vS 1) Y.nil)) Y.int) (Y.cons (Y.op (Y.f9 K rfl) Y.f7 (Y.tup (Y.cons (Y.vS 1) Y.nil)) Y.int) (Y.cons (Y.op (Y.f9 K rfl) Y.f7 (Y.tup (Y.cons (Y.vS 1) Y.nil)) Y.int) Y.nil)))))) Y.cW)
   (Y.ay (Y.ret (Y.tup (Y.cons (Y.fn K rfl h_law_lengths (hr.mono (by decide)) rfl aq (Y.cons (Y.vS 0) (Y.cons Y.int (Y.cons (Y.vS 1) Y.nil)))) (Y.cons (Y.fn K rfl h_law_lengths (hr.mono (by decide)) rfl aq (Y.cons (Y.vS 0) (Y.cons Y.int (Y.cons (Y.vS 1) Y.nil)))) (Y.cons (Y.fn K rfl h_law_lengths (hr.mono (by decide)) rfl aq (Y.cons (Y.vS 0) (Y.cons Y.int (Y.cons (Y.vS 1) Y.nil)))) Y.nil))))))),?_⟩
 refine au fun N hN=>?_;rfl';refine⟨sd,8,rfl,hs,by decide,by decide,fun v s2 hs2 v0 v1=>?_⟩
 by_cases c:v=0
 ·exists Lg c;have r12:∀ n:Nat,FK (List.replicate n 12):=fun n x hx=>by rw[(MV.mp hx).2];decide
  exact⟨by decide,⟨by simp,by decide,by decide⟩,by decide,⟨by simp,by decide,by decide⟩,by decide,⟨by simp,by decide,by decide⟩,by decide,q (List.replicate 9 12) (List.replicate 17 12) (List.replicate 8 12) s2 hs2 ⟨rfl,rfl,rfl,r12 9,r12 17,r12 8,by decide +kernel,by decide +kernel,by decide +kernel⟩⟩
 ·exists K_ c;ac_rfl;rfl';refine⟨s2,9,rfl,hs2,by decide,by decide,fun a s3 hs3 la La oa=>?_⟩
  rfl';refine⟨s3,17,rfl,hs3,by decide,by decide,fun b s4 hs4 lb Lb ob=>?_⟩
  rfl';refine⟨s4,8,rfl,hs4,by decide,by decide,fun c s5 hs5 lc Lc oc=>?_⟩
  rfl';exact⟨by decide,q a b c s5 hs5 ⟨la,lb,lc,La,Lb,Lc,oa,ob,oc⟩⟩
theorem HI{C:Addr}(args:List L2.T)(Q:R->List L2.T->Prop)(h:xF args Q):Ck C args Q fun _=>False:=by
 obtain⟨ls,e,h1,h2,q⟩:=h;exact⟨ls,e,h1,.inl ⟨h2,q⟩⟩
noncomputable def wR(bk:List (List Int))(p:Nat×Nat):Int:=(bk.getD p.1 []).getD p.2 0
noncomputable def Iv(p:Nat×Nat):Prop:=(p.1=0/\p.2<9)\/(p.1=1/\p.2<17)\/(p.1=2/\p.2<8)
theorem mR{l:List Int}(h:nY l/\nG l=true){t:Nat}(ht:t<l.length):(((wordsOf Cw.ia l).getD t []).length:Int)=l.getD t 0:=by
 rw[(canon h.1 (Nx h.2)).eS t ht];unfold dR;have:=h.1.2.2 (l.getD t 0) (by rw[Ls,KY ht];exact LL ht)
 lia
theorem xm{bk:List (List Int)}(h:Bk bk)(hp:Iv p):((gg (dZ bk) p).length:Int)=wR bk p:=by
 obtain⟨a,b,c,rfl,la,lb,lc,hbl⟩:=h;obtain⟨x,y⟩:=p;rcases hp with ⟨rfl,hy⟩|⟨rfl,hy⟩|⟨rfl,hy⟩
 ·exact mR (hbl a (by simp)) (t:=y) (by rw[la];exact hy)
 ·exact mR (hbl b (by simp)) (t:=y) (by rw[lb];exact hy)
 ·exact mR (hbl c (by simp)) (t:=y) (by rw[lc];exact hy)
noncomputable def mG(bk:List (List Int))(r:Row):Int:=((cC r).map (wR bk)).sum
noncomputable def wW(r:Row):Int:=((se r).length:Int)
theorem lG{bk:List (List Int)}(h:Bk bk):∀ ps:List (Nat×Nat),(∀ p∈ps,Iv p)->((ps.flatMap (gg (dZ bk))).length:Int)=(ps.map (wR bk)).sum
 |[],_=>rfl
 |p::ps,hp=>by
  rw[M0,KW,Lz,M7,NJ,xm h (hp p Lj),lG h ps fun q hq=>hp q (Le _ hq)]
theorem vD{bk:List (List Int)}(h:Bk bk){r:Row}(hr:r.Ok k):((cS (dZ bk) r).length:Int)=mG bk r+wW r:=by
 unfold cS;rw[KW,NJ,lG h _ (mO hr)];rfl
noncomputable def ki(f:Row->Int):List Row->List Int->Int
 |r::rs,c::cs=>c*f r+ki f rs cs
 |_,_=>0
theorem nk(f g:Row->Int):∀(rs:List Row) (cs:List Int),ki (fun r=>f r+g r) rs cs=ki f rs cs+ki g rs cs
 |[],_=>rfl
 |_::_,[]=>rfl
 |r::rs,c::cs=>by
  show c*(f r+g r)+ki _ rs cs=c*f r+ki f rs cs+(c*g r+ki g rs cs);rw[nk f g rs cs,P6];lia
theorem gi:∀(l ls:List Int) (i:Nat) (c:Int),i<l.length->ls.length=l.length->dot (fG l i c) ls=dot l ls+c*ls.getD i 0
 |x::l,y::ls,0,c,_,_=>by
  show (x+c)*y+dot l ls=x*y+dot l ls+c*y;rw[Int.add_mul];lia
 |x::l,y::ls,i+1,c,h,he=>by
  have ih:=gi l ls i c (by simpa using h) (by simpa using he)
  show x*y+dot (fG l i c) ls=x*y+dot l ls+c*ls.getD i 0;rw[ih];lia
 |[],_,_,_,h,_=>absurd h (NG _)
 |_::_,[],_,_,_,he=>by cases he
structure Bl (bk:List (List Int)):Prop where
 l0:(bk.getD 0 []).length=9
 l1:(bk.getD 1 []).length=17
 l2:(bk.getD 2 []).length=8
noncomputable def cost(z:eN)(bk:List (List Int)):Int:=dot z.w (bk.getD 0 [])+dot z.c (bk.getD 1 [])+dot z.b (bk.getD 2 [])
structure Cl (z:eN):Prop where
 lw:z.w.length=9
 lc:z.c.length=17
 lb:z.b.length=8
theorem Cl.add{z:eN}(h:Cl z)(p:Nat×Nat)(c:Int):Cl (z.add p c):=by
 obtain⟨a,b,d⟩:=eN.tR z p c;exact⟨a.trans h.lw,b.trans h.lc,d.trans h.lb⟩
theorem vY{bk:List (List Int)}(hb:Bl bk){z:eN}(h:Cl z)(hp:Iv p)(c:Int):cost (z.add p c) bk=cost z bk+c*wR bk p:=by
 obtain⟨x,y⟩:=p;rcases hp with ⟨rfl,hy⟩|⟨rfl,hy⟩|⟨rfl,hy⟩
 ·show dot (fG z.w y c) _+dot z.c _+dot z.b _=_+_+_+c*(bk.getD 0 []).getD y 0;rw[gi _ _ _ _ (by rw[h.lw];exact hy) (by rw[h.lw,hb.l0])]
  omega
 ·show dot z.w _+dot (fG z.c y c) _+dot z.b _=_+_+_+c*(bk.getD 1 []).getD y 0;rw[gi _ _ _ _ (by rw[h.lc];exact hy) (by rw[h.lc,hb.l1])]
  omega
 ·show dot z.w _+dot z.c _+dot (fG z.b y c) _=_+_+_+c*(bk.getD 2 []).getD y 0;rw[gi _ _ _ _ (by rw[h.lb];exact hy) (by rw[h.lb,hb.l2])]
  omega
theorem lK{bk:List (List Int)}(hb:Bl bk)(c:Int):∀(ps:List (Nat×Nat)) {z:eN},Cl z->(∀ p∈ps,Iv p)->cost (ps.foldl (fun s p=>s.add p c) z) bk=cost z bk+c*(ps.map (wR bk)).sum/\Cl (ps.foldl (fun s p=>s.add p c) z)
 |[],z,h,_=>by
  refine⟨?_,h⟩;show cost z bk=cost z bk+c*0;lia
 |p::ps,z,h,hp=>by
  have ih:=lK hb c ps (h.add p c) fun q hq=>hp q (Le _ hq);refine⟨?_,ih.2⟩;rw[Pq,ih.1,vY hb h (hp p Lj),Lz,M7,P6];lia
theorem eA{bk:List (List Int)}(hb:Bl bk):∀(rs:List Row) (cs:List Int) {z:eN},Cl z->(∀ r∈rs,r.Ok k)->cost (counted rs cs z) bk=cost z bk+ki (mG bk) rs cs
 |[],_,z,_,_=>(Pf _).symm
 |_::_,[],z,_,_=>(Pf _).symm
 |r::rs,c::cs,z,h,ho=>by
  have h1:=lK hb c (cC r) h (mO (ho r Lj));rw[r_] at h1;show cost (counted rs cs (z.row r c)) bk=cost z bk+(c*mG bk r+ki (mG bk) rs cs);rw[eA hb rs cs h1.2 fun x hx=>ho x (Le _ hx),h1.1];unfold mG;lia
theorem gA:∀(n:Nat) (l:List Int),dot (List.replicate n 0) l=0
 |0,_=>rfl
 |_+1,[]=>rfl
 |n+1,x::l=>by
  show 0*x+dot (List.replicate n 0) l=0;rw[gA n l];lia
theorem uV(bk:List (List Int)):cost dW bk=0:=by
 unfold cost dW;rw[gA,gA,gA];rfl
noncomputable def dS(z:eN):List (List Int):=[nZ (aA z.w 12),nZ (aA z.c 12),nZ (aA z.b 12)]
theorem A7.bl(h:A7 a b c):Bl [nZ a,nZ b,nZ c]:=⟨by rw[<- h.la];exact bH a,by rw[<- h.lb];exact bH b,by rw[<- h.lc];exact bH c⟩
theorem mS(h0:0<a.length)(h1:a.length<=20)(h:FK a)(hk:Kr.ks 40 a<=2^40):nY (nZ a)/\nG (nZ a)=true:=by
 refine⟨⟨by rw[bH];exact h0,by rw[bH];exact h1,fun x hx=>?_⟩,?_⟩
 ·obtain⟨y,hy,rfl⟩:=LD.mp hx;have:=h y hy;lia
 ·unfold nG KS nZ;rw[Ml,show (Int.toNat ∘ fun k:Nat=>(k:Int))=id from funext fun k=>L6 k,List.map_id];exact Mi hk
theorem A7.bk(h:A7 a b c):Bk [nZ a,nZ b,nZ c]:=by
 refine⟨_,_,_,rfl,by rw[bH,h.la],by rw[bH,h.lb],by rw[bH,h.lc],fun l hl=>?_⟩
 rcases Ll.mp hl with rfl|hl
 ·exact mS (by rw[h.la];decide) (by rw[h.la];decide) h.ra h.ka
 ·rcases Ll.mp hl with rfl|hl
  ·exact mS (by rw[h.lb];decide) (by rw[h.lb];decide) h.rb h.kb
  ·rw[Ln.mp hl];exact mS (by rw[h.lc];decide) (by rw[h.lc];decide) h.rc h.kc
theorem tQ{z:eN}(h:z.Ok):t9 z.w 12 (aA z.w 12)/\t9 z.c 12 (aA z.c 12)/\t9 z.b 12 (aA z.b 12):=
 ⟨hV h.nw (by rw[h.lw];decide) (by rw[h.lw];decide) (by decide) (by decide) (by rw[h.lw];decide),hV h.nc (by rw[h.lc];decide) (by rw[h.lc];decide) (by decide) (by decide) (by rw[h.lc];decide),hV h.nb (by rw[h.lb];decide) (by rw[h.lb];decide) (by decide) (by decide) (by rw[h.lb];decide)⟩
theorem gE{z:eN}(h:z.Ok):A7 (aA z.w 12) (aA z.c 12) (aA z.b 12):=by
 obtain⟨a,b,c⟩:=tQ h;exact⟨a.len.trans h.lw,b.len.trans h.lc,c.len.trans h.lb,a.dB,b.dB,c.dB,a.ks,b.ks,c.ks⟩
theorem qX{z:eN}(h:z.Ok)(g:A7 a b c):cost z (dS z)<=cost z [nZ a,nZ b,nZ c]:=by
 obtain⟨x,y,w⟩:=tQ h;have h1:=x.low a (by rw[g.la,h.lw]) g.ra g.ka
 have h2:=y.low b (by rw[g.lb,h.lc]) g.rb g.kb
 have h3:=w.low c (by rw[g.lc,h.lb]) g.rc g.kc
 show dot _ _+dot _ _+dot _ _<=dot _ _+dot _ _+dot _ _;exact Int.add_le_add (Int.add_le_add h1 h2) h3
theorem vj{rs:List Row}(hc:∀ x∈cs,0<=x)(ho:∀ r∈rs,r.Ok k)(g:A7 a b c):ki (mG (dS (counted rs cs dW))) rs cs<=ki (mG [nZ a,nZ b,nZ c]) rs cs:=by
 have hz:=eM rs cs mH hc;have h1:=eA (gE hz).bl rs cs (z:=dW) ⟨rfl,rfl,rfl⟩ ho;have h2:=eA g.bl rs cs (z:=dW) ⟨rfl,rfl,rfl⟩ ho;have h3:=qX hz g;rw[uV] at h1 h2;have e:dS (counted rs cs dW)=[nZ (aA (counted rs cs dW).w 12),nZ (aA (counted rs cs dW).c 12),nZ (aA (counted rs cs dW).b 12)]:=rfl;rw[e] at h3 ⊢;lia
noncomputable def fF(bk:List (List Int))(r:Row):Int:=mG bk r+wW r
theorem lH(f:Row->Int):∀(rs:List Row) (cs:List Int),cs.length=rs.length->ki f rs cs=((List.range rs.length).map fun k=>cs.getD k 0*f (rs.getD k .halt)).sum
 |[],cs,_=>rfl
 |r::rs,[],h=>by cases h
 |r::rs,c::cs,h=>by
  show c*f r+ki f rs cs=_;rw[lH f rs cs (by simpa using h),KZ,P4,Lz,M7,Ml]
  rfl
theorem t6:∀(ss:List Int) (a:Int),(jm a ss).length=ss.length
 |[],_=>rfl
 |_::ss,_=>LF (·+1) (t6 ss _)
theorem yQ:∀(ss:List Int) (a:Int) (i:Nat),i<ss.length->(a::jm a ss).getD (i+1) 0=(a::jm a ss).getD i 0+ss.getD i 0
 |[],_,_,h=>absurd h (NG _)
 |s::ss,a,0,_=>rfl
 |s::ss,a,i+1,h=>yQ ss (a+s) i (by simpa using h)
theorem rY:∀(ss:List Int) (a:Int),(a::jm a ss).getD ss.length 0=a+ss.sum
 |[],a=>(Pf a).symm
 |s::ss,a=>by
  show ((a+s)::jm (a+s) ss).getD ss.length 0=a+(s+ss.sum);rw[rY ss (a+s)];lia
theorem jF:∀ hs:List (List Nat),(hs.flatten.length:Int)=(d4 hs).sum
 |[]=>rfl
 |h::hs=>by
  rw[LX,KW,NJ,jF hs];rfl
theorem size_map{bk:List (List Int)}(hB:Bk bk){rs:List Row}(ho:∀ r∈rs,r.Ok k):d4 (rs.map (cS (dZ bk)))=rs.map (fF bk):=by
 unfold d4;rw[Ml];exact M4 fun r hr=>vD hB (ho r hr)
theorem rZ(f:Row->Int):∀ rs:List Row,ki f rs (List.replicate rs.length 1)=(rs.map f).sum
 |[]=>rfl
 |r::rs=>by
  show 1*f r+ki f rs (List.replicate rs.length 1)=f r+(rs.map f).sum;rw[rZ f rs];lia
noncomputable def HL:dX:=fun args Q=>∃(rs:List Row) (cs:List Int) (bk:List (List Int)),args=[.tup (rT rs),.tup (nI cs),pN bk]/\Bk bk/\Hx rs (dZ bk)/\cs.length=rs.length/\(∀ x∈cs,0<=x/\x<2^60)/\Q (.tr (.int (ki (fF bk) rs cs))) []
theorem EA{ps:List Int}{x:Int}(h:ps[j]?=some x):b9 (nI ps) (j:Int)=some (.int x):=nQ (b6 h)
theorem pY{ps:List Int}(h:j<ps.length):ps[j]?=some (ps.getD j 0):=by
 rw[Ls,KY h];rfl
abbrev k6z(P w K mg base):=ae P w K mg base aT 8 "_law_sum" ["program","counts","book"] (spT K [false,false,false] HL)
theorem DE(T:Txt K mg)(F:HasFn K mg "_law_sum" d6 ["program","counts","book"])(hpack_rows:k2z P w K mg base):k6z P w K mg base:=by
 refine F.i4 dN [false,false,false] rfl (by decide) ?_;left;obtain⟨rs,cs,bk,rfl,hB,hP,hcl,hc,q⟩:=h;have h60:=hP.le;have hsm:=size_map hB hP.ok;have hsz:=hP.sz;have hfs:=jF (rs.map (cS (dZ bk)));refine⟨_,(Y.ai (Y.asg (Y.fn K rfl hpack_rows (hr.mono (by decide)) rfl aq (Y.cons (Y.vS 0) (Y.cons (Y.vS 2) Y.nil))) (Y.o8 (n:=2) K rfl rfl (Y.aW (Y.ax (i:=3) dN.nd rfl (by right)) (Y.aW (Y.ax (i:=4) dN.nd rfl (by right)) Y.eQ))))
   (Y.ai (Y.set (i:=5) dN.nd rfl (by right) (Y.op (Y.aB K rfl) Y.aC (Y.ct (Y.q_ K rfl rfl) Y.Ak rfl T.yY (by decide +kernel) (Y.cons (Y.vS 4) Y.nil)) (Y.lst (Y.cons (Y.cb (Y.az K rfl) Y.aN rfl T.cu (by decide +kernel) (Y.cons (Y.vS 3) Y.nil)) Y.nil))))
   (Y.ay (Y.ret (Y.cb (Y.tW K rfl rfl) Y.Eo rfl T.Hu (by decide +kernel) (Y.cons (Y.ie (osc:=aa d6) (ON:=["program","counts","book","bits","places","ends"]) (own:=["k"]) (N:=["k","program","counts","book","bits","places","ends"]) ⟨rfl,by decide +kernel,rfl,by decide +kernel,by decide +kernel,by decide +kernel,by decide +kernel,by decide +kernel⟩ rfl rfl rfl rfl (Y.kE rfl T.cI (Y.cons (Y.cb (Y.az K rfl) Y.aN rfl T.cu (by decide +kernel) (Y.cons (Y.vS 0) Y.nil)) Y.nil)) (fun _ _ _ _=>(Z.ax (i:=0) (show List.Nodup (["k","program","counts","book","bits","places","ends"]:List Str) by decide +kernel) rfl (by right))) (fun _ _ _ _=>Y.mZ) (fun _ _ _ _=>(Y.op (Y.dh K rfl) Y.cf (Y.ix (Y.bw K rfl) Y.ar (Y.vS 2) (Y.vS 0)) (Y.op d5 Y.cw (Y.ix (Y.bw K rfl) Y.ar (Y.vS 6) (Y.op (Y.aB K rfl) Y.aC (Y.vS 0) Y.int)) (Y.ix (Y.bw K rfl) Y.ar (Y.vS 6) (Y.vS 0)))))) Y.nil)))))),?_⟩
 refine au fun N hN=>?_;rfl';refine⟨rs,bk,rfl,hB,hP,?_⟩;rw[hsm] at hsz hfs ⊢;have hl1:(rs.map (fF bk)).length=rs.length:=Ld ..;obtain⟨Pl,ePl⟩:∃ Pl,Pl=DG (rs.map (fF bk)):=⟨_,rfl⟩;have hPl:Pl.length=rs.length+1:=by rw[ePl];show (jm 0 _).length+1=_;rw[t6,hl1]
 have hbl:((rs.map (cS (dZ bk))).flatten.length:Int)=Pl.getD rs.length 0:=by
  have:=rY (rs.map (fF bk)) 0;rw[hl1,Pe] at this;rw[hfs,ePl];exact this.symm
 have hstep:∀ i,i<rs.length->Pl.getD (i+1) 0-Pl.getD i 0=fF bk (rs.getD i .halt):=fun i hi=>by
  have:=yQ (rs.map (fF bk)) 0 i (by rw[hl1];exact hi)
  have e:(rs.map (fF bk)).getD i 0=fF bk (rs.getD i .halt):=by
   rw[Ls,Lw,KY hi,Ls,KY hi];rfl
  rw[ePl,<- e];show (0::jm 0 _).getD (i+1) 0-(0::jm 0 _).getD i 0=_;lia
 have hb2:(rs.map (cS (dZ bk))).flatten.length<=20000:=by
  have key:∀ l:List Int,(∀ x∈l,0<=x/\x<=150)->l.sum<=150*(l.length:Int):=fun l=>by
   induction l with
   |nil=>exact fun _=>MR 0
   |cons p l ih =>
    intro h;have h1:=h p Lj;have h2:=ih fun q hq=>h q (Le _ hq);rw[M7,KZ];lia
  have:=key _ hsz;rw[hl1] at this;lia
 rw[<- ePl];clear ePl;generalize (rs.map (cS (dZ bk))).flatten=bits at hbl hb2 ⊢;rfl';ac_rfl;have epl:Pl.dropLast++[(bits.length:Int)]=Pl:=by
  have hne:Pl≠[]:=fun z=>by rw[z] at hPl;simp at hPl
  have:=List.dropLast_concat_getLast hne;rw[List.getLast_eq_getElem] at this;rw[hbl]
  conv=>rhs;rw[<- this]
  congr 2;rw[Ls,KY (by lia)]
  show Pl[rs.length]=_;congr 1;lia
 have epl2:nI Pl.dropLast++[L2.T.int (bits.length:Int)]=nI Pl:=by rw[<- epl,gY];simp;rfl
 have sz:∀ n:Nat,n<=20000->n<=sizeLine:=fun n h=>Lr h (by decide)
 refine au fun N hN=>?_;exists cA,aR;rw[epl2];refine⟨sz _ hb2,by decide,sz _ (by rw[Ox];lia),?_⟩
 ac_rfl;exists jC;refine⟨by lia,by lia,?_⟩
 rw[L6,Mp];refine bj (fun rest acc μ=>∃ i:Nat,i<=rs.length/\(rest=(List.range' i (rs.length-i)).map fun k:Nat=>L2.T.int (0+(k:Int)))/\(acc=nI ((List.range i).map fun k=>cs.getD k 0*fF bk (rs.getD k .halt)))/\μ=[.tr (.tup (rT rs)),.tr (.tup (nI cs)),.tr (pN bk),.tr (.str (wd bits)),.tr (.tup (nI Pl.dropLast)),.bx (.lst (nI Pl))]) ⟨0,LA _,rfl,rfl,rfl⟩ ?_ ?_
 ·rintro acc μ ⟨i,hi,e,rfl,rfl⟩;have hi2:i=rs.length:=by
   have:=LF List.length e;rw[Ld,LU,LI] at this;lia
  subst hi2;refine⟨trivial,?_⟩;rfl';refine⟨_,rfl,?_⟩;rw[<- lH _ _ _ hcl];exact q
 ·rintro t r acc μ M ⟨i,hi,e,rfl,rfl⟩ k;have hi2:i<rs.length:=by
   have:=LF List.length e;rw[Ld,LU,KZ] at this;lia
  rw[show rs.length-i=(rs.length-(i+1))+1 by lia,Me,Lz] at e
  obtain⟨rfl,rfl⟩:=List.cons.inj e;clear e;refine⟨trivial,by rw[aR,Ld,L7];exact Lu (show i<=60 by lia) (by decide),?_⟩
  rw[Pe];have p1:b9 (nI Pl) (i:Int)=some (.int (Pl.getD i 0)):=EA (pY (by lia))
  have p2:b9 (nI Pl) ((i:Int)+1)=some (.int (Pl.getD (i+1) 0)):=EA (j:=i+1) (pY (by lia))
  have pc:b9 (nI cs) (i:Int)=some (.int (cs.getD i 0)):=EA (pY (by lia))
  have hci:=hc (cs.getD i 0) (by rw[Ls,KY (by lia)];exact LL _)
  exists p1,p2,pc;rw[hstep i hi2];refine⟨.inl ⟨by lia,by lia⟩,?_⟩
  refine k _ _ ⟨i+1,hi2,rfl,?_,rfl⟩;rw[MF,Lv,gY];rfl
theorem rO(z:eN):x5 z=pN (dS z):=by
 unfold x5 pN dS nN nI nZ;simp only[Lz,List.map_nil,Ml];rfl
theorem DT{f:Addr}(T:Txt K mg)(F:zO K "law" "law" fJ f fd)(h_law_folded:ae P w K mg base aT 1 "_law_folded" ["script"] (spT K [false] CD))(h_law_seed:ae P w K mg base aT 1 "_law_seed" ["cell"] (spT K [false] Cs))(h_law_program:k7z P w K mg base)(h_law_book:k18z P w K mg base)(h_law_counts:k16z P w K mg base)
  (hpack_rows:k2z P w K mg base) (hbook_of:k15z P w K mg base) (h_law_sum:k6z P w K mg base):dC P w K mg base aT 9 f fd ["script"] (lj K):=by
 refine E2 (BH F dz [false] rfl (by decide) (fun args Qt hl h cdv A outer s H E hr=>?_))
 have hu:=aP hr;obtain⟨ns,rfl,hn,q⟩:=h;refine⟨_,(Y.ai (Y.e_ LQ rfl (Y.anyS K rfl (Y.op (Y.aB K rfl) Y.aC (Y.je K rfl (Y.vS 0) Y.EF (Y.DR Y.int)) (Y.lst (Y.cons (Y.fn K rfl h_law_folded (hr.mono (by decide)) rfl aq (Y.cons (Y.vS 0) Y.nil)) Y.nil)))) (Y.ax (i:=1) dz.nd rfl (by right)) (Y.ai (Y.set (i:=2) dz.nd rfl (by right) (Y.fn K rfl h_law_seed (hr.mono (by decide)) rfl aq (Y.cons (Y.vS 1) Y.nil)))
   (Y.ai (Y.set (i:=3) dz.nd rfl (by right) (Y.fn K rfl h_law_program (hr.mono (by decide)) rfl aq (Y.cons (Y.vS 2) (Y.cons Y.int (Y.cons Y.int Y.nil)))))
   (Y.ai (Y.set (i:=4) dz.nd rfl (by right) (Y.fn K rfl h_law_counts (hr.mono (by decide)) rfl aq (Y.cons (Y.vS 2) (Y.cons (Y.cb (Y.az K rfl) Y.aN rfl T.cu (by decide +kernel) (Y.cons (Y.vS 3) Y.nil)) Y.nil))))
   (Y.ai (Y.set (i:=5) dz.nd rfl (by right) (Y.fn K rfl hbook_of (hr.mono (by decide)) rfl aq (Y.cons (Y.vS 3) (Y.cons (Y.vS 4) Y.nil))))
   (Y.ai (Y.set (i:=6) dz.nd rfl (by right) (Y.fn K rfl hbook_of (hr.mono (by decide)) rfl aq (Y.cons (Y.vS 3) (Y.cons (Y.op (Y.f9 K rfl) Y.f7 (Y.tup (Y.cons Y.int Y.nil)) (Y.cb (Y.az K rfl) Y.aN rfl T.cu (by decide +kernel) (Y.cons (Y.vS 3) Y.nil))) Y.nil))))
   (Y.ai (Y.set (i:=7) dz.nd rfl (by right) (Y.fn K rfl h_law_sum (hr.mono (by decide)) rfl aq (Y.cons (Y.vS 3) (Y.cons (Y.vS 4) (Y.cons (Y.vS 5) Y.nil)))))
   (Y.ai (Y.set (i:=8) dz.nd rfl (by right) (Y.ix (Y.bw K rfl) Y.ar (Y.fn K rfl hpack_rows (hr.mono (by decide)) rfl aq (Y.cons (Y.vS 3) (Y.cons (Y.vS 6) Y.nil))) Y.int))
   (Y.ai (Y.hW (Y.tw (Y.GL (Y.uF (Y.t4 K rfl (Y.KL (C:="str") K rfl rfl T.lQ (Y.vS 8) rfl T.C5 (by decide +kernel)))) (Y.yE (Y.bD rR Y.eO (Y.cb (Y.az K rfl) Y.aN rfl T.cu (by decide +kernel) (Y.cons (Y.vS 8) Y.nil)) (Y.fn K rfl h_law_sum (hr.mono (by decide)) rfl aq (Y.cons (Y.vS 3) (Y.cons (Y.op (Y.f9 K rfl) Y.f7 (Y.tup (Y.cons Y.int Y.nil)) (Y.cb (Y.az K rfl) Y.aN rfl T.cu (by decide +kernel) (Y.cons (Y.vS 3) Y.nil))) (Y.cons (Y.vS 5) Y.nil)))))))) (Y.ay (Y.ret Y.bl)) Y.cW)
   (Y.ay (Y.e_ LQ rfl (Y.kE rfl T.cI (Y.cons Y.int Y.nil)) (Y.ax (i:=9) dz.nd rfl (by right)) (Y.ai (Y.set (i:=10) dz.nd rfl (by right) (Y.fn K rfl h_law_book (hr.mono (by decide)) rfl aq (Y.cons (Y.vS 2) (Y.cons Y.int Y.nil))))
   (Y.ay (Y.hW (Y.tw (Y.GL (Y.bD rR Y.eO (Y.vS 7) (Y.fn K rfl h_law_sum (hr.mono (by decide)) rfl aq (Y.cons (Y.vS 3) (Y.cons (Y.vS 4) (Y.cons (Y.vS 10) Y.nil))))) (Y.yE (Y.bD rR Y.eO (Y.cb (Y.az K rfl) Y.aN rfl T.cu (by decide +kernel) (Y.cons (Y.vS 8) Y.nil)) (Y.cb (Y.az K rfl) Y.aN rfl T.cu (by decide +kernel) (Y.cons (Y.ix (Y.bw K rfl) Y.ar (Y.fn K rfl hpack_rows (hr.mono (by decide)) rfl aq (Y.cons (Y.vS 3) (Y.cons (Y.vS 10) Y.nil))) Y.int) Y.nil)))))) (Y.ay (Y.ret Y.bl)) Y.cW))))))))))))))
   (Y.ay (Y.ret Y.bl))),?_⟩
 refine au fun N hN=>?_;show Y.vU _ _ _ _ (startM [false] [.dU (nI ns)] _);rfl';refine⟨ns,rfl,fun fv=>?_⟩;obtain⟨ms,hms,hlm⟩:∃ ms:List Int,Y.bM (nI ns) none (some 3)++[L2.T.int fv]=nI ms/\(Y.bM (nI ns) none (some 3)).length<=3:=by
  refine⟨Y.bM ns none (some 3)++[fv],?_,?_⟩
  ·unfold nI Y.bM;rw[Lv,NX,OH,Ld];rfl
  ·unfold Y.bM;rw[show (some (3:Int))=some ((3:Nat):Int) from rfl,HT.fb,HT.ni,LR];lia
 exists hms;refine⟨by decide,Lr (show (Y.bM (nI ns) none (some 3)).length+1<=4 by lia) (by decide),?_⟩
 clear hms hlm;refine bT (fun rest μ=>∃(ms:List Int) (s1 s3 s4 s5 s6 s7 s8 s9 s10:Option L2.T) (sd:Sl),rest=nI ms/\(sd=.un\/∃ c,sd=.bx c)/\μ=[.tr (.dU (nI ns)),sl s1,sd,sl s3,sl s4,sl s5,sl s6,sl s7,sl s8,sl s9,sl s10]) ⟨ms,none,none,none,none,none,none,none,none,none,.un,rfl,.inl rfl,rfl⟩ ?_ ?_
 ·rintro μ ⟨ms,s1,s3,s4,s5,s6,s7,s8,s9,s10,sd,_,_,rfl⟩;show N _;ac_rfl;rfl';exact q
 ·rintro t ts μ M ⟨ms,s1,s3,s4,s5,s6,s7,s8,s9,s10,sd,e,hsd,rfl⟩ k
  cases ms with
  |nil=>cases e
  |cons m ms =>
   cases e;have nsd:nb (some sd)=True:=by rcases hsd with rfl|⟨c,rfl⟩<;>rfl
   rfl';refine au fun M' hM=>?_;exists nsd;refine⟨m,rfl,fun sd1 hs1=>?_⟩;exists nsd;refine hM _ ?_;clear hM M';refine au fun M' hM=>?_;rfl';refine⟨sd1,rfl,hs1,fun rs sd2 hs2 h60 hos=>?_⟩;have aD:∀ r∈rs,r.Ok rs.length:=fun r hr=>(hos r hr).1;have hst:∀ r∈rs,r.st=true:=fun r hr=>(hos r hr).2;have hok6:∀ r∈rs,r.Ok 60:=fun r hr=>(aD r hr).mono h60;rfl';refine hM _ ?_;clear hM M';refine au fun M' hM=>?_;exists jC;refine⟨sd2,rs.length,rfl,hs2,h60,fun cs sd3 hs3 hcl hcs=>?_⟩;have hc0:∀ x∈cs,0<=x:=fun x hx=>(hcs x hx).1;rfl';refine hM _ ?_;clear hM M';have hz:=eM rs cs mH hc0;have hone:∀ x∈List.replicate rs.length (1:Int),0<=x/\x<2^60:=fun x hx=>by rw[(MV.mp hx).2];decide
   have hz1:=eM rs (List.replicate rs.length 1) mH fun x hx=>(hone x hx).1;have prg:∀{bk:List (List Int)},Bk bk->Hx rs (dZ bk):=fun h=>⟨h60,aD,h.cd,hst⟩;have hB0:=(gE hz).bk;have hB1:=(gE hz1).bk;have low:∀{cs:List Int} {a b c:List Nat},(∀ x∈cs,0<=x)->A7 a b c->ki (fF (dS (counted rs cs dW))) rs cs<=ki (fF [nZ a,nZ b,nZ c]) rs cs:=fun hc g=>by
    have:=vj hc aD g;have e:∀ bk:List (List Int),fF bk=fun r=>mG bk r+wW r:=fun _=>rfl;rw[e,e,nk,nk];lia
   refine au fun M' hM=>?_;rfl';refine⟨rs,cs,rfl,hcl.symm,h60,hok6,?_⟩;rw[rO];rfl';refine hM _ ?_;clear hM M';refine au fun M' hM=>?_;exists jC,L6,iW;refine⟨by decide,⟨by simp,by lia,by lia⟩,rs,List.replicate rs.length 1,rfl,Lp.symm,h60,hok6,?_⟩
   rw[rO];rfl';refine hM _ ?_;clear hM M';refine au fun M' hM=>?_;rfl';refine⟨rs,cs,_,rfl,hB0,prg hB0,hcl,hcs,?_⟩;rfl';refine hM _ ?_;clear hM M';have pk:∀{bk:List (List Int)},Bk bk->∃(z:List Nat) (ps:L2.T),z.length<=20000/\(z.length:Int)=ki (fF bk) rs (List.replicate rs.length 1)/\∀ Q:R->List L2.T->Prop,Q (.tr (.tup [.str (wd z),ps])) []->sC [.tup (rT rs),pN bk] Q:=fun {bk} hB=>by
    have hP:=prg hB;have hsz:=hP.sz;have hfs:=jF (rs.map (cS (dZ bk)));rw[size_map hB aD] at hsz hfs;have key:∀ l:List Int,(∀ x∈l,0<=x/\x<=150)->l.sum<=150*(l.length:Int):=fun l=>by
     induction l with
     |nil=>exact fun _=>MR 0
     |cons p l ih =>
      intro h;have h1:=h p Lj;have h2:=ih fun q hq=>h q (Le _ hq);rw[M7,KZ];lia
    have hk:=key _ hsz;rw[Ld] at hk;exact⟨_,_,by lia,hfs.trans (rZ _ _).symm,fun Q q=>⟨rs,bk,rfl,hB,hP,q⟩⟩
   obtain⟨z1,p1,hz20,hz1l,hp1⟩:=pk hB1;have sz:∀ n:Nat,n<=20000->n<=sizeLine:=fun n h=>Lr h (by decide)
   refine au fun M' hM=>?_;rfl';refine hp1 _ ?_;rfl';refine hM _ ?_;clear hM M';refine au fun M' hM=>?_;have t2:kC "str" "str"=true:=by decide +kernel
   exists t2,cA,jC,L6,iW;refine⟨sz _ hz20,by decide,⟨by simp,by lia,by lia⟩,rs,List.replicate rs.length 1,_,rfl,hB0,prg hB0,Lp,hone,?_⟩
   have le1:=low (fun x hx=>(hone x hx).1) (gE hz);have le1':¬ ki (fF (dS (counted rs cs dW))) rs (List.replicate rs.length 1)<(z1.length:Int):=by
    rw[hz1l];exact Int.not_lt.mpr le1
   exists K_ le1';refine hM _ ?_;clear hM M';rfl';refine⟨by decide,by decide,?_⟩
   generalize ebt:pN (dS (counted rs cs dW))=bt;generalize ebu:pN (dS (counted rs (List.replicate rs.length 1) dW))=bu;refine bT (fun rest μ=>∃(sd:L2.T) (s9 s10:Option L2.T),dE sd/\μ=[.tr (.dU (nI ns)),.tr (.int m),.bx sd,.tr (.tup (rT rs)),.tr (.tup (nI cs)),.tr bt,.tr bu,.tr (.int (ki (fF (dS (counted rs cs dW))) rs cs)),.tr (.str (wd z1)),sl s9,sl s10]) ⟨sd3,s9,s10,hs3,rfl⟩ ?_ ?_
   ·rintro μ ⟨sd,s9,s10,hs,rfl⟩;exact k _ ⟨ms,some _,some _,some _,some _,some _,some _,some _,s9,s10,_,rfl,.inr ⟨_,rfl⟩,rfl⟩
   ·rintro t ts μ M2 ⟨sd,s9,s10,hs,rfl⟩ k2;rfl';refine au fun M' hM=>?_;rfl';refine⟨sd,rfl,hs,fun a b c sd4 hs4 hg=>?_⟩;rfl';refine hM _ ?_;clear hM M';have hBg:=hg.bk;have lea:=Int.not_lt.mpr (low hc0 hg);have leb:=low (fun x hx=>(hone x hx).1) hg;obtain⟨z2,p2,hz2,hz2l,hp2⟩:=pk hBg;have leb':¬ (z2.length:Int)<(z1.length:Int):=by
     rw[hz1l,hz2l];exact Int.not_lt.mpr leb
    rfl';refine⟨rs,cs,_,rfl,hBg,prg hBg,hcl,hcs,?_⟩;exists lea,cA;refine⟨sz _ hz20,hp2 _ ?_⟩;exists cA;refine⟨sz _ hz2,?_⟩;rw[K_ leb'];exact k2 _ ⟨sd4,some _,some _,hs4,rfl⟩
theorem Ew{f:Addr}(T:Txt K mg)(f_can_be:HasFn K mg "can_be" gv ["lengths"])(f_least_lengths:HasFn K mg "least_lengths" aX ["counts","bound"])(f_chosen_things:HasFn K mg "chosen_things" bB ["counts","bound"])(f_by_worth:HasFn K mg "by_worth" bW ["shelf"])(f_packs_of:HasFn K mg "packs_of" dv ["shelf"])(f_code_of:HasFn K mg "code_of" bX ["lengths"])(f_word_behind:HasFn K mg "word_behind" cM ["ahead","length"])(f_goal_of:HasFn K mg "goal_of" fA ["row"])(f_least_widths:HasFn K mg "least_widths" cx ["sizes","goals"])(f_raised_till_good:HasFn K mg "raised_till_good" b8 ["sizes","goals"])(f_narrowest:HasFn K mg "narrowest" cV ["goals"])(f_first_too_narrow:HasFn K mg "first_too_narrow" b7 ["sizes","goals","widths"])(f_fits:HasFn K mg "fits" pP ["starts","goals","widths","row"])(f_distance_of:HasFn K mg "distance_of" dP ["starts","goals","row"])(f_row_starts:HasFn K mg "row_starts" c_ ["sizes","widths"])(f_own_part:HasFn K mg "own_part" eC ["width"])(f_book_of:HasFn K mg "book_of" dm ["program","counts"])(f_coded_things:HasFn K mg "coded_things" cy ["row"])(f_codes_of:HasFn K mg "codes_of" d3 ["book"])(f_pack_rows:HasFn K mg "pack_rows" bL ["program","book"])(f_bits_ahead_of_goal:HasFn K mg "bits_ahead_of_goal" aI ["row","codes"])(f_figures_behind_first:HasFn K mg "figures_behind_first" aO ["number"])(f_jump_written:HasFn K mg "jump_written" d9 ["width","distance"])(f_last_figures:HasFn K mg "last_figures" cm ["number","many"])(l_folded:HasFn K mg "_law_folded" cO ["script"])(l_seed:HasFn K mg "_law_seed" dJ ["cell"])(l_draw:HasFn K mg "_law_draw" dH ["seed","most"])(l_words:HasFn K mg "_law_words" di [])(l_number:HasFn K mg "_law_number" cJ ["seed"])(l_row:HasFn K mg "_law_row" eB ["seed","many","words"])(l_program:HasFn K mg "_law_program" bK ["seed","most","words"])(l_lengths:HasFn K mg "_law_lengths" bq ["seed","many","most"])(l_book:HasFn K mg "_law_book" dF ["seed","most"])(l_counts:HasFn K mg "_law_counts" bQ ["seed","many"])(l_sum:HasFn K mg "_law_sum" d6 ["program","counts","book"])(F:zO K "law" "law" fJ f fd):dC P w K mg base aT 9 f fd ["script"] (lj K):=by
 obtain⟨C_NoCode,hC_NoCode,kC_NoCode⟩:=T.xs;have dr:=Bm (P:=P) (w:=w) (base:=base) T l_draw;have wd9:=vC (P:=P) (w:=w) (base:=base) T l_words;have st:=kB (P:=P) (w:=w) (base:=base) T f_row_starts (nH T f_own_part);have la:=As (P:=P) (w:=w) (base:=base) T f_last_figures;have lw:=t_ (P:=P) (w:=w) (base:=base) T f_least_widths (qB T f_raised_till_good (mE T f_narrowest) (uO T f_first_too_narrow st (zd f_fits AX rfl (by decide))))
 have co:=Aa (P:=P) (w:=w) (base:=base) T f_code_of (x3 T f_can_be) (u9 T f_word_behind) hC_NoCode kC_NoCode;have cg:=yD (P:=P) (w:=w) (base:=base) T f_coded_things;have pk:=B7 T f_pack_rows (yK T f_codes_of ((co.calm HI).mono (by decide))) (wF T f_bits_ahead_of_goal cg (DP T f_figures_behind_first la)) (zU T f_goal_of) (lw.calm fun _ _ h=>h) st (zd f_distance_of jY rfl (by decide)) (zd f_jump_written iB rfl (by decide))
 have le:=za (P:=P) (w:=w) (base:=base) T f_least_lengths (x3 T f_can_be) (vo T f_chosen_things (zw T f_by_worth) (wI T f_packs_of)) hC_NoCode kC_NoCode;exact DT T F (u7 T l_folded) (A1 T l_seed) (qC T l_program dr (D8 T l_row dr wd9 (uk T l_number dr))) (AQ T l_book dr (xI T l_lengths dr)) (uw T l_counts dr) pk (u4 T f_book_of cg (le.calm J5)) (DE T l_sum pk)
local macro_rules | `(tactic| walk_at "b1") => `(tactic| (intro _ _ _ _ _ _ us hl; obtain ⟨_, e⟩ := L2.Y.yH hl; subst e; rfl))
theorem eW{st:Stmt}{ps:List Str}{f:Addr}{oc:Value}{od an:Option Addr}{osl:Array (Option Value)}{kV doc pm cdv ct:Value}(X:K.In h)(G:h.Ns mainGlobals mg)(a:PySem.W.nsIn K mainGlobals x=some (some (.ref f)))
  (l:K.lookup f=some ⟨oc,od,.func (PySem.W.fnOf x x (cL st) (aS st) (aa st) .none kV doc pm an cdv ct),osl⟩) (c:PySem.W.codeIn K cdv x=true) (k:PySem.W.keepIn K (.ref f)=true)
  (hb:∀(kV doc pm:Value) (an:Option Addr) (cdv ct:Value) (us:List Value),us.length=ps.length->bindArgs (PySem.W.fnOf x x (cL st) (aS st) (aa st) .none kV doc pm an cdv ct) ⟨us,[]⟩=pure (ps.zip us)):HasFn K mg x st ps:=
 ⟨f,_,qH l c k,(qH l c k).binds hb,PySem.W.mg_of X G a⟩
theorem all_mk{l:PySem.W.OpenLaw}{w:World}{fa:Addr}(X:K.In h)(G:h.Ns mainGlobals mg)(hfa:mg "law"=some (.ref fa))
  {f3 f5 f35:Addr} {od3 an3 od5 an5 od35 an35:Option Addr} {sl3 sl5 sl35:Array (Option Value)} {oc3 kV3 dc3 pm3 cd3 ct3 oc5 kV5 dc5 pm5 cd5 ct5 oc35 kV35 dc35 pm35 cd35 ct35:Value}
  {q0:Addr} {qn0:Nat} {qs0:Array (Option Value)} {w0_0 w0_1 w0_2 w0_3 w0_4 w0_5 w0_6 w0_7:Tok}
  {q1:Addr} {qd1:Option Addr} {qn1:Nat} {qs1:Array (Option Value)} {w1_0 w1_1 w1_2:Tok}
  {q2:Addr} {qd2:Option Addr} {qn2:Nat} {qs2:Array (Option Value)} {w2_0 w2_1 w2_2:Tok}
  {q3:Addr} {qd3:Option Addr} {qn3:Nat} {qs3:Array (Option Value)} {w3_0 w3_1 w3_2:Tok}
  {w4_0:Tok}
  {w5_0:Tok}
  {w6_0:Tok}
  {w7_0:Tok}
  {w8_0:Tok}
  {q9:Addr} {qd9:Option Addr} {qn9:Nat} {qs9:Array (Option Value)} {w9_0 w9_1 w9_2:Tok}
  {dd0:Addr} {dh0_ep:Nat} {dh0_0 dh0_1 dh0_2 dh0_3 dh0_4 dh0_5 dh0_6 dh0_7 dh0_8:Int} {dp0_0 dp0_1 dp0_2 dp0_3 dp0_4 dp0_5 dp0_6 dp0_7 dp0_8:Addr} {do0_0 do0_1 do0_2 do0_3 do0_4 do0_5 do0_6 do0_7 do0_8:Option Addr} {dn0_0 dn0_1 dn0_2 dn0_3 dn0_4 dn0_5 dn0_6 dn0_7 dn0_8:Nat} {ds0_0 ds0_1 ds0_2 ds0_3 ds0_4 ds0_5 ds0_6 ds0_7 ds0_8:Array (Option Value)} {dt0_0 dt0_1 dt0_2 dt0_3 dt0_4 dt0_5 dt0_6 dt0_7 dt0_8 dw0_0_0 dw0_0_1 dw0_1_0 dw0_1_1 dw0_2_0 dw0_2_1 dw0_3_0 dw0_3_1 dw0_4_0 dw0_5_0 dw0_6_0 dw0_7_0 dw0_7_1:Tok}
  {xc0:Addr}
  {xd_NoCode:Addr}
      
      
  (F0:HasFn K mg "can_be" gv ["lengths"])
  (F1:HasFn K mg "least_lengths" aX ["counts","bound"])
  (F2:HasFn K mg "chosen_things" bB ["counts","bound"])
  (a3:PySem.W.nsIn K mainGlobals "by_worth"=some (some (.ref f3))) (l3:K.lookup f3=some ⟨oc3,od3,.func (PySem.W.fnOf "by_worth" "by_worth" (cL bW) (aS bW) (aa bW) .none kV3 dc3 pm3 an3 cd3 ct3),sl3⟩) (c3:PySem.W.codeIn K cd3 "by_worth"=true) (k3:PySem.W.keepIn K (.ref f3)=true)
  (F4:HasFn K mg "packs_of" dv ["shelf"])
  (a5:PySem.W.nsIn K mainGlobals "code_of"=some (some (.ref f5))) (l5:K.lookup f5=some ⟨oc5,od5,.func (PySem.W.fnOf "code_of" "code_of" (cL bX) (aS bX) (aa bX) .none kV5 dc5 pm5 an5 cd5 ct5),sl5⟩) (c5:PySem.W.codeIn K cd5 "code_of"=true) (k5:PySem.W.keepIn K (.ref f5)=true)
  (F6:HasFn K mg "word_behind" cM ["ahead","length"])
  (F7:HasFn K mg "goal_of" fA ["row"])
  (F8:HasFn K mg "least_widths" cx ["sizes","goals"])
  (F9:HasFn K mg "raised_till_good" b8 ["sizes","goals"])
  (F10:HasFn K mg "narrowest" cV ["goals"])
  (F11:HasFn K mg "first_too_narrow" b7 ["sizes","goals","widths"])
  (F12:HasFn K mg "fits" pP ["starts","goals","widths","row"])
  (F13:HasFn K mg "distance_of" dP ["starts","goals","row"])
  (F14:HasFn K mg "row_starts" c_ ["sizes","widths"])
  (F15:HasFn K mg "own_part" eC ["width"])
  (F16:HasFn K mg "book_of" dm ["program","counts"])
  (F17:HasFn K mg "coded_things" cy ["row"])
  (F18:HasFn K mg "codes_of" d3 ["book"])
  (F19:HasFn K mg "pack_rows" bL ["program","book"])
  (F20:HasFn K mg "bits_ahead_of_goal" aI ["row","codes"])
  (F21:HasFn K mg "figures_behind_first" aO ["number"])
  (F22:HasFn K mg "jump_written" d9 ["width","distance"])
  (F23:HasFn K mg "last_figures" cm ["number","many"])
  (F24:HasFn K mg "_law_folded" cO ["script"])
  (F25:HasFn K mg "_law_seed" dJ ["cell"])
  (F26:HasFn K mg "_law_draw" dH ["seed","most"])
  (F27:HasFn K mg "_law_words" di [])
  (F28:HasFn K mg "_law_number" cJ ["seed"])
  (F29:HasFn K mg "_law_row" eB ["seed","many","words"])
  (F30:HasFn K mg "_law_program" bK ["seed","most","words"])
  (F31:HasFn K mg "_law_lengths" bq ["seed","many","most"])
  (F32:HasFn K mg "_law_book" dF ["seed","most"])
  (F33:HasFn K mg "_law_counts" bQ ["seed","many"])
  (F34:HasFn K mg "_law_sum" d6 ["program","counts","book"])
  (a35:PySem.W.nsIn K mainGlobals "law"=some (some (.ref f35))) (l35:K.lookup f35=some ⟨oc35,od35,.func (PySem.W.fnOf "law" "law" (cL fJ) (aS fJ) (aa fJ) .none kV35 dc35 pm35 an35 cd35 ct35),sl35⟩) (c35:PySem.W.codeIn K cd35 "law"=true) (k35:PySem.W.keepIn K (.ref f35)=true)
  (z0:PySem.W.nsIn K mainGlobals "enumerate"=some none)
  (z1:PySem.W.nsIn K mainGlobals "int"=some none)
  (z2:PySem.W.nsIn K mainGlobals "isinstance"=some none)
  (z3:PySem.W.nsIn K mainGlobals "len"=some none)
  (z4:PySem.W.nsIn K mainGlobals "list"=some none)
  (z5:PySem.W.nsIn K mainGlobals "max"=some none)
  (z6:PySem.W.nsIn K mainGlobals "min"=some none)
  (z7:PySem.W.nsIn K mainGlobals "range"=some none)
  (z8:PySem.W.nsIn K mainGlobals "sorted"=some none)
  (z9:PySem.W.nsIn K mainGlobals "str"=some none)
  (z10:PySem.W.nsIn K mainGlobals "sum"=some none)
  (z11:PySem.W.nsIn K mainGlobals "tuple"=some none)
  (z12:PySem.W.nsIn K mainGlobals "zip"=some none)
  (g0:PySem.W.nsIn K mainGlobals "BOXES"=some (some (.ref q0))) (m0:K.lookup q0=some ⟨.type "tuple",none,.seq #[.str "a" w0_0,.str "b" w0_1,.str "c" w0_2,.str "d" w0_3,.str "e" w0_4,.str "f" w0_5,.str "g" w0_6,.str "h" w0_7] qn0,qs0⟩)
  (g1:PySem.W.nsIn K mainGlobals "HALVES"=some (some (.ref q1))) (m1:K.lookup q1=some ⟨.type "tuple",qd1,.seq #[.int 8 w1_0,.int 128 w1_1,.int 32768 w1_2] qn1,qs1⟩)
  (g2:PySem.W.nsIn K mainGlobals "HEADS"=some (some (.ref q2))) (m2:K.lookup q2=some ⟨.type "tuple",qd2,.seq #[.str "0" w2_0,.str "10" w2_1,.str "11" w2_2] qn2,qs2⟩)
  (g3:PySem.W.nsIn K mainGlobals "HOW_MANY"=some (some (.ref q3))) (m3:K.lookup q3=some ⟨.type "tuple",qd3,.seq #[.int 9 w3_0,.int 17 w3_1,.int 8 w3_2] qn3,qs3⟩)
  (g4:PySem.W.nsIn K mainGlobals "LONGEST"=some (some (.int 12 w4_0)))
  (g5:PySem.W.nsIn K mainGlobals "OF_BOXES"=some (some (.int 2 w5_0)))
  (g6:PySem.W.nsIn K mainGlobals "OF_CLASSES"=some (some (.int 1 w6_0)))
  (g7:PySem.W.nsIn K mainGlobals "OF_WORDS"=some (some (.int 0 w7_0)))
  (g8:PySem.W.nsIn K mainGlobals "WIDEST"=some (some (.int 2 w8_0)))
  (g9:PySem.W.nsIn K mainGlobals "WIDTHS"=some (some (.ref q9))) (m9:K.lookup q9=some ⟨.type "tuple",qd9,.seq #[.int 4 w9_0,.int 8 w9_1,.int 16 w9_2] qn9,qs9⟩)
  (dg0:PySem.W.nsIn K mainGlobals "SHAPES"=some (some (.ref dd0))) (dz0:(dd0 == sysModules)=false) (dl0:K.lookup dd0=some ⟨.type "dict",none,.dict #[⟨dh0_0,.str "put" dt0_0,.ref dp0_0⟩,⟨dh0_1,.str "add" dt0_1,.ref dp0_1⟩,⟨dh0_2,.str "sub" dt0_2,.ref dp0_2⟩,⟨dh0_3,.str "copy" dt0_3,.ref dp0_3⟩,⟨dh0_4,.str "tell" dt0_4,.ref dp0_4⟩,⟨dh0_5,.str "hear" dt0_5,.ref dp0_5⟩,⟨dh0_6,.str "jump" dt0_6,.ref dp0_6⟩,⟨dh0_7,.str "zero" dt0_7,.ref dp0_7⟩,⟨dh0_8,.str "halt" dt0_8,.ref dp0_8⟩] dh0_ep,#[]⟩)
  (dm0_0:K.lookup dp0_0=some ⟨.type "tuple",do0_0,.seq #[.str "box" dw0_0_0,.str "number" dw0_0_1] dn0_0,ds0_0⟩)
  (dm0_1:K.lookup dp0_1=some ⟨.type "tuple",do0_1,.seq #[.str "box" dw0_1_0,.str "box" dw0_1_1] dn0_1,ds0_1⟩)
  (dm0_2:K.lookup dp0_2=some ⟨.type "tuple",do0_2,.seq #[.str "box" dw0_2_0,.str "box" dw0_2_1] dn0_2,ds0_2⟩)
  (dm0_3:K.lookup dp0_3=some ⟨.type "tuple",do0_3,.seq #[.str "box" dw0_3_0,.str "box" dw0_3_1] dn0_3,ds0_3⟩)
  (dm0_4:K.lookup dp0_4=some ⟨.type "tuple",do0_4,.seq #[.str "box" dw0_4_0] dn0_4,ds0_4⟩)
  (dm0_5:K.lookup dp0_5=some ⟨.type "tuple",do0_5,.seq #[.str "box" dw0_5_0] dn0_5,ds0_5⟩)
  (dm0_6:K.lookup dp0_6=some ⟨.type "tuple",do0_6,.seq #[.str "goal" dw0_6_0] dn0_6,ds0_6⟩)
  (dm0_7:K.lookup dp0_7=some ⟨.type "tuple",do0_7,.seq #[.str "box" dw0_7_0,.str "goal" dw0_7_1] dn0_7,ds0_7⟩)
  (dm0_8:K.lookup dp0_8=some ⟨.type "tuple",do0_8,.seq #[] dn0_8,ds0_8⟩)
  (xa0:PySem.W.nsIn K mainGlobals "NoReach"=some (some (.ref xc0))) (xq0:PySem.W.excIn K xc0 [.type "ValueError",.type "Exception",.type "BaseException",.type "object"] "ValueError.__new__"=true)
  (xf0:PySem.W.nsIn K mainGlobals "NoCode"=some (some (.ref xd_NoCode)))
  (xf1:PySem.W.excIn K xd_NoCode [.type "ValueError",.type "Exception",.type "BaseException",.type "object"] "ValueError.__new__"=true)
  (le_by_worth:cd3=.ref lc_by_worth) (lk_by_worth:K.lookup lc_by_worth=some ⟨lO_by_worth,lD_by_worth,.fields lv_by_worth,lS_by_worth⟩) (lw_by_worth:lv_by_worth[11]?=some (.ref lp_by_worth))
  (le_code_of:cd5=.ref lc_code_of) (lk_code_of:K.lookup lc_code_of=some ⟨lO_code_of,lD_code_of,.fields lv_code_of,lS_code_of⟩) (lw_code_of:lv_code_of[11]?=some (.ref lp_code_of))
  : ∃ fd:FuncData,(∀(s:Shared) (v:Value),BindsTo s fd ⟨[v],[]⟩ [("script",v)])/\∀ base:Heap,K.In base->base.Ns mainGlobals mg->dC l.prog w K mg base aT 30 fa fd ["script"] (lj K):=by
 have e:=hfa.symm.trans (PySem.W.mg_of X G a35);cases e
 have T:Txt K mg:=⟨PySem.W.mg_none_of X G z0,PySem.W.mg_none_of X G z1,PySem.W.mg_none_of X G z2,PySem.W.mg_none_of X G z3,PySem.W.mg_none_of X G z4,PySem.W.mg_none_of X G z5,PySem.W.mg_none_of X G z6,PySem.W.mg_none_of X G z7,PySem.W.mg_none_of X G z8,PySem.W.mg_none_of X G z9,PySem.W.mg_none_of X G z10,PySem.W.mg_none_of X G z11,PySem.W.mg_none_of X G z12,⟨.ref q0,_,PySem.W.mg_of X G g0,rfl,fun H B=>.dk (vs:=[.str "a",.str "b",.str "c",.str "d",.str "e",.str "f",.str "g",.str "h"]) ⟨_,_,_,m0,rfl,rfl,(by show 8<=sizeLine;decide),(.cons ⟨w0_0,rfl⟩ (.cons ⟨w0_1,rfl⟩ (.cons ⟨w0_2,rfl⟩ (.cons ⟨w0_3,rfl⟩ (.cons ⟨w0_4,rfl⟩ (.cons ⟨w0_5,rfl⟩ (.cons ⟨w0_6,rfl⟩ (.cons ⟨w0_7,rfl⟩ .nil))))))))⟩ (.cons (.str _) (.cons (.str _) (.cons (.str _) (.cons (.str _) (.cons (.str _) (.cons (.str _) (.cons (.str _) (.cons (.str _) .nil))))))))⟩,⟨.ref q1,_,PySem.W.mg_of X G g1,rfl,fun H B=>.dk (vs:=[.int 8,.int 128,.int 32768]) ⟨_,_,_,m1,rfl,rfl,(by show 3<=sizeLine;decide),(.cons ⟨w1_0,rfl⟩ (.cons ⟨w1_1,rfl⟩ (.cons ⟨w1_2,rfl⟩ .nil)))⟩ (.cons (.int _) (.cons (.int _) (.cons (.int _) .nil)))⟩,⟨.ref q2,_,PySem.W.mg_of X G g2,rfl,fun H B=>.dk (vs:=[.str "0",.str "10",.str "11"]) ⟨_,_,_,m2,rfl,rfl,(by show 3<=sizeLine;decide),(.cons ⟨w2_0,rfl⟩ (.cons ⟨w2_1,rfl⟩ (.cons ⟨w2_2,rfl⟩ .nil)))⟩ (.cons (.str _) (.cons (.str _) (.cons (.str _) .nil)))⟩,⟨.ref q3,_,PySem.W.mg_of X G g3,rfl,fun H B=>.dk (vs:=[.int 9,.int 17,.int 8]) ⟨_,_,_,m3,rfl,rfl,(by show 3<=sizeLine;decide),(.cons ⟨w3_0,rfl⟩ (.cons ⟨w3_1,rfl⟩ (.cons ⟨w3_2,rfl⟩ .nil)))⟩ (.cons (.int _) (.cons (.int _) (.cons (.int _) .nil)))⟩,⟨.int 12,_,PySem.W.mg_of X G g4,⟨_,rfl⟩,fun H B=>.int _⟩,⟨.int 2,_,PySem.W.mg_of X G g5,⟨_,rfl⟩,fun H B=>.int _⟩,⟨.int 1,_,PySem.W.mg_of X G g6,⟨_,rfl⟩,fun H B=>.int _⟩,⟨.int 0,_,PySem.W.mg_of X G g7,⟨_,rfl⟩,fun H B=>.int _⟩,⟨.int 2,_,PySem.W.mg_of X G g8,⟨_,rfl⟩,fun H B=>.int _⟩,⟨.ref q9,_,PySem.W.mg_of X G g9,rfl,fun H B=>.dk (vs:=[.int 4,.int 8,.int 16]) ⟨_,_,_,m9,rfl,rfl,(by show 3<=sizeLine;decide),(.cons ⟨w9_0,rfl⟩ (.cons ⟨w9_1,rfl⟩ (.cons ⟨w9_2,rfl⟩ .nil)))⟩ (.cons (.int _) (.cons (.int _) (.cons (.int _) .nil)))⟩,⟨q0,_,PySem.W.mg_of X G g0,m0,rfl⟩,⟨dd0,PySem.W.mg_of X G dg0,dz0,_,_,_,dl0,⟨rfl,rfl,rfl⟩,rfl,(.cons rfl ⟨dp0_0,rfl,⟨_,_,_,dm0_0,rfl,rfl,(by show 2<=sizeLine;decide),(.cons ⟨dw0_0_0,rfl⟩ (.cons ⟨dw0_0_1,rfl⟩ .nil))⟩⟩ (.cons rfl ⟨dp0_1,rfl,⟨_,_,_,dm0_1,rfl,rfl,(by show 2<=sizeLine;decide),(.cons ⟨dw0_1_0,rfl⟩ (.cons ⟨dw0_1_1,rfl⟩ .nil))⟩⟩ (.cons rfl ⟨dp0_2,rfl,⟨_,_,_,dm0_2,rfl,rfl,(by show 2<=sizeLine;decide),(.cons ⟨dw0_2_0,rfl⟩ (.cons ⟨dw0_2_1,rfl⟩ .nil))⟩⟩ (.cons rfl ⟨dp0_3,rfl,⟨_,_,_,dm0_3,rfl,rfl,(by show 2<=sizeLine;decide),(.cons ⟨dw0_3_0,rfl⟩ (.cons ⟨dw0_3_1,rfl⟩ .nil))⟩⟩ (.cons rfl ⟨dp0_4,rfl,⟨_,_,_,dm0_4,rfl,rfl,(by show 1<=sizeLine;decide),(.cons ⟨dw0_4_0,rfl⟩ .nil)⟩⟩ (.cons rfl ⟨dp0_5,rfl,⟨_,_,_,dm0_5,rfl,rfl,(by show 1<=sizeLine;decide),(.cons ⟨dw0_5_0,rfl⟩ .nil)⟩⟩ (.cons rfl ⟨dp0_6,rfl,⟨_,_,_,dm0_6,rfl,rfl,(by show 1<=sizeLine;decide),(.cons ⟨dw0_6_0,rfl⟩ .nil)⟩⟩ (.cons rfl ⟨dp0_7,rfl,⟨_,_,_,dm0_7,rfl,rfl,(by show 2<=sizeLine;decide),(.cons ⟨dw0_7_0,rfl⟩ (.cons ⟨dw0_7_1,rfl⟩ .nil))⟩⟩ (.cons rfl ⟨dp0_8,rfl,⟨_,_,_,dm0_8,rfl,rfl,(by show 0<=sizeLine;decide),.nil⟩⟩ .nil)))))))))⟩,⟨_,PySem.W.mg_of X G xa0,⟨xq0⟩⟩,⟨_,PySem.W.mg_of X G xf0,⟨xf1⟩⟩,lh.mk' X G (gG a3 l3 le_by_worth lk_by_worth lw_by_worth),lh.mk' X G (gG a5 l5 le_code_of lk_code_of lw_code_of)⟩
 have F3:HasFn K mg "by_worth" bW ["shelf"]:=eW X G a3 l3 c3 k3 (by walk_at "b1")
 have F5:HasFn K mg "code_of" bX ["lengths"]:=eW X G a5 l5 c5 k5 (by walk_at "b1")
 exact⟨PySem.W.fnOf "law" "law" (cL fJ) (aS fJ) (aa fJ) .none kV35 dc35 pm35 an35 cd35 ct35,fun s v=>.of_eq rfl,fun base _ _=>(Ew T F0 F1 F2 F3 F4 F5 F6 F7 F8 F9 F10 F11 F12 F13 F14 F15 F16 F17 F18 F19 F20 F21 F22 F23 F24 F25 F26 F27 F28 F29 F30 F31 F32 F33 F34 (qH (st:=fJ) l35 c35 k35)).mono (by decide)⟩
theorem walk{l:PySem.W.OpenLaw}{loose:List Str}{XP:(Str->Option Value)->Heap->Prop}{YP:World->Heap->Prop}{d:DefRec}{K:Params->Qa}(hn:l.most=some 63)(hdf:d.params.defaults=[])
  (hY:∀(w:World) (h:Heap),YP w h->(K w.params).In h)
  (F:∀(w:World) (mg:Str->Option Value) (fa:Addr) (h:Heap),(K w.params).In h->h.Ns mainGlobals mg->mg d.name=some (.ref fa)->∃ fd:FuncData,(∀(s:Shared) (u:Value),BindsTo s fd ⟨[u],[]⟩ [("script",u)])/\∀ base:Heap,(K w.params).In base->base.Ns mainGlobals mg->dC l.prog w (K w.params) mg base aT 30 fa fd ["script"] (lj (K w.params))) (hL:∀(w:World) (h:Heap),(K w.params).In h->fV q (K w.params)) :
  PySem.W.WalkO q loose XP YP l.row.toRowW d [] (fun f vs=>PySem.call f vs):=
 L2.A8 (n:=63) (k:=30) (x:="script") (CX:=fun _=>aT) (sp:=fun w=>lj (K w.params)) hn (by decide) hdf ⟨rfl,by decide,by decide,rfl⟩ hY F (fun _ _ a ns hl _ hS=>⟨a,ns,rfl,hS,hl,fun _=>rfl⟩) (fun _ _ _ _ _ z=>z) hL
theorem Dz(_:K.In h){la_by_worth:Addr}{lo_by_worth:Value}{ld_by_worth:Option Addr}{lfd_by_worth:FuncData}{ls_by_worth:Array (Option Value)}{la_code_of:Addr}{lo_code_of:Value}{ld_code_of:Option Addr}{lfd_code_of:FuncData}{ls_code_of:Array (Option Value)}(nt:PySem.W.noTabs K=true)
  (ma_by_worth:PySem.W.nsIn K mainGlobals "by_worth"=some (some (.ref la_by_worth))) (ml_by_worth:K.lookup la_by_worth=some ⟨lo_by_worth,ld_by_worth,.func lfd_by_worth,ls_by_worth⟩) (mc_by_worth:lfd_by_worth.code=.ref lc_by_worth) (mk_by_worth:K.lookup lc_by_worth=some ⟨lO_by_worth,lD_by_worth,.fields lv_by_worth,lS_by_worth⟩) (mw_by_worth:lv_by_worth[11]?=some (.ref lp_by_worth)) (mr_by_worth:((recsOf q).find? (fun e=>e.name ==("by_worth":Str))).isSome=true)
  (ma_by_weight:PySem.W.nsIn K mainGlobals "by_weight"=some none)
  (ma_code_of:PySem.W.nsIn K mainGlobals "code_of"=some (some (.ref la_code_of))) (ml_code_of:K.lookup la_code_of=some ⟨lo_code_of,ld_code_of,.func lfd_code_of,ls_code_of⟩) (mc_code_of:lfd_code_of.code=.ref lc_code_of) (mk_code_of:K.lookup lc_code_of=some ⟨lO_code_of,lD_code_of,.fields lv_code_of,lS_code_of⟩) (mw_code_of:lv_code_of[11]?=some (.ref lp_code_of)) (mr_code_of:((recsOf q).find? (fun e=>e.name ==("code_of":Str))).isSome=true)
  (mn:[lp_by_worth,lp_code_of].Nodup)
  : fV q K:=fV.of nt (gG ma_by_worth ml_by_worth mc_by_worth mk_by_worth mw_by_worth) (qG ma_by_weight) (gG ma_code_of ml_code_of mc_code_of mk_code_of mw_code_of) (by first|exact mn|simp) (.inr mr_by_worth) (.inl rfl) (.inr mr_code_of)
end
end G
open PySem PySem.W PyProof.Rows
local macro_rules | `(tactic| walk_at "b0") => `(tactic| (intro _ _ _ _ _ _ us hl; match us, hl with | [], _ => rfl))
local macro_rules | `(tactic| walk_at "b1") => `(tactic| (intro _ _ _ _ _ _ us hl; obtain ⟨_, e⟩ := L2.Y.yH hl; subst e; rfl))
local macro_rules | `(tactic| walk_at "b2") => `(tactic| (intro _ _ _ _ _ _ us hl; obtain ⟨_, _, e⟩ := L2.Y.yF hl; subst e; rfl))
local macro_rules | `(tactic| walk_at "b3") => `(tactic| (intro _ _ _ _ _ _ us hl; obtain ⟨_, _, _, e⟩ := L2.Y.Hr hl; subst e; rfl))
local macro_rules | `(tactic| walk_at "b4") => `(tactic| (intro _ _ _ _ _ _ us hl; obtain ⟨_, _, _, _, e⟩ := L2.Y.Jn hl; subst e; rfl))
set_option maxRecDepth 100000 in
set_option maxHeartbeats 0 in
theorem PySem.Challenge.cw_shortrows_k29_whole_no_book_shorter_holds : PySem.Challenge.rw_shortrows_k29_whole_no_book_shorter.Holds := by
 w_on;o_law;k_head;(case hw=>w_witness2)
 k_fill
 refine G.walk (l:=PySem.Challenge.rw_shortrows_k29_whole_no_book_shorter) rfl rfl (fun w h Y=>by first|exact PySem.W.kIn_of Y|exact PySem.W.km_in_of Y) ?F ?L
 case F =>
  intro w mg fa h KX GN hmg
  refine' G.all_mk KX GN hmg (G.eW KX GN ?a0 ?l0 ?c0 ?k0 (by walk_at "b1")) (G.eW KX GN ?a1 ?l1 ?c1 ?k1 (by walk_at "b2")) (G.eW KX GN ?a2 ?l2 ?c2 ?k2 (by walk_at "b2")) ?a3 ?l3 ?c3 ?k3 (G.eW KX GN ?a4 ?l4 ?c4 ?k4 (by walk_at "b1")) ?a5 ?l5 ?c5 ?k5 (G.eW KX GN ?a6 ?l6 ?c6 ?k6 (by walk_at "b2")) (G.eW KX GN ?a7 ?l7 ?c7 ?k7 (by walk_at "b1")) (G.eW KX GN ?a8 ?l8 ?c8 ?k8 (by walk_at "b2")) (G.eW KX GN ?a9 ?l9 ?c9 ?k9 (by walk_at "b2")) (G.eW KX GN ?a10 ?l10 ?c10 ?k10 (by walk_at "b1")) (G.eW KX GN ?a11 ?l11 ?c11 ?k11 (by walk_at "b3")) (G.eW KX GN ?a12 ?l12 ?c12 ?k12 (by walk_at "b4")) (G.eW KX GN ?a13 ?l13 ?c13 ?k13 (by walk_at "b3")) (G.eW KX GN ?a14 ?l14 ?c14 ?k14 (by walk_at "b2")) (G.eW KX GN ?a15 ?l15 ?c15 ?k15 (by walk_at "b1")) (G.eW KX GN ?a16 ?l16 ?c16 ?k16 (by walk_at "b2")) (G.eW KX GN ?a17 ?l17 ?c17 ?k17 (by walk_at "b1")) (G.eW KX GN ?a18 ?l18 ?c18 ?k18 (by walk_at "b1")) (G.eW KX GN ?a19 ?l19 ?c19 ?k19 (by walk_at "b2")) (G.eW KX GN ?a20 ?l20 ?c20 ?k20 (by walk_at "b2")) (G.eW KX GN ?a21 ?l21 ?c21 ?k21 (by walk_at "b1")) (G.eW KX GN ?a22 ?l22 ?c22 ?k22 (by walk_at "b2")) (G.eW KX GN ?a23 ?l23 ?c23 ?k23 (by walk_at "b2")) (G.eW KX GN ?a24 ?l24 ?c24 ?k24 (by walk_at "b1")) (G.eW KX GN ?a25 ?l25 ?c25 ?k25 (by walk_at "b1")) (G.eW KX GN ?a26 ?l26 ?c26 ?k26 (by walk_at "b2")) (G.eW KX GN ?a27 ?l27 ?c27 ?k27 (by walk_at "b0")) (G.eW KX GN ?a28 ?l28 ?c28 ?k28 (by walk_at "b1")) (G.eW KX GN ?a29 ?l29 ?c29 ?k29 (by walk_at "b3")) (G.eW KX GN ?a30 ?l30 ?c30 ?k30 (by walk_at "b3")) (G.eW KX GN ?a31 ?l31 ?c31 ?k31 (by walk_at "b3")) (G.eW KX GN ?a32 ?l32 ?c32 ?k32 (by walk_at "b2")) (G.eW KX GN ?a33 ?l33 ?c33 ?k33 (by walk_at "b2")) (G.eW KX GN ?a34 ?l34 ?c34 ?k34 (by walk_at "b3")) ?a35 ?l35 ?c35 ?k35 ?z0 ?z1 ?z2 ?z3 ?z4 ?z5 ?z6 ?z7 ?z8 ?z9 ?z10 ?z11 ?z12 ?gq0 ?mq0 ?gq1 ?mq1 ?gq2 ?mq2 ?gq3 ?mq3 ?gq4 ?gq5 ?gq6 ?gq7 ?gq8 ?gq9 ?mq9 ?dg0 ?dz0 ?dl0 ?dm0_0 ?dm0_1 ?dm0_2 ?dm0_3 ?dm0_4 ?dm0_5 ?dm0_6 ?dm0_7 ?dm0_8 ?xa0 ?xq0 ?xf0 ?xf1 ?le_by_worth ?lk_by_worth ?lw_by_worth ?le_code_of ?lk_code_of ?lw_code_of
  (case a0|l0|c0|k0|a1|l1|c1|k1|a2|l2|c2|k2|a3|l3|c3|k3|a4|l4|c4|k4|a5|l5|c5|k5|a6|l6|c6|k6|a7|l7|c7|k7|a8|l8|c8|k8|a9|l9|c9|k9|a10|l10|c10|k10|a11|l11|c11|k11|a12|l12|c12|k12|a13|l13|c13|k13|a14|l14|c14|k14|a15|l15|c15|k15|a16|l16|c16|k16|a17|l17|c17|k17|a18|l18|c18|k18|a19|l19|c19|k19|a20|l20|c20|k20|a21|l21|c21|k21|a22|l22|c22|k22|a23|l23|c23|k23|a24|l24|c24|k24|a25|l25|c25|k25|a26|l26|c26|k26|a27|l27|c27|k27|a28|l28|c28|k28|a29|l29|c29|k29|a30|l30|c30|k30|a31|l31|c31|k31|a32|l32|c32|k32|a33|l33|c33|k33|a34|l34|c34|k34|a35|l35|c35|k35=>k_is)
  (case z0=>k_is)
  (case z1=>k_is)
  (case z2=>k_is)
  (case z3=>k_is)
  (case z4=>k_is)
  (case z5=>k_is)
  (case z6=>k_is)
  (case z7=>k_is)
  (case z8=>k_is)
  (case z9=>k_is)
  (case z10=>k_is)
  (case z11=>k_is)
  (case z12=>k_is)
  (case gq0=>k_is)
  (case mq0=>k_is)
  (case gq1=>k_is)
  (case mq1=>k_is)
  (case gq2=>k_is)
  (case mq2=>k_is)
  (case gq3=>k_is)
  (case mq3=>k_is)
  (case gq4=>k_is)
  (case gq5=>k_is)
  (case gq6=>k_is)
  (case gq7=>k_is)
  (case gq8=>k_is)
  (case gq9=>k_is)
  (case mq9=>k_is)
  (case dg0=>k_is)
  (case dl0=>k_is)
  (case dm0_0=>k_is)
  (case dm0_1=>k_is)
  (case dm0_2=>k_is)
  (case dm0_3=>k_is)
  (case dm0_4=>k_is)
  (case dm0_5=>k_is)
  (case dm0_6=>k_is)
  (case dm0_7=>k_is)
  (case dm0_8=>k_is)
  (case dz0=>rfl)
  (case xa0=>k_is)
  (case xq0=>k_exc)
  (case xf0=>k_is)
  (case xf1=>k_exc)
  (case le_by_worth=>exact rfl)
  (case lk_by_worth=>k_is)
  (case lw_by_worth=>exact rfl)
  (case le_code_of=>exact rfl)
  (case lk_code_of=>k_is)
  (case lw_code_of=>exact rfl)
 case L =>
  intro w h KX
  refine' G.Dz KX (by kernel_rfl) ?ma_by_worth ?ml_by_worth ?mc_by_worth ?mk_by_worth ?mw_by_worth ?mr_by_worth ?ma_by_weight ?ma_code_of ?ml_code_of ?mc_code_of ?mk_code_of ?mw_code_of ?mr_code_of ?mn
  (case ma_by_worth=>k_is)
  (case ml_by_worth=>k_is)
  (case mc_by_worth=>exact rfl)
  (case mk_by_worth=>k_is)
  (case mw_by_worth=>exact rfl)
  (case mr_by_worth=>exact rfl)
  (case ma_by_weight=>k_is)
  (case ma_code_of=>k_is)
  (case ml_code_of=>k_is)
  (case mc_code_of=>exact rfl)
  (case mk_code_of=>k_is)
  (case mw_code_of=>exact rfl)
  (case mr_code_of=>exact rfl)
  (case mn=>decide)
end
