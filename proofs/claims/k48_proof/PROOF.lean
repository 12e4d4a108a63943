import PyProof.Rows.All
import Wide.All
import OpenK.AllK
import Wide.FinOn
import Lean
import PyProof.EqAt
import PyProof.EqKinds
import PyProof.TupleCall
import KE.KSortKey
import KE.KLam
import PySem.Challenge.RW_shortrows_k48_whole_fewest_bits
namespace PySem.W.Fast
noncomputable def tw5173252564498535343:=0
noncomputable def tw11794713986971581053:=0
noncomputable def tw10702724311501688407:=0
noncomputable def tw4813152754484259715:=0
noncomputable def tw6908208514792917079:=0
noncomputable def tw18365817611941719106:=0
noncomputable def tw2657904582083900708:=0
noncomputable def tw3866720818264118362:=0
noncomputable def tw14045696245808450204:=0
noncomputable def tw3185087324294058899:=0
noncomputable def tw13647265006500493286:=0
noncomputable def tw7484144938783380668:=0
noncomputable def tw2971191935126548746:=0
noncomputable def tw17324639351366372662:=0
noncomputable def tw13594152703140169446:=0
noncomputable def tw15900877470854265585:=0
noncomputable def tw4540255609202932718:=0
noncomputable def tw11492254280238363434:=0
noncomputable def tw6814079569876205839:=0
noncomputable def tw1011066000055404627:=0
noncomputable def tw5279186146083543043:=0
noncomputable def tw17819105402782087334:=0
noncomputable def tw2550589553145502008:=0
noncomputable def tw13849502758446761122:=0
noncomputable def tw17250739392808570592:=0
noncomputable def tw14936565800701829864:=0
noncomputable def tw70074508029498020:=0
noncomputable def tw7537780019724961934:=0
noncomputable def tw9702715108135569893:=0
noncomputable def tw14336395326420289782:=0
noncomputable def tw13596603840508860626:=0
noncomputable def tw17300476016502716588:=0
noncomputable def tw11665119194186433588:=0
noncomputable def tw4750008992543094977:=0
noncomputable def tw15822428386806825861:=0
noncomputable def tw9025174952762400695:=0
noncomputable def tw14367542520357016550:=0
noncomputable def tw5421627480072048351:=0
noncomputable def tw1130463456180337493:=0
noncomputable def tw4427125296140631285:=0
noncomputable def tw14295137598987482203:=0
noncomputable def tw13867394391888214322:=0
noncomputable def tw1057535968262195604:=0
noncomputable def tw10656940438286715411:=0
noncomputable def tw3045833205803752064:=0
noncomputable def tw445988890518216950:=0
noncomputable def tw4964554351737242190:=0
noncomputable def tw13619115861228221904:=0
noncomputable def tw5464520279837444763:=0
noncomputable def tw3939967478827069608:=0
noncomputable def tw11438147898989871983:=0
noncomputable def tw2895049737533591159:=0
noncomputable def tw15507993311277666679:=0
noncomputable def tw14178413834398151785:=0
noncomputable def tw11114032409539932937:=0
noncomputable def tw6111566795612159289:=0
noncomputable def tw15216338468668591474:=0
noncomputable def tw7736507046906935505:=0
noncomputable def tw10770544886868304833:=0
noncomputable def tw1691704800472398560:=0
noncomputable def tw8155590122151282027:=0
noncomputable def tw10379003106746438298:=0
noncomputable def tw6888574207869450529:=0
noncomputable def tw4205153166396623142:=0
noncomputable def tw18009701628791870739:=0
noncomputable def tw1113313110178695621:=0
noncomputable def tw2479836010138625247:=0
noncomputable def tw13727381133842137328:=0
noncomputable def tw9452153129637842721:=0
noncomputable def tw7169226598604321705:=0
noncomputable def tw1753128919630579379:=0
noncomputable def tw935992408080344891:=0
noncomputable def tw847157442794114224:=0
noncomputable def tw16238438057170452100:=0
noncomputable def tw16432462629829837318:=0
noncomputable def tw14789142968178137403:=0
noncomputable def tw4757602913747282258:=0
noncomputable def tw14999329198780327314:=0
noncomputable def tw13343043886988469270:=0
noncomputable def tw7053724817970355538:=0
noncomputable def tw14915830783410488192:=0
noncomputable def tw7179747795445421863:=0
noncomputable def tw3612772683490258780:=0
noncomputable def tw17116984133583414479:=0
noncomputable def tw7803204942192949939:=0
noncomputable def tw4660753190451076872:=0
noncomputable def tw15561363503527748202:=0
noncomputable def tw17020177519491698762:=0
noncomputable def tw4689427769215138332:=0
noncomputable def tw1039304684484995753:=0
noncomputable def tw590190329138699158:=0
noncomputable def tw2492054630835008811:=0
noncomputable def tw14042757102052103180:=0
noncomputable def tw13075989118725230861:=0
noncomputable def tw14209393294176904601:=0
noncomputable def tw14445539532694675462:=0
noncomputable def tw3607798101250300720:=0
noncomputable def tw15893743586895940595:=0
noncomputable def tw13202721616465482986:=0
noncomputable def tw5187196111033400565:=0
noncomputable def tw5515948198625524730:=0
noncomputable def tw5900137139146342149:=0
noncomputable def tw14163379324623599760:=0
noncomputable def tw8472440034829169605:=0
noncomputable def tw3516753528015513304:=0
noncomputable def tw13161751249446084106:=0
noncomputable def tw13217998881871948947:=0
noncomputable def tw1935856882656560201:=0
noncomputable def tw14709620514507989259:=0
noncomputable def tw1933561914864538776:=0
noncomputable def tw14731358784821569864:=0
noncomputable def tw8599575042812396425:=0
noncomputable def tw7037170756774604117:=0
noncomputable def tw10568180756080294309:=0
noncomputable def tw9121876647795314728:=0
noncomputable def tw1040770593050461467:=0
noncomputable def tw4114364810597817289:=0
noncomputable def tw13517204230370107919:=0
noncomputable def tw11470385678840137794:=0
noncomputable def tw8983726337439697410:=0
noncomputable def tw881901798427030539:=0
noncomputable def tw17234812683505172625:=0
noncomputable def tw563846457862489298:=0
noncomputable def tw15024139999534946444:=0
noncomputable def tw5523749657066947601:=0
noncomputable def tw18128859229468445686:=0
noncomputable def tw11758650042884390923:=0
noncomputable def tw11590543207755587890:=0
noncomputable def tw9315915741576657920:=0
noncomputable def tw11578623506775469860:=0
noncomputable def tw17715474481587667873:=0
noncomputable def tw2999469913463069284:=0
noncomputable def tw1966131029415500573:=0
noncomputable def tw11666526044719469524:=0
noncomputable def tw12066048853312326605:=0
noncomputable def tw5032571673576862257:=0
noncomputable def tw13766881187517245643:=0
noncomputable def tw10781345297893693265:=0
noncomputable def tw17498979961948434482:=0
noncomputable def tw361033931627853583:=0
noncomputable def tw16120051380520049463:=0
noncomputable def tw14414072500000604240:=0
noncomputable def tw2451651885601277607:=0
noncomputable def tw8447082642036553100:=0
noncomputable def tw7337453494471007248:=0
noncomputable def tw447920826468085613:=0
noncomputable def tw15669316231786664987:=0
noncomputable def tw5315454806081475075:=0
noncomputable def tw1032208582816168584:=0
noncomputable def tw15041487231789546135:=0
noncomputable def tw4525810833025039218:=0
noncomputable def tw9710226506719343869:=0
noncomputable def tw17614856561488227002:=0
noncomputable def tw9867939102161036876:=0
noncomputable def tw5914205565486467788:=0
noncomputable def tw2099753080861370755:=0
noncomputable def tw1708103545017769041:=0
noncomputable def tw2246578147964331322:=0
noncomputable def tw5485146701419503845:=0
noncomputable def tw655034930460015856:=0
noncomputable def tw14771739135745247419:=0
noncomputable def tw15499781987131721548:=0
noncomputable def tw17090015096582656746:=0
noncomputable def tw7696439889590453471:=0
noncomputable def tw14497402145120671730:=0
noncomputable def tw3168522556511771102:=0
noncomputable def tw135116449228229117:=0
noncomputable def tw4192632920994649350:=0
noncomputable def tw8011949213050676399:=0
noncomputable def tw9557969790205970980:=0
noncomputable def tw16706075494043097603:=0
noncomputable def tw13397993442724820071:=0
noncomputable def tw4128664718946891099:=0
noncomputable def tw724319411045250354:=0
noncomputable def tw14054891838364859122:=0
noncomputable def tw8093328997426794768:=0
noncomputable def tw6224713779838658119:=0
noncomputable def tw10565096804559402495:=0
noncomputable def tw14576078587433974289:=0
noncomputable def tw15672881748419133220:=0
noncomputable def tw9050505148494689283:=0
noncomputable def tw8277383821064742023:=0
noncomputable def tw879764961854812326:=0
noncomputable def tw14075147134914915059:=0
noncomputable def tw5057253577009390207:=0
noncomputable def tw18136191636282184423:=0
noncomputable def tw9345192340897904972:=0
noncomputable def tw7499302076796654167:=0
noncomputable def tw14481080669399567031:=0
noncomputable def tw16282918504526020876:=0
noncomputable def tw12610020576927255178:=0
noncomputable def tw9076616531993261739:=0
noncomputable def tw1655170524029172306:=0
noncomputable def tw10688599493266344223:=0
noncomputable def tw12168392641014002824:=0
noncomputable def tw17201114543980110380:=0
noncomputable def tw9618734612743558944:=0
noncomputable def tw16836903765418547148:=0
noncomputable def tw12806142737839762320:=0
noncomputable def tw10933602917128056928:=0
noncomputable def tw7046534897492060603:=0
noncomputable def tw922121365054738681:=0
noncomputable def tw6628783866533598107:=0
noncomputable def tw11743766739398475548:=0
noncomputable def tw6301782405288533927:=0
noncomputable def tw7313811818859869173:=0
end PySem.W.Fast
set_option Elab.async false
set_option linter.all false
set_option maxRecDepth 100000
set_option maxHeartbeats 4000000
noncomputable section
set_option compiler.extract_closed false
theorem ℜz0(_:True:=by rfl):True:=⟨⟩
def ℜ0:Lean.Syntax:=ℜz0._auto_1
theorem ℜz1(_:True:=by decide):True:=⟨⟩
def ℜ1:Lean.Syntax:=ℜz1._auto_1
theorem ℜz2(_:True:=by first|exact .inl rfl|exact .inr rfl|assumption):True:=⟨⟩
def ℜ2:Lean.Syntax:=ℜz2._auto_1
theorem ℜz3(_:True:=by intro _;rfl):True:=⟨⟩
def ℜ3:Lean.Syntax:=ℜz3._auto_1
theorem ℜz4(_:True:=by first|exact Or.inl rfl|exact Or.inr (Or.inl rfl)|exact Or.inr (Or.inr rfl)):True:=⟨⟩
def ℜ4:Lean.Syntax:=ℜz4._auto_1
theorem ℜz6(_:True:=by decide +kernel):True:=⟨⟩
def ℜ6:Lean.Syntax:=ℜz6._auto_1
namespace L2
open PySem PySem.Spec PyProof.Rows
variable{us:List Value}{x:Str}{u:Value}{C a b:Addr}{base h:Heap}{items:Array Value}{P:Program}{w:World}{g':Array GenState}{ch fp:List Addr}{c e tg:Expr}{N:List Str}{i j k:Nat}{M:Model}{E Q:Value->Shared->Prop}{s s':Shared}{pos:Pos}{pins:List (Addr×Obj)}{f:Value->Value->Sem Value}{es:List Expr}{body:List Stmt}{pl:Sem Bool}{mA mg:Str->Option Value}{kw:List (Str×Value)}{fd:FuncData}{outer:List Env}{kindOf:Str->Option NameKind}{scope:Scope}
noncomputable def Ku:=@PySem.wpAny_bind
noncomputable def Kv:=@PySem.Heap.get?_push_of_some
noncomputable def Kw:=@List.getElem?_eq_getElem
noncomputable def Kx:=@if_neg
noncomputable def Ky:=@List.size_toArray
noncomputable def Kz:=@if_pos
noncomputable def K0:=@List.length_append
noncomputable def K1:=@PySem.wpAny_pure
noncomputable def K2:=@Nat.le_refl
noncomputable def K3:=@List.length_map
noncomputable def K4:=@List.mem_cons
noncomputable def K5:=@Bool.false_ne_true
noncomputable def K6:=@List.length_cons
noncomputable def K7:=@PySem.Heap.get?_push_size
noncomputable def K8:=@List.getElem?_eq_some_iff
noncomputable def K9:=@List.mem_cons_of_mem
noncomputable def KA:=@PySem.Heap.lt_size
noncomputable def KC:=@List.mem_singleton
noncomputable def KD:=@List.mem_cons_self
noncomputable def KG:=@Nat.le_trans
noncomputable def KH:=@List.append_assoc
noncomputable def KI:=@List.map_append
noncomputable def KJ:=@Nat.ne_of_lt
noncomputable def KL:=@List.getElem?_map
noncomputable def KN:=@List.map_cons
noncomputable def KO:=@decide_eq_false
noncomputable def KP:=@List.getD_eq_getElem?_getD
noncomputable def KQ:=@List.mem_append_right
noncomputable def KR:=@List.mem_append
noncomputable def KU:=@Nat.lt_of_lt_of_le
noncomputable def KW:=@Array.getElem?_toList
noncomputable def KY:=@Nat.zero_le
noncomputable def KZ:=@List.not_mem_nil
noncomputable def K_:=@List.getElem?_eq_none_iff
noncomputable def La:=@List.getElem?_toArray
noncomputable def Lb:=@Nat.lt_of_succ_lt
noncomputable def Lc:=@Nat.lt_of_le_of_lt
noncomputable def Ld:=@List.length_take
noncomputable def Le:=@congrArg
noncomputable def Lf:=@List.length_nil
noncomputable def Lg:=@PySem.wpAny_holding
noncomputable def Lh:=@beq_eq_false_iff_ne
noncomputable def Li:=@List.replicate_succ
noncomputable def Lj:=@List.append_nil
noncomputable def Lk:=@PySem.PassesOwn.never
noncomputable def Ll:=@List.getElem_mem
noncomputable def Lm:=@List.mem_map
noncomputable def Ln:=@List.pairwise_cons
noncomputable def Lo:=@List.length_replicate
noncomputable def Lp:=@List.length_set
noncomputable def Lq:=@Array.length_toList
noncomputable def Lr:=@Int.toNat_natCast
noncomputable def Ls:=@PySem.wpAny_callSpecial?_slot
noncomputable def Lu:=@List.getElem?_append_right
noncomputable def Lv:=@List.nodup_cons
noncomputable def Lw:=@Bool.false_eq_true
noncomputable def Lx:=@PySem.wpAny_pyIter_tuple
noncomputable def Ly:=@Nat.le_succ
noncomputable def Lz:=@List.perm_middle
noncomputable def L0:=@List.drop_eq_getElem_cons
noncomputable def L1:=@List.length_range
noncomputable def L3:=@PySem.Heap.size_push
noncomputable def L4:=@decide_eq_true
noncomputable def L5:=@PySem.wpAny_mono
noncomputable def L6:=@List.mem_of_getElem?
noncomputable def L7:=@Bool.and_eq_true
noncomputable def L8:=@PySem.wpAny_call_entry
noncomputable def L9:=@Nat.lt_irrefl
noncomputable def LA:=@List.flatten_cons
noncomputable def LC:=@PySem.wpAny_pyIter_list
noncomputable def LD:=@List.getElem?_append_left
noncomputable def LF:=@PySem.call_meets
noncomputable def LG:=@List.take_append_drop
noncomputable def LH:=@List.length_drop
noncomputable def LI:=@List.lookup_cons
noncomputable def LJ:=@Nat.lt_or_ge
noncomputable def LK:=@List.range'_succ
noncomputable def LL:=@List.pairwise_append
noncomputable def LM:=@Nat.pow_le_pow_right
noncomputable def LN:=@PySem.wpAny_newObj_type
noncomputable def LO:=@or_false
noncomputable def LP:=@PyProof.Rows.callWith_type1
noncomputable def LQ:=@PySem.Heap.SameBut.update
noncomputable def LR:=@List.getElem?_set_self
noncomputable def LS:=@PySem.sizeLine_eq
noncomputable def LU:=@List.take_of_length_le
noncomputable def LV:=@PySem.wpAny_field
noncomputable def LW:=@List.all_cons
noncomputable def LX:=@Array.getElem?_eq_some_iff
noncomputable def LY:=@if_false
noncomputable def LZ:=@List.length_singleton
noncomputable def L_:=@List.getElem?_drop
noncomputable def Ma:=@PySem.wpAny_seqItems
noncomputable def Mb:=@List.length_range'
noncomputable def Mc:=@PyProof.Rows.slot_tuple_getitem
noncomputable def Md:=@List.eraseIdx_eq_take_drop_succ
noncomputable def Me:=@List.getElem?_set_ne
noncomputable def Mf:=@Nat.pow_succ
noncomputable def Mg:=@if_true
noncomputable def Mh:=@Nat.mul_assoc
noncomputable def Mi:=@PySem.wpAny_typeNameOfWhole_keyiter
noncomputable def Mj:=@List.mem_range
noncomputable def Ml:=@List.all_eq_true
noncomputable def Mm:=@beq_self_eq_true
noncomputable def Mn:=@Nat.le_of_lt
noncomputable def Mo:=@Nat.ne_of_gt
noncomputable def Mp:=@PySem.wpAny_Call_Name_kw
noncomputable def Mq:=@Nat.succ_mul
noncomputable def Mr:=@PySem.wpAny_setField_rec
noncomputable def Ms:=@PySem.wpAny_passesOwn
noncomputable def Mt:=@PySem.F.slot_tuple_iterator_next
noncomputable def Mv:=@Nat.lt_succ_of_lt
noncomputable def Mw:=@List.flatMap_cons
noncomputable def Mx:=@PySem.wpAny_binaryOp_repeat_ref
noncomputable def My:=@List.range_eq_range'
noncomputable def Mz:=@Nat.mul_le_mul_right
noncomputable def M0:=@Int.le_refl
noncomputable def M6:=@Nat.lt_succ_self
noncomputable def M7:=@decide_eq_decide
noncomputable def M8:=@List.set_eq_of_length_le
noncomputable def M9:=@PySem.F.slot_list_getattribute
noncomputable def MC:=@List.map_map
noncomputable def MD:=@PySem.wpAny_typeNameOf_keyiter
noncomputable def ME:=@List.take_succ_cons
noncomputable def MG:=@List.getElem?_replicate
noncomputable def MH:=@PySem.wpAny_getItem_str_slice
noncomputable def MI:=@List.any_cons
noncomputable def MJ:=@List.map_take
noncomputable def MK:=@PySem.typeIs_int
noncomputable def ML:=@List.find?_cons
noncomputable def MM:=@List.range_succ
noncomputable def MO:=@Nat.not_lt_zero
noncomputable def MP:=@List.getElem?_take
noncomputable def MQ:=@List.length_eq_one_iff
noncomputable def MR:=@List.append_eq_nil_iff
noncomputable def MT:=@Nat.lt_trans
noncomputable def MU:=@List.drop_zero
noncomputable def MV:=@List.nodup_nil
noncomputable def MW:=@List.getElem?_append
noncomputable def MX:=@List.filter_cons
noncomputable def MY:=@Nat.pow_add
noncomputable def MZ:=@List.filterMap_cons
noncomputable def M_:=@List.getElem?_range
noncomputable def Na:=@List.map_congr_left
noncomputable def Nb:=@List.forIn_cons
noncomputable def Nc:=@PySem.W.KasT.kasWp_bind
noncomputable def Nd:=@List.mem_filterMap
noncomputable def Nf:=@Nat.mul_comm
noncomputable def Ng:=@PySem.Obj.data_mapFields
noncomputable def Nh:=@Nat.zero_add
noncomputable def Ni:=@PySem.AutoSeq1.wpAny_loadPart'
noncomputable def Nj:=@Nat.sub_zero
noncomputable def Nk:=@Nat.eq_zero_or_pos
noncomputable def Nl:=@Int.add_zero
noncomputable def Nm:=@PySem.wpAny_truthy_bool
noncomputable def Nn:=@List.getElem?_set
noncomputable def Np:=@PySem.wpAny_dictEntries
noncomputable def Nq:=@PySem.wpAny_pyNext_list_item
noncomputable def Nr:=@Nat.pow_pos
noncomputable def Nt:=@PySem.wpAny_standAt
noncomputable def Nu:=@PySem.wpAny_attempt
noncomputable def Nv:=@PySem.wpAny_newList
noncomputable def Nw:=@List.sum_cons
noncomputable def Nx:=@List.drop_length
noncomputable def Ny:=@Nat.le_add_right
noncomputable def Nz:=@PySem.Heap.size_update
noncomputable def N0:=@List.take_succ_eq_append_getElem
noncomputable def N1:=@List.mem_reverse
noncomputable def N2:=@PySem.wpAny_pyNext_list_end
noncomputable def N3:=@PySem.Heap.get?_update_self
noncomputable def N4:=@List.pairwise_reverse
noncomputable def N5:=@List.mem_iff_getElem?
noncomputable def N6:=@PySem.wpAny_isOneOf_keyiter
noncomputable def N7:=@List.perm_append_comm
noncomputable def N8:=@List.mem_append_left
noncomputable def N9:=@PySem.wpAny_execs_nil
noncomputable def NA:=@Bool.eq_iff_iff
noncomputable def NB:=@beq_iff_eq
noncomputable def NC:=@PySem.wpAny_rule
noncomputable def ND:=@PySem.wpAny_loadPart'
noncomputable def NF:=@Nat.min_self
noncomputable def NG:=@PySem.wpAny_typeOf
noncomputable def NH:=@PySem.wpAny_updateSeq_pair
noncomputable def NI:=@PySem.codeAny_builtin
noncomputable def NJ:=@PyProof.Rows.get?_update_seq
noncomputable def NK:=@List.mem_iff_getElem
noncomputable def NL:=@PySem.post_val_or_str
noncomputable def NM:=@Nat.sub_self
noncomputable def NN:=@List.mem_of_mem_take
noncomputable def NO:=@List.count_cons
noncomputable def NP:=@List.sum_append
noncomputable def NQ:=@Int.mul_le_mul_of_nonneg_left
noncomputable def NR:=@Nat.add_sub_cancel'
noncomputable def NS:=@Array.toList_append
noncomputable def NT:=@PySem.F.args_tuple_iterator_next_1
noncomputable def NU:=@PySem.wpAny_setField
noncomputable def NV:=@Nat.mul_le_mul
noncomputable def NW:=@PySem.wpAny_fieldsOf
noncomputable def NX:=@PySem.SeqAt.EqAt.int_int
noncomputable def NY:=@Array.append_empty
noncomputable def NZ:=@PySem.F.entry_tuple_iterator_next
noncomputable def N_:=@Array.getD_eq_getD_getElem?
noncomputable def Oa:=@Nat.add_sub_cancel
noncomputable def Ob:=@Int.natAbs_natCast
noncomputable def Oc:=@PySem.Calls.Name_function_global
noncomputable def Od:=@Int.fdiv_eq_ediv_of_nonneg
noncomputable def Oe:=@PySem.wpAny_onRaise
noncomputable def Of:=@Array.getElem?_eq_none_iff
noncomputable def Og:=@List.map_drop
noncomputable def Oh:=@Nat.le_of_mul_le_mul_right
noncomputable def Oi:=@PySem.slot_list_getitem
noncomputable def Oj:=@of_decide_eq_true
noncomputable def Ol:=@List.ext_getElem?
noncomputable def Om:=@List.exists_mem_of_ne_nil
noncomputable def Oo:=@Array.getElem?_eq_getElem
noncomputable def Oq:=@List.mem_or_eq_of_mem_set
noncomputable def Ot:=@PySem.wpAny_eqBool_str
noncomputable def Ov:=@Nat.le_of_eq
noncomputable def Ow:=@Option.isSome_iff_exists
noncomputable def Ox:=@PySem.wpAny_getItem_list_slice
noncomputable def Oy:=@PySem.wpAny_comprehension_free
noncomputable def Oz:=@not_or
noncomputable def O0:=@PyProof.Rows.listItems_at
noncomputable def O1:=@List.cons_append
noncomputable def O2:=@List.Pairwise.imp_of_mem
noncomputable def O3:=@Nat.min_eq_right
noncomputable def O4:=@List.map_set
noncomputable def O5:=@List.getElem?_cons_succ
noncomputable def O6:=@List.length_eq_zero_iff
noncomputable def O7:=@Nat.add_sub_cancel_left
noncomputable def O8:=@List.of_mem_zip
noncomputable def O9:=@List.foldl_cons
noncomputable def OA:=@List.nil_append
noncomputable def OC:=@List.length_zip
noncomputable def OD:=@PySem.wpAny_dictEpoch
noncomputable def OE:=@Int.natCast_pow
noncomputable def OF:=@Nat.min_eq_left
noncomputable def OH:=@PySem.Heap.get?_update_other
noncomputable def OI:=@PySem.Calls.callWith_builtin
noncomputable def OJ:=@Option.map_eq_some_iff
noncomputable def OL:=@Array.getElem?_eq_none
noncomputable def OM:=@Int.sub_mul
noncomputable def OO:=@Int.mul_add
noncomputable def OP:=@List.getElem_cons_drop
noncomputable def OQ:=@List.drop_eq_nil_of_le
noncomputable def OR:=@Bool.false_and
noncomputable def OV:=@Array.mem_iff_getElem
noncomputable def OW:=@List.Perm.append_left
noncomputable def OX:=@List.take_eq_take_iff
noncomputable def OZ:=@Nat.sub_le
noncomputable def Pd:=@PySem.codeAny_mono
noncomputable def Pe:=@List.map_nil
noncomputable def Pf:=@PySem.seqIndex_neg
noncomputable def Pg:=@Nat.add_comm
noncomputable def Pn:=@Int.le_trans
noncomputable def Po:=@Nat.mul_succ
noncomputable def Pp:=@Nat.le_total
abbrev Pq:=PySem.W.Frag
variable{K:Pq}
abbrev Key:=Sum Int Str
noncomputable def gD:Key->Value->Bool
 |.inl k,v=>Value.isInt k v
 |.inr x,v=>Value.isStrOf x v
noncomputable def J5(w:World):Key->Int
 |.inl k=>hashInt k
 |.inr x=>hashStr w x
theorem bg:∀{k:Key} {v:Value},gD k v=true->(∃ i t,k=Sum.inl i/\v=Value.int i t)\/(∃ x t,k=Sum.inr x/\v=Value.str x t)
 |.inl i,v,h=>by
  obtain⟨t,e⟩:=Value.isInt_shape (k:=i) (v:=v) h;exact .inl ⟨i,t,rfl,e⟩
 |.inr x,v,h=>by
  obtain⟨t,e⟩:=Value.isStrOf_shape (x:=x) (v:=v) h;exact .inr ⟨x,t,rfl,e⟩
theorem tL(i:Int)(t:Tok):gD (.inl i) (.int i t)=true:=by simp[gD,Value.isInt]
theorem uE(x:Str)(t:Tok):gD (.inr x) (.str x t)=true:=by simp[gD,Value.isStrOf]
theorem DO(a b:Int):decide ((Sum.inl a:Key)=Sum.inl b)=(a == b):=by
 by_cases e:a=b
 ·subst e;simp
 ·have h:¬ (Sum.inl a:Key)=Sum.inl b:=fun q=>e (Sum.inl.inj q);rw[KO h];exact (Lh.mpr e).symm
theorem Dx(a b:Str):decide ((Sum.inr a:Key)=Sum.inr b)=decide (a=b):=by
 by_cases e:a=b
 ·subst e;simp
 ·have h:¬ (Sum.inr a:Key)=Sum.inr b:=fun q=>e (Sum.inr.inj q);rw[KO h,KO e]
theorem D6(a:Int)(b:Str):decide ((Sum.inl a:Key)=Sum.inr b)=false:=KO (fun q=>nomatch q)
theorem C_(a:Str)(b:Int):decide ((Sum.inr a:Key)=Sum.inl b)=false:=KO (fun q=>nomatch q)
noncomputable def b7(prog:Program)(w:World):PySem.KeyKind prog w Key where
 is:=gD
 hash:=J5 w
 inj:=fun v a b ha hb=>by
  rcases bg ha with ⟨i,t,rfl,rfl⟩|⟨x,t,rfl,rfl⟩
  ·rcases bg hb with ⟨j,u,rfl,e⟩|⟨y,u,rfl,e⟩
   ·injection e with e1 _;rw[e1]
   ·exact nomatch e
  ·rcases bg hb with ⟨j,u,rfl,e⟩|⟨y,u,rfl,e⟩
   ·exact nomatch e
   ·injection e with e1 _;rw[e1]
 byValue:=fun k v h=>by
  rcases bg h with ⟨i,t,rfl,rfl⟩|⟨x,t,rfl,rfl⟩<;>rfl
 pyHash:=fun hv h=>by
  rcases bg hv with ⟨i,t,rfl,rfl⟩|⟨x,t,rfl,rfl⟩
  ·exact wpAny_pyHash_int h
  ·exact wpAny_pyHash_str h
 eqBool:=fun hu hv h=>by
  rcases bg hu with ⟨i,t,rfl,rfl⟩|⟨x,t,rfl,rfl⟩
  ·rcases bg hv with ⟨j,u,rfl,rfl⟩|⟨y,u,rfl,rfl⟩
   ·rw[DO] at h;exact wpAny_eqBool_int h
   ·rw[D6] at h;exact SeqAt.EqAt.int_str i t y u _ _ _ _ h
  ·rcases bg hv with ⟨j,u,rfl,rfl⟩|⟨y,u,rfl,rfl⟩
   ·rw[C_] at h;exact SeqAt.EqAt.str_int x t j u _ _ _ _ h
   ·rw[Dx] at h;exact Ot h
 «strs»:=fun k x t v h=>by
  rcases bg h with ⟨i,u,rfl,e⟩|⟨y,u,rfl,e⟩
  ·exact nomatch e
  ·injection e with e1 _
   subst e1
   cases v<;>rfl
theorem ni(prog:Program)(w:World)(i:Int)(t:Tok):(b7 prog w).is (.inl i) (.int i t)=true:=tL i t
theorem mN(prog:Program)(w:World)(x:Str)(t:Tok):(b7 prog w).is (.inr x) (.str x t)=true:=uE x t
inductive V where
 |aM|bl (b:Bool)|int (i:Int)|str (x:Str)|oY (b:Array UInt8)|EV (b:UInt64)|ref (a:Addr)|ty (n:String)
 deriving DecidableEq
variable{xs:List V}
noncomputable def RelV:V->Value->Prop
 |.aM,u=>u=Value.none
 |.bl b,u=>u=Value.bool b
 |.int i,u=>∃ t,u=Value.int i t
 |.str x,u=>∃ t,u=Value.str x t
 |.oY b,u=>∃ t,u=Value.bytes b t
 |.EV b,u=>∃ t,u=Value.float b t
 |.ref a,u=>u=Value.ref a
 |.ty n,u=>u=Value.type n
abbrev Vals:List V->List Value->Prop:=Paired RelV
theorem Vals.length(r:Vals xs us):xs.length=us.length:=Paired.length r
theorem Vals.get:∀{xs:List V} {us:List Value} {i:Nat} {x:V},Vals xs us->xs[i]?=some x->∃ u,us[i]?=some u/\RelV x u
 |_,_,_,_,.nil,e=>by simp at e
 |_,_,0,_,.cons r _,e=>by simp at e;subst e;exact⟨_,rfl,r⟩
 |_,_,i+1,x,.cons _ t,e=>by
  obtain⟨u,h1,h2⟩:=Vals.get (i:=i) (x:=x) t (by simpa using e)
  exact⟨u,by simpa using h1,h2⟩
theorem Vals.set{x:V}(r:RelV x u):∀{xs:List V} {us:List Value} (i:Nat),Vals xs us->Vals (xs.set i x) (us.set i u)
 |_,_,_,.nil=>.nil
 |_,_,0,.cons _ t=>.cons r t
 |_,_,i+1,.cons q t=>.cons q (Vals.set r i t)
theorem Vals.append:∀{xs ys:List V} {us ws:List Value},Vals xs us->Vals ys ws->Vals (xs++ys) (us++ws)
 |_,_,_,_,.nil,s=>s
 |_,_,_,_,.cons r t,s=>.cons r (Vals.append t s)
theorem Vals.take:∀{xs:List V} {us:List Value} (n:Nat),Vals xs us->Vals (xs.take n) (us.take n)
 |_,_,0,_=>.nil
 |_,_,_+1,.nil=>.nil
 |_,_,n+1,.cons r t=>.cons r (Vals.take n t)
theorem Vals.drop:∀{xs:List V} {us:List Value} (n:Nat),Vals xs us->Vals (xs.drop n) (us.drop n)
 |_,_,0,r=>r
 |_,_,_+1,.nil=>.nil
 |_,_,n+1,.cons _ t=>Vals.drop n t
noncomputable def fS:Option V->Option Value->Prop
 |some v,some u=>RelV v u
 |none,none=>True
 |_,_=>False
noncomputable def KV{κ:Type}:List (κ×V)->List (κ×Value)->Prop:=Paired fun (p:κ×V) (q:κ×Value)=>p.1=q.1/\RelV p.2 q.2
noncomputable def kV:Key->V
 |.inl i=>.int i
 |.inr x=>.str x
inductive HO where
 |lst (xs:List V)
 |tup (xs:List V)
 |dK (kvs:List (Key×V))|dT (kvs:List (List Key×V))
 |set (S:Int->Bool) (n:Nat)
 |ins (C dx:Addr) (fs:List (Str×V))
 |own (x:Addr)
 |xd (fs:List (Str×V))
 |met (f x:Addr)
 |gw (lo hi:Int)
 |ib (o:Obj) (u:HO)
 |vX (ps:Array Value)
 |ext (φ:Heap->Prop)
variable{o:HO}
abbrev Hp:=Addr->Option HO
variable{H:Hp}
noncomputable def upd(H:Hp)(a:Addr)(o:HO):Hp:=fun b=>if b=a then some o else H b
theorem ae:upd H a o a=some o:=by unfold upd;rw[Kz rfl]
theorem ab(h:b≠a):upd H a o b=H b:=by unfold upd;rw[Kx h]
theorem ma{u:HO}:upd (upd H a o) a u=upd H a u:=by
 funext b;unfold upd;split<;>rfl
theorem Hh{u:HO}(h:H a=some o)(h':H b=some u)(d:o≠u):a≠b:=by
 intro e;subst e;rw[h] at h';exact d (Option.some.inj h')
theorem ah(h:H a=some o)(h':H b=none):a≠b:=by
 intro e;subst e;rw[h] at h';cases h'
noncomputable def IX:List Value->Str
 |.str q _::_=>q
 |_=>Str.ofString ""
noncomputable def vF(ps:Array Value):Str:=IX ps.toList
noncomputable def BR(H:Hp)(q:Str)(cv:Value):Prop:=∃(c:Addr) (oc:Obj) (vs:Array Value) (t:Tok),cv=.ref c/\H c=some (.ib oc (.own c))/\oc.data=.fields vs/\vs[1]?=some (.str q t)
noncomputable def cX(h:Heap)(a:Addr)(items:Array Value):Prop:=∃ o:Obj,h.get? a=some o/\o.cls=.type "tuple"/\∃ n,o.data=.seq items n/\o.dict=none
theorem cX.to(x:cX h a items):IsTup h a items:=let ⟨o,e,c,n,d,_⟩:=x;⟨o,e,c,n,d⟩
theorem cX.new(h:Heap)(items:Array Value):cX (h.push {cls:=.type "tuple",data:=.seq items}) h.objs.size items:=⟨_,K7 h rfl,rfl,_,rfl,rfl⟩
theorem cX.lt(x:cX h a items):a<h.objs.size:=x.to.lt
section
variable (P:Program) (w:World)
noncomputable def aP(H:Hp)(h:Heap)(a:Addr):HO->Prop
 |.lst xs=>xs.length<=sizeLine/\∃(its:List Value) (n:Nat),Vals xs its/\h.get? a=some {cls:=.type "list",data:=.seq its.toArray n}
 |.tup xs=>xs.length<=sizeLine/\∃ its:List Value,Vals xs its/\cX h a its.toArray
 |.dK kvs=>kvs.length<=sizeLine/\(a == sysModules)=false/\∃ vs,KV kvs vs/\h.DictOf (b7 P w) a vs
 |.dT kvs=>kvs.length<=sizeLine/\(a == sysModules)=false/\∃ xs:List (List Key×Addr×Value),
   Paired (fun (p:List Key×V) (q:List Key×Addr×Value)=>p.1=q.1/\H q.2.1=some (.tup (p.1.map kV))/\RelV p.2 q.2.2) kvs xs /\
   ∃ o es ep,h.get? a=some o/\o.ExactDict/\o.data=.dict es ep/\es.toList=xs.map (entryOfKey (tupleKind (b7 P w)))/\(xs.map (·.1)).Nodup
 |.set S n=>h.SetOf (intKind P w) a S n
 |.ins C dx fs=>H dx=some (.own a)/\fs.length<=1000/\dx≠a/\h.get? a=some (PySem.W.instObj C dx) /\
   ∃ mA,h.Ns1 dx mA/\(∀ f,fS (fs.lookup f) (mA f))/\PySem.Within mA (fs.map (·.1))
 |.own _=>∃ o,h.get? a=some o
 |.xd fs=>∃ mA,h.Ns1 a mA/\∀ f,fS (fs.lookup f) (mA f)
 |.gw lo hi=>∃ t u v,h.get? a=some {cls:=.type "range",data:=.fields #[.int lo t,.int hi u,.int 1 v]}
 |.ib o u=>h.get? a=some o/\aP H h a u
 |.vX ps=>∃ qs:Array Value,h.get? a=some {cls:=.none,data:=.fields qs}/\TriplesOk qs.toList/\∀ pos cv,codeAmong pos qs.toList=some cv->BR H (vF ps) cv
 |.met f x=>h.get? a=some (PySem.W.methodObj (.ref f) (.ref x))
 |.ext φ=>φ h/\(∃ o,h.get? a=some o)/\∀ h1 h2:Heap,φ h1->(∀ o,h1.get? a=some o->h2.get? a=some o)->φ h2
noncomputable def gx(H:Hp)(h:Heap):Prop:=∀ a o,H a=some o->aP P w H h a o
end
section
variable {P:Program} {w:World} {H H':Hp} {h h':Heap} {a:Addr} {o:HO}
theorem aP.lt(x:aP P w H h a o):a<h.objs.size:=by
 cases o with
 |lst xs=>obtain⟨_,_,_,_,e⟩:=x;exact KA e
 |tup xs=>obtain⟨_,_,_,p⟩:=x;exact p.lt
 |dK kvs=>obtain⟨_,_,_,_,o,_,_,e,_⟩:=x;exact KA e
 |dT kvs=>obtain⟨_,_,_,_,o,_,_,e,_⟩:=x;exact KA e
 |set S n=>obtain⟨o,_,_,_,e,_⟩:=x;exact KA e
 |ins C dx fs=>obtain⟨_,_,_,e,_⟩:=x;exact KA e
 |own y=>obtain⟨_,e⟩:=x;exact KA e
 |xd fs=>obtain⟨_,⟨_,_,_,e,_⟩,_⟩:=x;exact KA e
 |gw lo hi=>obtain⟨_,_,_,e⟩:=x;exact KA e
 |ib ob u=>obtain⟨e,_⟩:=x;exact KA e
 |vX ps=>obtain⟨_,e,_⟩:=x;exact KA e
 |met f y=>exact KA (show h.get? a=some _ from x)
 |ext φ=>obtain⟨_,⟨_,e⟩,_⟩:=x;exact KA e
theorem Paired.tO{α β:Type}{F G:α->β->Prop}:∀{l₁:List α} {l₂:List β},Paired F l₁ l₂->(∀ a b,F a b->G a b)->Paired G l₁ l₂
 |_,_,.nil,_=>.nil
 |_,_,.cons r t,f=>.cons (f _ _ r) (Paired.tO t f)
theorem aP.m3(x:aP P w H h a o)(k:∀ b u,(b=a\/H b=some (.own a))->h.get? b=some u->h'.get? b=some u)
  (ho:∀ b,H b=some (.own a)->H' b=some (.own a)) (ht:∀ b xs,H b=some (.tup xs)->H' b=some (.tup xs)) (hz:∀ b o u,H b=some (.ib o u)->H' b=some (.ib o u)):aP P w H' h' a o:=by
 induction o with
 |lst xs=>obtain⟨z,its,n,r,e⟩:=x;exact⟨z,its,n,r,k _ _ (.inl rfl) e⟩
 |tup xs=>obtain⟨z,its,r,ob,e,c⟩:=x;exact⟨z,its,r,ob,k _ _ (.inl rfl) e,c⟩
 |dK kvs=>obtain⟨z,y,vs,r,ob,es,ep,e,c⟩:=x;exact⟨z,y,vs,r,ob,es,ep,k _ _ (.inl rfl) e,c⟩
 |dT kvs =>
  obtain⟨z,y,xs,r,ob,es,ep,e,c⟩:=x;exact⟨z,y,xs,Paired.tO r fun p q z=>⟨z.1,ht _ _ z.2.1,z.2.2⟩,ob,es,ep,k _ _ (.inl rfl) e,c⟩
 |set S n=>obtain⟨ob,es,ep,t,e,c⟩:=x;exact⟨ob,es,ep,t,k _ _ (.inl rfl) e,c⟩
 |ins C dx fs =>
  obtain⟨d,z,ne,e,mA,⟨od,es,ep,e2,c⟩,r⟩:=x;exact⟨ho _ d,z,ne,k _ _ (.inl rfl) e,mA,⟨od,es,ep,k _ _ (.inr d) e2,c⟩,r⟩
 |own y=>obtain⟨ob,e⟩:=x;exact⟨ob,k _ _ (.inl rfl) e⟩
 |xd fs=>obtain⟨mA,⟨od,es,ep,e,c⟩,r⟩:=x;exact⟨mA,⟨od,es,ep,k _ _ (.inl rfl) e,c⟩,r⟩
 |gw lo hi=>obtain⟨t,u,v,e⟩:=x;exact⟨t,u,v,k _ _ (.inl rfl) e⟩
 |ib ob u ih=>obtain⟨e,q⟩:=x;exact⟨k _ _ (.inl rfl) e,ih q⟩
 |vX ps =>
  obtain⟨qs,e,t,f⟩:=x;exact⟨qs,k a _ (.inl rfl) e,t,fun pos cv q=>let ⟨c,oc,vs,t',e1,e2,e3⟩:=f pos cv q;⟨c,oc,vs,t',e1,hz _ _ _ e2,e3⟩⟩
 |met f y =>
  have e:h.get? a=some (PySem.W.methodObj (.ref f) (.ref y)):=x;show h'.get? a=some (PySem.W.methodObj (.ref f) (.ref y));exact k a _ (.inl rfl) e
 |ext φ=>obtain⟨p,⟨o,e⟩,st⟩:=x;exact⟨st _ _ p fun o q=>k _ _ (.inl rfl) q,⟨o,k _ _ (.inl rfl) e⟩,st⟩
theorem gx.lt(x:gx P w H h)(e:H a=some o):a<h.objs.size:=(x a o e).lt
theorem gx.fresh(x:gx P w H h)(e:h.objs.size<=a):H a=none:=by
 cases q:H a with
 |none=>rfl
 |some u=>exact absurd (KU (x.lt q) e) (L9 _)
theorem gx.kept(x:gx P w H h)(k:∀ b u,h.get? b=some u->h'.get? b=some u):gx P w H h':=fun a o e =>
 (x a o e).m3 (fun b u _ q=>k b u q) (fun _ q=>q) (fun _ _ q=>q) fun _ _ _ q=>q
theorem gx.laid(x:gx P w H h)(k:∀ b u,h.get? b=some u->h'.get? b=some u)(hp:h.objs.size<=a)(new:aP P w (upd H a o) h' a o):gx P w (upd H a o) h':=fun b u e=>by
 have hn:=x.fresh hp;by_cases hb:b=a
 ·subst hb;rw[ae] at e;cases e;exact new
 ·rw[ab hb] at e;exact (x b u e).m3 (fun c v _ q=>k c v q) (fun c q=>by rw[ab (ah q hn)];exact q) (fun c xs q=>by rw[ab (ah q hn)];exact q) fun c _ _ q=>by rw[ab (ah q hn)];exact q
end
noncomputable def Rd(H:Hp)(a:Addr)(u:HO):Prop:=H a=some u\/∃ o,H a=some (.ib o u)
theorem Rd.ok{u:HO}(r:Rd H a u)(x:gx P w H h):aP P w H h a u:=by
 rcases r with r|⟨o,r⟩
 ·exact x a u r
 ·obtain⟨_,q⟩:=x a _ r;exact q
noncomputable def GA:Option HO->Prop
 |some (.lst _)=>True
 |some (.dK _)=>True
 |some (.dT _)=>True
 |some (.set _ _)=>True
 |some (.ins _ _ _)=>True
 |some (.ext _)=>True
 |_=>False
section
variable {P:Program} {w:World} {H:Hp} {h h':Heap} {x e:Addr} {o':HO}
theorem gx.write(ok:gx P w H h)(mu:GA (H x))(he:e=x\/H e=some (.own x))(k:∀ b u,b≠e->h.get? b=some u->h'.get? b=some u)(heo:∃ u,h'.get? e=some u)
  (new:aP P w (upd H x o') h' x o'):gx P w (upd H x o') h':=fun b u q=>by
 have nown:∀ c y,H c=some (.own y)->c≠x:=fun c y r z=>by subst z;rw[r] at mu;exact mu
 have ntup:∀ c xs,H c=some (.tup xs)->c≠x:=fun c xs r z=>by subst z;rw[r] at mu;exact mu
 have nfrz:∀ c o1 u1,H c=some (.ib o1 u1)->c≠x:=fun c _ _ r z=>by subst z;rw[r] at mu;exact mu
 by_cases hb:b=x
 ·subst hb;rw[ae] at q;cases q;exact new
 ·rw[ab hb] at q;by_cases hbe:b=e
  ·have q':H b=some (.own x):=by
    rcases he with z|z
    ·exact absurd (hbe.trans z) hb
    ·rw[hbe];exact z
   rw[q] at q';cases q';obtain⟨v,hv⟩:=heo;exact⟨v,by rw[hbe];exact hv⟩
  ·refine (ok b u q).m3 (fun c v hc r=>k c v ?_ r) (fun c r=>by rw[ab (nown c b r)];exact r) (fun c xs r=>by rw[ab (ntup c xs r)];exact r) fun c _ _ r=>by rw[ab (nfrz c _ _ r)];exact r
   rcases hc with rfl|hc
   ·exact hbe
   ·rintro rfl;rcases he with z|z
    ·exact nown c b hc z
    ·rw[hc] at z;cases z;exact hb rfl
end
structure Un (fs ex:List Addr) (H H':Hp) (h h':Heap):Prop where
 keep:∀ b o,h.get? b=some o->H b=none->b∉fs->b∉ex->h'.get? b=some o
 slot:∀ b o,h.get? b=some o->H b=none->b∈fs->b∉ex->∃ sl,h'.get? b=some {o with slots:=sl}
 free:∀ b o,h.get? b=some o->H b=none->b∉ex->H' b=none
 there:∀ b o,h.get? b=some o->b∉ex->∃ o',h'.get? b=some o'
 oy:∀ b xs,H b=some (.tup xs)->H' b=some (.tup xs)
 lK:∀ b o u,H b=some (.ib o u)->H' b=some (.ib o u)
 jX:∀ b ps,H b=some (.vX ps)->∃ more,H' b=some (.vX (ps++more))
section
variable {fs fs' ex ex':List Addr} {H H1 H2:Hp} {h h1 h2 h':Heap} {a x e:Addr} {o:HO}
theorem Un.any(u:Un fs ex H H1 h h1){ob:Obj}(q:h.get? b=some ob)(n:H b=none)(hx:b∉ex):∃ sl,h1.get? b=some {ob with slots:=sl}:=by
 by_cases hb:b∈fs
 ·exact u.slot b ob q n hb hx
 ·exact⟨ob.slots,u.keep b ob q n hb hx⟩
theorem Un.kept(k:∀ b u,h.get? b=some u->h'.get? b=some u):Un fs ex H H h h':=
 ⟨fun b ob q _ _ _=>k b ob q,fun b ob q _ _ _=>⟨ob.slots,k b ob q⟩,fun _ _ _ n _=>n,fun b ob q _=>⟨ob,k b ob q⟩,fun _ _ q=>q,fun _ _ _ q=>q,fun _ ps q=>⟨#[],by rw[q];simp⟩⟩
theorem Un.refl:Un fs ex H H h h:=Un.kept fun _ _ q=>q
theorem Un.laid(k:∀ b u,h.get? b=some u->h'.get? b=some u)(hp:h.objs.size<=a)(hn:H a=none):Un fs ex H (upd H a o) h h' where
 keep:=fun b u q _ _ _=>k b u q
 slot:=fun b u q _ _ _=>⟨u.slots,k b u q⟩
 free:=fun b u q n _=>by rw[ab (KJ (KU (KA q) hp))];exact n
 there:=fun b u q _=>⟨u,k b u q⟩
 oy:=fun b xs q=>by rw[ab (ah q hn)];exact q
 lK:=fun b u xs q=>by rw[ab (ah q hn)];exact q
 jX:=fun b ps q=>⟨#[],by rw[ab (ah q hn),q];simp⟩
theorem Un.write(mu:GA (H x))(he:e=x\/H e=some (.own x))(k:∀ b u,b≠e->h.get? b=some u->h'.get? b=some u)(heo:∃ u,h'.get? e=some u):Un fs ex H (upd H x o) h h':=by
 have hx:∀ b,H b=none->b≠x:=fun b n z=>by subst z;rw[n] at mu;exact mu
 have hb:∀ b,H b=none->b≠e:=fun b n z=>by
  subst z;rcases he with r|r
  ·exact hx b n r
  ·rw[n] at r;cases r
 have hm:∀ b u,H b=some u->¬ GA (some u)->b≠x:=fun b u q nm z=>by subst z;rw[q] at mu;exact nm mu
 refine⟨fun b u q n _ _=>k b u (hb b n) q,fun b u q n _ _=>⟨u.slots,k b u (hb b n) q⟩,fun b u q n _=>by rw[ab (hx b n)];exact n,fun b u q _=>?_,
  fun b xs q=>by rw[ab (hm b _ q fun z=>z)];exact q,fun b u xs q=>by rw[ab (hm b _ q fun z=>z)];exact q,fun b ps q=>⟨#[],by rw[ab (hm b _ q fun z=>z),q];simp⟩⟩
 by_cases hbe:b=e
 ·subst hbe;exact heo
 ·exact⟨u,k b u hbe q⟩
end
noncomputable def gj(h:Heap)(H:Hp):List Addr:=(List.range h.objs.size).filter fun a=>(H a).isSome
noncomputable def jY(h:Heap)(H:Hp):Heap:=PySem.W.hideAll h (gj h H)
theorem u7(h:Heap)(H:Hp):(jY h H).objs.size=h.objs.size:=PySem.W.hideAll_size _ _
theorem gF{o:Obj}(e:h.get? b=some o)(n:H b=none):(jY h H).get? b=some o:=
 PySem.W.hideAll_get _ e fun hm=>by
  have q:(H b).isSome=true:=(List.mem_filter.mp hm).2;rw[n] at q;simp at q
theorem AJ{o:Obj}(e:(jY h H).get? b=some o):h.get? b=some o/\H b=none:=by
 have e':h.get? b=some o:=PySem.W.of_hideAll (gj h H) e;refine⟨e',?_⟩
 cases q:H b with
 |none=>rfl
 |some x =>
  have hm:b∈gj h H:=List.mem_filter.mpr ⟨Mj.mpr (KA e'),by simp[q]⟩
  have z:(jY h H).get? b=none:=PySem.W.hideAll_none (gj h H) hm;rw[z] at e;cases e
noncomputable def A0(g h:Heap)(L:Addr):List (Addr×Obj):=(List.range h.objs.size).filterMap fun a=>if a=L\/(g.get? a).isSome=true then none else (h.get? a).map fun o=>(a,o)
noncomputable def rest(g h:Heap)(L d:Addr):List (Addr×Obj):=(A0 g h L).filter fun p=>decide (p.1≠d)
noncomputable def d5:List Str:=["by_worth","by_weight","code_of"]
noncomputable def bA(K:Pq):List (Addr×Addr×Str):=d5.filterMap fun x=>(PySem.W.tabIn K x).map fun p=>(p.1,p.2,(x++".<locals>.")++"<lambda>")
noncomputable def TabsOk(K:Pq)(H:Hp):Prop:=∀ t∈bA K,∃ more,H t.2.1=some (.vX (#[.str t.2.2 0]++more))
theorem TabsOk.un{fs ex:List Addr}{H1:Hp}{h1:Heap}(x:TabsOk K H)(u:Un fs ex H H1 h h1):TabsOk K H1:=fun t ht=>by
 obtain⟨m,e⟩:=x t ht;obtain⟨m2,e2⟩:=u.jX _ _ e;exact⟨m++m2,by rw[e2,Array.append_assoc]⟩
noncomputable def Dc(mg:Str->Option Value)(h:Heap):Prop:=∃ bm ob,mg "__builtins__"=some (.ref bm)/\bm≠builtinsNs/\h.get? bm=some ob/\ob.cls=.type "module"/\ob.dict=some builtinsNs/\ob.data=.plain
structure Mod (K:Pq) (mg:Str->Option Value) (base:Heap):Prop where
 GD:K.In base
 glob:base.Ns mainGlobals mg
 blt:∃ mb,base.Ns builtinsNs mb/\∀ x:Str,x≠"__name__"->mb x=bootBuiltins x
 nolimit:base.NoLimit
 codes:∀ t∈bA K,PySem.W.CodeHd base t.1 t.2.1
 bm:Dc mg base
structure Cx where
 prog:Program
 w:World
 K:Pq
 mg:Str->Option Value
 base:Heap
 A:Around
 N:List Str
 s₀:Shared
 H₀:Hp
 env:Env
 outer:List Env
 stack:List Env
 ex:List Addr
 fn:Str->Bool
 calm:Bool
 pn:List (Addr×Obj)
 xe:Value->Shared->Prop
variable{X:Cx}
noncomputable def y9(l:List Env):List Addr:=l.filterMap (·.frame)
abbrev Cx.fs(X:Cx):List Addr:=y9 X.outer
noncomputable def Dm(sc:Scope)(x:Str):Prop:=sc.names.lookup x=some .local\/sc.names.lookup x=some .cell\/sc.names.lookup x=some .free
noncomputable def Loc(sc:Scope)(x:Str):Prop:=sc.names.lookup x=some .local\/sc.names.lookup x=some .cell
noncomputable def Look(env:Env)(h:Heap)(m:Str->Option Value)(x:Str)(u:Value):Prop:=
 (env.kindOf x=some .local/\m x=some u)\/((env.kindOf x=some .cell\/env.kindOf x=some .free)/\∃ c,env.cells.lookup x=some c/\h.IsCell c (some u))
structure Cx.Ok (X:Cx):Prop where
 mod:Mod X.K X.mg X.base
 kind:X.env.scope.kind=.function
 glob:X.env.globals=mainGlobals
 blt:X.env.builtins=builtinsNs
 above:X.s₀.heap.objs.size<=X.env.locals
 inj:∀ x y c,X.env.cells.lookup x=some c->X.env.cells.lookup y=some c->x=y
 has:∀ x,(X.env.kindOf x=some .cell\/X.env.kindOf x=some .free)->∃ c,X.env.cells.lookup x=some c
 Hm:∀ x c,X.fn x=true->X.env.cells.lookup x=some c->X.s₀.heap.objs.size<=c
 hd:X.calm=true->X.A.handled=none
 frames:X.A.frames=some X.stack
 Ig:X.stack=X.outer\/(X.stack=X.env::X.outer/\X.env.frame=some X.env.locals)
 JO:∀ b∈X.ex,b≠X.env.locals/\∀ x c,X.env.cells.lookup x=some c->c≠b
 bs:∀ b o,X.base.get? b=some o->X.s₀.heap.get? b=some o/\X.H₀ b=none
 zy:X.base.objs.size<=X.s₀.heap.objs.size
 wQ:∀ b o,X.base.get? b=some o->b∉X.ex
 Aj:∀ b∈X.ex,b∉X.fs
 iI:X.s₀.heap.FunFrames X.base X.outer
 Ew:∀ b∈X.fs,X.H₀ b=none
 tabs:TabsOk X.K X.H₀
structure Inv (X:Cx) (pins:List (Addr×Obj)) (σ:List (Option V)) (H:Hp) (s:Shared):Prop where
 ok:X.Ok
 os:s.os=X.s₀.os
 bare:AllBare s.gens
 base:Un X.fs X.ex X.H₀ H X.s₀.heap s.heap
 loc:∃ m,s.heap.Ns X.env.locals m/\∀(i:Nat) (x:Str) (v:V),X.N[i]?=some x->σ[i]?=some (some v)->Dm X.env.scope x->∃ u,RelV v u/\Look X.env s.heap m x u
 cell:∀ x c,X.env.cells.lookup x=some c->∃ v,s.heap.IsCell c v
 free:H X.env.locals=none
 eS:∀ x c,X.env.cells.lookup x=some c->H c=none
 pin:∀ p∈X.pn++pins,s.heap.get? p.1=some p.2/\H p.1=none/\p.1≠X.env.locals/\p.1∉X.fs/\∀ v,p.2.data≠.cell v
 aD:gx X.prog X.w H s.heap
 len:σ.length=X.N.length
section
variable {X:Cx} {pins:List (Addr×Obj)} {σ:List (Option V)} {H H':Hp} {s:Shared} {h':Heap}
theorem Cx.Ok.JF(ok:X.Ok){o:Obj}(e:X.base.get? b=some o):b∉X.fs:=fun hb=>by
 have:=(ok.iI.mem hb).1;rw[e] at this;cases this
theorem Inv.bs(I:Inv X pins σ H s):∀ b o,X.base.get? b=some o->s.heap.get? b=some o/\H b=none:=fun b o e =>
 ⟨I.base.keep b o (I.ok.bs b o e).1 (I.ok.bs b o e).2 (I.ok.JF e) (I.ok.wQ b o e),I.base.free b o (I.ok.bs b o e).1 (I.ok.bs b o e).2 (I.ok.wQ b o e)⟩
theorem Inv.bk(I:Inv X pins σ H s):∀ b o,X.base.get? b=some o->s.heap.get? b=some o:=fun b o e=>(I.bs b o e).1
theorem Inv.mod(I:Inv X pins σ H s):Mod X.K X.mg X.base:=I.ok.mod
theorem Inv.gX(I:Inv X pins σ H s):X.K.In s.heap:=I.ok.mod.GD.keeps I.bk
theorem Inv.nolimit(I:Inv X pins σ H s):s.heap.NoLimit:=I.ok.mod.nolimit.keeps I.bk
theorem Inv.lt(I:Inv X pins σ H s):X.env.locals<s.heap.objs.size:=let ⟨_,hn,_⟩:=I.loc;hn.lt
theorem Inv.sz(I:Inv X pins σ H s):X.s₀.heap.objs.size<=s.heap.objs.size:=KG I.ok.above (Mn I.lt)
theorem Inv.GV(I:Inv X pins σ H s)(h:s.heap.objs.size<=a):a∉X.fs:=fun hb=>by
 obtain⟨_,o,ho,_⟩:=I.ok.iI.mem hb;exact absurd (KU (KA ho) (KG I.sz h)) (L9 _)
theorem Inv.EI(I:Inv X pins σ H s):∀ x c,X.env.cells.lookup x=some c->c≠X.env.locals:=fun x c e z=>by
 obtain⟨v,o,ho,hd⟩:=I.cell x c e;obtain⟨m,⟨o',es,ep,ho',hd',_⟩,_⟩:=I.loc;rw[z,ho'] at ho;cases ho;rw[hd'] at hd;cases hd
theorem Inv.iI(I:Inv X pins σ H s):s.heap.FunFrames X.base X.outer:=by
 have all:∀(l:List Env),(∀ b∈y9 l,b∈X.fs)->X.s₀.heap.FunFrames X.base l->s.heap.FunFrames X.base l:=by
  intro l
  induction l with
  |nil=>intro _ _;trivial
  |cons env r ih =>
   intro hs hl;obtain⟨hk,⟨L,o,hf,hn,ho,hd⟩,hr⟩:=hl;have hL:L∈X.fs:=hs L (by unfold y9;rw[MZ,hf];exact KD)
   obtain⟨sl,e⟩:=I.base.slot L o ho (I.ok.Ew L hL) hL fun z=>I.ok.Aj L z hL;exact⟨hk,⟨L,_,hf,hn,e,hd⟩,ih (fun b hb=>hs b (by unfold y9;rw[MZ,hf];exact K9 _ hb)) hr⟩
 exact all X.outer (fun _ hb=>hb) I.ok.iI
theorem Inv.stack(I:Inv X pins σ H s):s.heap.FunFrames X.base X.stack:=by
 rcases I.ok.Ig with e|⟨e,hf⟩
 ·rw[e];exact I.iI
 ·rw[e];obtain⟨m,hn,_⟩:=I.loc;refine .cons (by rw[I.ok.kind];decide) hf hn ?_ I.iI
  exact Heap.get?_none_of_le (KG I.ok.zy I.ok.above)
theorem Inv.lQ(I:Inv X pins σ H s):∀ b∈y9 X.stack,b∈X.env.locals::X.fs:=fun b hb=>by
 rcases I.ok.Ig with e|⟨e,hf⟩
 ·rw[e] at hb;exact K9 _ hb
 ·rw[e] at hb;unfold y9 at hb;rw[MZ,hf] at hb;exact hb
theorem Inv.lT(I:Inv X pins σ H s):∀ b∈y9 X.stack,H b=none:=fun b hb=>by
 rcases K4.mp (I.lQ b hb) with e|hb
 ·rw[e];exact I.free
 ·obtain⟨_,o,ho,_⟩:=I.ok.iI.mem hb;exact I.base.free b o ho (I.ok.Ew b hb) fun z=>I.ok.Aj b z hb
theorem Inv.step{t':Nat}{d':Drawn}(I:Inv X pins σ H s)
  (hch:∀ b∈ch,(b∈X.ex\/X.s₀.heap.objs.size<=b)/\b≠X.env.locals/\(∀ x c,X.env.cells.lookup x=some c->c≠b)/\∀ p∈X.pn++pins,p.1≠b)
  (keep:∀ b o,b≠X.env.locals->b∉X.fs->b∉ch->s.heap.get? b=some o->H b=none->h'.get? b=some o)
  (slot:∀ b o,b≠X.env.locals->b∈X.fs->b∉ch->s.heap.get? b=some o->H b=none->∃ sl,h'.get? b=some {o with slots:=sl}) (free:∀ b o,b∉ch->s.heap.get? b=some o->H b=none->H' b=none)
  (there:∀ b o,b∉ch->s.heap.get? b=some o->∃ o',h'.get? b=some o')
  (oy:∀ b xs,H b=some (.tup xs)->H' b=some (.tup xs)) (lK:∀ b o u,H b=some (.ib o u)->H' b=some (.ib o u)) (jX:∀ b ps,H b=some (.vX ps)->∃ more,H' b=some (.vX (ps++more)))
  (ns:∀ m,s.heap.Ns X.env.locals m->h'.Ns X.env.locals m) (aD:gx X.prog X.w H' h') (hg:AllBare g') :
  Inv X pins σ H' {s with heap:=h',gens:=g',drawn:=d',toks:=t'}:=by
 have neL:∀ b o,X.s₀.heap.get? b=some o->b≠X.env.locals:=fun b o e=>KJ (KU (KA e) I.ok.above);have neC:∀ b o,X.s₀.heap.get? b=some o->b∉X.ex->b∉ch:=fun b o e hx hb=>by
  rcases (hch b hb).1 with z|z
  ·exact hx z
  ·exact absurd (KU (KA e) z) (L9 _)
 have cellK:∀ x c,X.env.cells.lookup x=some c->∀ v,s.heap.IsCell c v->h'.IsCell c v:=fun x c e v ⟨o,ho,hd⟩=>by
  have nch:c∉ch:=fun z=>(hch c z).2.2.1 x c e rfl;by_cases hc:c∈X.fs
  ·obtain⟨sl,q⟩:=slot c o (I.EI x c e) hc nch ho (I.eS x c e);exact⟨_,q,hd⟩
  ·exact⟨o,keep c o (I.EI x c e) hc nch ho (I.eS x c e),hd⟩
 refine⟨I.ok,I.os,hg,⟨fun b o e n hb hx=>?_,fun b o e n hb hx=>?_,fun b o e n hx=>?_,fun b o e hx=>?_,fun b xs e=>oy b xs (I.base.oy b xs e),fun b o xs e=>lK b o xs (I.base.lK b o xs e),fun b ps e=>?_⟩,?_,fun x c e=>?_,?_,fun x c e=>?_,fun p hp=>?_,aD,I.len⟩
 ·exact keep b o (neL b o e) hb (neC b o e hx) (I.base.keep b o e n hb hx) (I.base.free b o e n hx)
 ·obtain⟨sl,e1⟩:=I.base.slot b o e n hb hx;obtain⟨sl',e2⟩:=slot b _ (neL b o e) hb (neC b o e hx) e1 (I.base.free b o e n hx);exact⟨sl',e2⟩
 ·obtain⟨o',e1⟩:=I.base.there b o e hx;exact free b o' (neC b o e hx) e1 (I.base.free b o e n hx)
 ·obtain⟨o',e1⟩:=I.base.there b o e hx;exact there b o' (neC b o e hx) e1
 ·obtain⟨m1,e1⟩:=I.base.jX b ps e;obtain⟨m2,e2⟩:=jX b _ e1;exact⟨m1++m2,by rw[e2,Array.append_assoc]⟩
 ·obtain⟨m,hn,hl⟩:=I.loc;refine⟨m,ns m hn,fun i x v e1 e2 e3=>?_⟩;obtain⟨u,r,l⟩:=hl i x v e1 e2 e3;refine⟨u,r,?_⟩;rcases l with l|⟨k,c,e,z⟩
  ·exact .inl l
  ·exact .inr ⟨k,c,e,cellK x c e _ z⟩
 ·obtain⟨v,z⟩:=I.cell x c e;exact⟨v,cellK x c e v z⟩
 ·obtain⟨m,⟨o,_,_,ho,_⟩,_⟩:=I.loc;exact free _ o (fun z=>(hch _ z).2.1 rfl) ho I.free
 ·obtain⟨v,o,ho,hd⟩:=I.cell x c e;exact free c o (fun z=>(hch c z).2.2.1 x c e rfl) ho (I.eS x c e)
 ·obtain⟨e,n,ne,nf,d⟩:=I.pin p hp;have nch:p.1∉ch:=fun z=>(hch p.1 z).2.2.2 p hp rfl;exact⟨keep p.1 p.2 ne nf nch e n,free p.1 p.2 nch e n,ne,nf,d⟩
theorem Inv.un{t':Nat}(I:Inv X pins σ H s)(u:Un X.fs [] H H' s.heap h')(aD:gx X.prog X.w H' h'):Inv X pins σ H' {s with heap:=h',toks:=t'}:=by
 obtain⟨m,⟨o,es,ep,ho,r⟩,_⟩:=id I.loc;obtain⟨sl,hL⟩:=u.any ho I.free (by simp)
 exact I.step (g':=s.gens) (d':=s.drawn) (ch:=[]) (fun _ z=>nomatch z) (fun b o _ hb _ e n=>u.keep b o e n hb (by simp)) (fun b o _ hb _ e n=>u.slot b o e n hb (by simp)) (fun b o _ e n=>u.free b o e n (by simp)) (fun b o _ e=>u.there b o e (by simp)) u.oy u.lK u.jX (fun m' hm=>by
  obtain⟨o',es',ep',ho',r'⟩:=hm;rw[ho] at ho';cases ho';exact⟨_,es',ep',hL,r'⟩) aD I.bare
theorem Inv.call{t':Nat}{d':Drawn}{ch:List Addr}(I:Inv X pins σ H s)(u:Un (y9 X.stack) ch H H' s.heap h')(aD:gx X.prog X.w H' h')(hg:AllBare g')
  (hch:∀ b∈ch,(b∈X.ex\/X.s₀.heap.objs.size<=b)/\b≠X.env.locals/\(∀ x c,X.env.cells.lookup x=some c->c≠b)/\∀ p∈X.pn++pins,p.1≠b) :
  Inv X pins σ H' {s with heap:=h',gens:=g',drawn:=d',toks:=t'}:=by
 obtain⟨m,⟨o,es,ep,ho,r⟩,_⟩:=id I.loc;obtain⟨sl,hL⟩:=u.any ho I.free fun z=>(hch _ z).2.1 rfl;exact I.step (ch:=ch) hch (fun b o hL hb hc e n=>u.keep b o e n (fun z=>(K4.mp (I.lQ b z)).elim hL hb) hc) (fun b o _ _ hc e n=>u.any e n hc) (fun b o hc e n=>u.free b o e n hc) (fun b o hc e=>u.there b o e hc) u.oy u.lK u.jX (fun m' hm=>by
  obtain⟨o',es',ep',ho',r'⟩:=hm;rw[ho] at ho';cases ho';exact⟨_,es',ep',hL,r'⟩) aD hg
theorem Inv.turned{t':Nat}{it:Addr}(I:Inv X pins σ H s)(k:∀ b o,b≠it->s.heap.get? b=some o->h'.get? b=some o)(hn:H it=none)(hL:it≠X.env.locals)
  (h1:it∈X.ex\/X.s₀.heap.objs.size<=it) (h2:∀ x c,X.env.cells.lookup x=some c->c≠it) (h3:∀ p∈X.pn++pins,p.1≠it):Inv X pins σ H {s with heap:=h',toks:=t'}:=by
 have nit:∀ b u,H b=some u->b≠it:=fun b u e z=>by rw[z,hn] at e;cases e
 refine I.step (g':=s.gens) (d':=s.drawn) (ch:=[it]) (fun b hb=>?_) (fun b o _ _ hc e _=>k b o (fun z=>hc (by simp[z])) e) (fun b o _ _ hc e _=>⟨o.slots,k b o (fun z=>hc (by simp[z])) e⟩) (fun _ _ _ _ n=>n)
  (fun b o hc e=>⟨o,k b o (fun z=>hc (by simp[z])) e⟩) (fun _ _ e=>e) (fun _ _ _ e=>e) (fun b ps e=>⟨#[],by rw[e];simp⟩) (fun m hm=>?_) (fun b u e=>?_) I.bare
 ·have e:b=it:=by simpa using hb
  subst e;exact⟨h1,hL,h2,h3⟩
 ·obtain⟨o,es,ep,ho,r⟩:=hm;exact⟨o,es,ep,k _ o (Ne.symm hL) ho,r⟩
 ·refine (I.aD b u e).m3 (fun c v hc q=>k c v ?_ q) (fun _ q=>q) (fun _ _ q=>q) fun _ _ _ q=>q;rcases hc with z|z
  ·rw[z];exact nit b u e
  ·exact nit c _ z
theorem Inv.tok(I:Inv X pins σ H s)(t:Nat):Inv X pins σ H {s with toks:=t}:=I.un (h':=s.heap) (t':=t) Un.refl I.aD
theorem Inv.kept{t':Nat}(I:Inv X pins σ H s)(k:∀ b u,s.heap.get? b=some u->h'.get? b=some u):Inv X pins σ H {s with heap:=h',toks:=t'}:=I.un (Un.kept k) (I.aD.kept k)
theorem Inv.laid{t':Nat}(I:Inv X pins σ H s)(k:∀ b u,s.heap.get? b=some u->h'.get? b=some u)(hp:s.heap.objs.size<=a)(new:aP X.prog X.w (upd H a o) h' a o):
  Inv X pins σ (upd H a o) {s with heap:=h',toks:=t'}:=I.un (Un.laid k hp (I.aD.fresh hp)) (I.aD.laid k hp new)
theorem Inv.write{x e:Addr}{t':Nat}(I:Inv X pins σ H s)(mu:GA (H x))(he:e=x\/H e=some (.own x))(k:∀ b u,b≠e->s.heap.get? b=some u->h'.get? b=some u)(heo:∃ u,h'.get? e=some u)
  (new:aP X.prog X.w (upd H x o) h' x o):Inv X pins σ (upd H x o) {s with heap:=h',toks:=t'}:=I.un (Un.write mu he k heo) (I.aD.write mu he k heo new)
theorem Inv.lO{pins':List (Addr×Obj)}(I:Inv X pins σ H s)(h:∀ p∈pins',s.heap.get? p.1=some p.2/\H p.1=none/\p.1≠X.env.locals/\p.1∉X.fs/\∀ v,p.2.data≠.cell v):Inv X pins' σ H s:=
 ⟨I.ok,I.os,I.bare,I.base,I.loc,I.cell,I.free,I.eS,fun p hp=>(KR.mp hp).elim (fun z=>I.pin p (N8 _ z)) (h p),I.aD,I.len⟩
theorem oR(hN:N.Nodup)(a:N[i]?=some x)(b:N[j]?=some x):i=j:=by
 obtain⟨h1,e1⟩:=K8.mp a;obtain⟨h2,e2⟩:=K8.mp b;exact (List.getElem_inj hN).mp (e1.trans e2.symm)
theorem lz{A:Around}{v:V}{Q:Unit->Shared->Prop}(I:Inv X pins σ H s)(hN:X.N.Nodup)(hi:X.N[i]?=some x)(hx:Loc X.env.scope x)(r:RelV v u)
  (h:∀ s',Inv X pins (σ.set i (some v)) H s'->(∃ a,Heap.SameBut a s.heap s'.heap/\(a=X.env.locals\/X.env.cells.lookup x=some a))->Q () s') (hf:autoParam (X.fn x=true\/X.env.scope.names.lookup x=some .local) ℜ2):wpAny M A (storeName X.env x u) Q E s:=by
 obtain⟨m,hn,hl⟩:=id I.loc;have hcls:(X.env.scope.kind == .class || (X.env.scope.kind == .module && X.env.locals != X.env.globals))=false:=by rw[I.ok.kind];rfl
 have hiσ:i<σ.length:=by rw[I.len];exact (K8.mp hi).1
 have EI:=I.EI;have tracked:∀{a:Addr} {h':Heap},(∃ o,s.heap.get? a=some o/\H a=none)->Heap.SameBut a s.heap h'->gx X.prog X.w H h':=fun {a h'} ha hs b ob e=>by
  obtain⟨_,_,hfree⟩:=ha;refine (I.aD b ob e).m3 (fun c w' hc q=>(hs.2 c ?_).trans q) (fun _ q=>q) (fun _ _ q=>q) fun _ _ _ q=>q;rintro rfl;rcases hc with rfl|hc
  ·rw[hfree] at e;cases e
  ·rw[hfree] at hc;cases hc
 rcases hx with hk|hk
 ·refine wpAny_storeName_local hk hn (fun h' hn' hs=>?_) hcls;obtain⟨oL,_,_,hoL,_⟩:=id hn;refine h _ ⟨I.ok,I.os,I.bare,⟨fun b o e n hb hx=>?_,fun b o e n hb hx=>?_,I.base.free,fun b o e hx=>?_,I.base.oy,I.base.lK,I.base.jX⟩,⟨_,hn',fun j y v' e1 e2 e3=>?_⟩,fun y c e=>?_,I.free,I.eS,fun p hp=>?_,tracked ⟨oL,hoL,I.free⟩ hs,by simpa using I.len⟩ ⟨_,hs,.inl rfl⟩
  ·exact (hs.2 b (KJ (KU (KA e) I.ok.above))).trans (I.base.keep b o e n hb hx)
  ·obtain⟨sl,e1⟩:=I.base.slot b o e n hb hx;exact⟨sl,(hs.2 b (KJ (KU (KA e) I.ok.above))).trans e1⟩
  ·obtain⟨o',e1⟩:=I.base.there b o e hx;exact⟨o',(hs.2 b (KJ (KU (KA e) I.ok.above))).trans e1⟩
  ·by_cases hj:j=i
   ·subst hj;rw[hi] at e1;cases e1;rw[LR hiσ] at e2;cases e2;exact⟨u,r,.inl ⟨hk,by simp⟩⟩
   ·rw[Me (Ne.symm hj)] at e2;obtain⟨u',r',q⟩:=hl j y v' e1 e2 e3;refine⟨u',r',?_⟩;rcases q with ⟨k,e⟩|⟨k,c,e,z⟩
    ·refine .inl ⟨k,?_⟩;have:y≠x:=fun e=>hj (oR hN e1 (e ▸ hi));simp[this,e]
    ·exact .inr ⟨k,c,e,z.sameBut hs (EI y c e)⟩
  ·obtain⟨w',z⟩:=I.cell y c e;exact⟨w',z.sameBut hs (EI y c e)⟩
  ·obtain⟨e,n,ne,nf,d⟩:=I.pin p hp;exact⟨(hs.2 p.1 ne).trans e,n,ne,nf,d⟩
 ·have hfn:X.fn x=true:=by
   rcases hf with z|z
   ·exact z
   ·rw[z] at hk;cases hk
  obtain⟨c,hc⟩:=I.ok.has x (.inl hk);obtain⟨w',z⟩:=I.cell x c hc;refine wpAny_storeName_cell I.ok.kind hk hc z (fun h' hc' hs=>?_);obtain⟨oc,hoc,hocd⟩:=id z;refine h {s with heap:=h'} ⟨I.ok,I.os,I.bare,⟨fun b o e n hb hx=>?_,fun b o e n hb hx=>?_,I.base.free,fun b o e hx=>?_,I.base.oy,I.base.lK,I.base.jX⟩,⟨m,hn.sameBut hs (Ne.symm (EI x c hc)),fun j y v' e1 e2 e3=>?_⟩,fun y c' e=>?_,I.free,I.eS,fun p hp=>?_,tracked ⟨oc,hoc,I.eS x c hc⟩ hs,by simpa using I.len⟩ ⟨c,hs,.inr hc⟩
  ·exact (hs.2 b (KJ (KU (KA e) (I.ok.Hm x c hfn hc)))).trans (I.base.keep b o e n hb hx)
  ·obtain⟨sl,e1⟩:=I.base.slot b o e n hb hx;exact⟨sl,(hs.2 b (KJ (KU (KA e) (I.ok.Hm x c hfn hc)))).trans e1⟩
  ·obtain⟨o',e1⟩:=I.base.there b o e hx;exact⟨o',(hs.2 b (KJ (KU (KA e) (I.ok.Hm x c hfn hc)))).trans e1⟩
  ·by_cases hj:j=i
   ·subst hj;rw[hi] at e1;cases e1;rw[LR hiσ] at e2;cases e2;exact⟨u,r,.inr ⟨.inl hk,c,hc,hc'⟩⟩
   ·rw[Me (Ne.symm hj)] at e2;obtain⟨u',r',q⟩:=hl j y v' e1 e2 e3;refine⟨u',r',?_⟩;rcases q with q|⟨k,c',e,z'⟩
    ·exact .inl q
    ·refine .inr ⟨k,c',e,z'.sameBut hs ?_⟩;rintro rfl;exact hj (oR hN e1 (I.ok.inj _ _ _ e hc ▸ hi))
  ·by_cases hcc:c'=c
   ·subst hcc;exact⟨_,hc'⟩
   ·obtain⟨w2,z2⟩:=I.cell y c' e;exact⟨w2,z2.sameBut hs hcc⟩
  ·obtain⟨e,n,ne,nf,d⟩:=I.pin p hp;refine⟨(hs.2 p.1 ?_).trans e,n,ne,nf,d⟩;intro q;rw[q,hoc] at e;have q':oc=p.2:=Option.some.inj e;exact d w' (by rw[<- q'];exact hocd)
theorem oJ{A:Around}{v:V}{Q:Unit->Shared->Prop}(I:Inv X pins σ H s)(hN:X.N.Nodup)(hi:X.N[i]?=some x)(hx:Loc X.env.scope x)(r:RelV v u)
  (h:∀ s',Inv X pins (σ.set i (some v)) H s'->Q () s') (hf:autoParam (X.fn x=true\/X.env.scope.names.lookup x=some .local) ℜ2):wpAny M A (storeName X.env x u) Q E s:=
 lz I hN hi hx r (fun s' I' _=>h s' I') hf
theorem Inv.Gf(I:Inv X pins σ H s)(ho:s'.os=s.os)(u:Un (y9 X.stack) ch H H' s.heap s'.heap)(aD:gx X.prog X.w H' s'.heap)(hg:AllBare s'.gens)
  (hch:∀ b∈ch,(b∈X.ex\/X.s₀.heap.objs.size<=b)/\b≠X.env.locals/\(∀ x c,X.env.cells.lookup x=some c->c≠b)/\∀ p∈X.pn++pins,p.1≠b):Inv X pins σ H' s':=by
 obtain⟨h',g',d',t',o'⟩:=s';have e:o'=s.os:=ho;subst e;exact I.call (g':=g') (t':=t') (d':=d') u aD hg hch
end
abbrev XK:=Value->Option Addr->Hp->Prop
abbrev St:=List (Option V)
variable{σ:St}
abbrev VK:=V->Hp->Prop
abbrev TE:=St->Hp->VK->Prop
abbrev TT:=St->Hp->(Bool->Hp->Prop)->Prop
abbrev TA:=St->Hp->(List V->Hp->Prop)->Prop
structure Ends where
 nx:St->Hp->Prop
 rt:VK
 bk:St->Hp->Prop:=fun _ _=>False
 ct:St->Hp->Prop:=fun _ _=>False
abbrev TS:=Ends->St->Hp->Prop
variable{tb:TS}
noncomputable def EP(X:Cx)(pins:List (Addr×Obj))(σ:St)(Q:VK)(u:Value)(s':Shared):Prop:=∃ v H',Inv X pins σ H' s'/\RelV v u/\Q v H'
noncomputable def TP(X:Cx)(pins:List (Addr×Obj))(σ:St)(Q:Bool->Hp->Prop)(b:Bool)(s':Shared):Prop:=∃ H',Inv X pins σ H' s'/\Q b H'
noncomputable def AP(X:Cx)(pins:List (Addr×Obj))(σ:St)(Q:List V->Hp->Prop)(us:List Value)(s':Shared):Prop:=∃ vs H',Inv X pins σ H' s'/\Vals vs us/\Q vs H'
noncomputable def SP(X:Cx)(pins:List (Addr×Obj))(D:Ends)(f:Flow)(s':Shared):Prop:=
 match f with
 |.next=>∃ σ' H',Inv X pins σ' H' s'/\D.nx σ' H'
 |.brk=>∃ σ' H',Inv X pins σ' H' s'/\D.bk σ' H'
 |.cont=>∃ σ' H',Inv X pins σ' H' s'/\D.ct σ' H'
 |.ret u=>∃ v σ' H',Inv X pins σ' H' s'/\RelV v u/\D.rt v H'
noncomputable def PE(X:Cx)(e:Expr)(t:TE):Prop:=
 ∀(pins:List (Addr×Obj)) (s:Shared) (σ:St) (H:Hp) (Q:VK),Inv X pins σ H s->t σ H Q->wpAny (model X.prog X.w) X.A (eval e X.env) (EP X pins σ Q) X.xe s
noncomputable def PT(X:Cx)(e:Expr)(t:TT):Prop:=
 ∀(pins:List (Addr×Obj)) (s:Shared) (σ:St) (H:Hp) (Q:Bool->Hp->Prop),Inv X pins σ H s->t σ H Q->wpAny (model X.prog X.w) X.A (isTrue e X.env (eval e X.env)) (TP X pins σ Q) X.xe s
noncomputable def PW(X:Cx)(e:Expr)(t:TT):Prop:=
 ∀(whole:Sem Value) (pins:List (Addr×Obj)) (s:Shared) (σ:St) (H:Hp) (Q:Bool->Hp->Prop),Inv X pins σ H s->t σ H Q->wpAny (model X.prog X.w) X.A (isTrue e X.env whole) (TP X pins σ Q) X.xe s
theorem PW.pt{t:TT}(h:PW X e t):PT X e t:=h _
noncomputable def PA(X:Cx)(es:List Expr)(t:TA):Prop:=
 ∀(pos:Pos) (pins:List (Addr×Obj)) (s:Shared) (σ:St) (H:Hp) (Q:List V->Hp->Prop),Inv X pins σ H s->t σ H Q->wpAny (model X.prog X.w) X.A (spliced (backTo pos (starEach es X.env))) (AP X pins σ Q) X.xe s
noncomputable def PS(X:Cx)(st:Stmt)(t:TS):Prop:=
 ∀(pins:List (Addr×Obj)) (s:Shared) (σ:St) (H:Hp) (D:Ends),Inv X pins σ H s->t D σ H->wpAny (model X.prog X.w) X.A (exec st X.env) (SP X pins D) X.xe s
noncomputable def pC(X:Cx)(st:List Stmt)(t:TS):Prop:=
 ∀(pins:List (Addr×Obj)) (s:Shared) (σ:St) (H:Hp) (D:Ends),Inv X pins σ H s->t D σ H->wpAny (model X.prog X.w) X.A (execs st X.env) (SP X pins D) X.xe s
theorem bo{α:Type}{t:Sem α}{Q Q':α->Shared->Prop}{A:Around}(h:wpAny M A t Q E s)(hQ:∀ a s,Q a s->Q' a s):wpAny M A t Q' E s:=L5 h hQ fun _ _ x=>x
section
variable {X:Cx}
noncomputable def uH(i:Nat):TE:=fun σ H Q=>∃ v,σ[i]?=some (some v)/\Q v H
noncomputable def tC(v:V):TE:=fun _ H Q=>Q v H
theorem E7(hN:X.N[i]?=some x)(hv:Dm X.env.scope x)(hd:autoParam ((x ==("__debug__":Str))=false) ℜ1)(hcd:autoParam ((x ==("__classdict__":Str))=false) ℜ1):PE X (.Name x pos) (uH i):=by
 intro pins s σ H Q I h;obtain⟨v,e,h⟩:=h;obtain⟨m,hn,hl⟩:=I.loc;obtain⟨u,r,l⟩:=hl i x v hN e hv;have fin:EP X pins σ Q u s:=⟨v,H,I,r,h⟩;rcases l with ⟨hk,hm⟩|⟨hk,c,hc,hcell⟩
 ·exact wpAny_Name (wpAny_loadName_local I.ok.kind hk hn hm fin) hd
 ·rcases hk with hk|hk
  ·exact wpAny_Name (wpAny_loadName_cell I.ok.kind hk hc hcell fin) hd
  ·exact wpAny_Name (wpAny_loadName_free I.ok.kind hk hc hcell fin hcd) hd
theorem jL{i j pos}:PE X (.Constant (.int i) j pos) (tC (.int i)):=fun _ _ _ H _ I h=>wpAny_Constant_int ⟨.int i,H,I.tok _,⟨_,rfl⟩,h⟩
theorem yW{b j pos}:PE X (.Constant (.bool b) j pos) (tC (.bl b)):=fun _ _ _ H _ I h=>Constant_bool ⟨.bl b,H,I,rfl,h⟩
theorem vy{j pos}:PE X (.Constant .none j pos) (tC .aM):=fun _ _ _ H _ I h=>Constant_none ⟨.aM,H,I,rfl,h⟩
theorem xP{x j pos}:PE X (.Constant (.str x) j pos) (tC (.str x)):=fun _ _ _ H _ I h=>Calls.Constant_str ⟨.str x,H,I.tok _,⟨_,rfl⟩,h⟩
noncomputable def Gl(X:Cx)(x:Str):Prop:=X.env.kindOf x=some .globalImplicit
theorem lB(I:Inv X pins σ H s)(hg:Gl X x)(hm:X.mg x=some u)(h:Q u s)
  (hd:autoParam ((x ==("__debug__":Str))=false) ℜ1):wpAny (model X.prog X.w) X.A (eval (.Name x pos) X.env) Q E s:=
 Oc I.ok.kind hg (Calls.loadGlobal_global (by rw[I.ok.glob];exact I.mod.glob.keeps I.bk) hm h) hd
theorem eR(I:Inv X pins σ H s)(hg:Gl X x)(hm:X.mg x=none)(hv:bootBuiltins x=some u)(h:Q u s)
  (hn:autoParam (x≠"__name__") ℜ1) (hd:autoParam ((x ==("__debug__":Str))=false) ℜ1):wpAny (model X.prog X.w) X.A (eval (.Name x pos) X.env) Q E s:=by
 obtain⟨mb,h1,h2⟩:=I.mod.blt;exact Oc I.ok.kind hg (Calls.loadGlobal_builtin (by rw[I.ok.glob];exact I.mod.glob.keeps I.bk) hm (by rw[I.ok.blt];exact h1.keeps I.bk) ((h2 x hn).trans hv) h) hd
theorem lS{v:V}(hg:Gl X x)(hm:X.mg x=some u)(r:RelV v u)(hd:autoParam ((x ==("__debug__":Str))=false) ℜ1):PE X (.Name x pos) (tC v):=
 fun _ _ _ H _ I h=>lB I hg hm ⟨v,H,I,r,h⟩ hd
theorem Am{v:V}(hg:Gl X x)(hm:X.mg x=none)(hv:bootBuiltins x=some u)(r:RelV v u)(hn:autoParam (x≠"__name__") ℜ1)(hd:autoParam ((x ==("__debug__":Str))=false) ℜ1):PE X (.Name x pos) (tC v):=
 fun _ _ _ H _ I h=>eR I hg hm hv ⟨v,H,I,r,h⟩ hn hd
noncomputable def Kq(ta tb:TE)(k:Int->Int->Hp->Prop):St->Hp->Prop:=fun σ H=>ta σ H fun x H1=>tb σ H1 fun y H2=>∃ i j,x=.int i/\y=.int j/\k i j H2
variable {a b:Expr} {ta tb:TE} {pos:Pos}
noncomputable def G3(p:Int->Int->Bool)(ta tb:TE):TE:=fun σ H Q=>Kq ta tb (fun i j H2=>Q (.bl (p i j)) H2) σ H
abbrev FD:TE->TE->TE:=G3 fun i j=>decide (i=j)
abbrev G7:TE->TE->TE:=G3 fun i j=>!decide (i=j)
variable {tA tB':TT} {rest:List Expr}
noncomputable def uq(t u:TT):TT:=fun σ H Q=>t σ H fun c H1=>if c=true then u σ H1 Q else Q false H1
noncomputable def Iv(t u:TT):TT:=fun σ H Q=>t σ H fun c H1=>if c=true then Q true H1 else u σ H1 Q
noncomputable def Hr(t:TT):TT:=fun σ H Q=>t σ H fun c H1=>Q (!c) H1
theorem AS(ha:PT X a tA):PW X (.BoolOp .And [a] pos) tA:=by
 intro wh pins s σ H Q I h;refine isTrue_and (bo (ha pins s σ H Q I h) fun c s1 e=>?_)
 cases c with
 |true=>exact isTrue_and_nil e
 |false=>exact e
theorem Dh(ha:PT X a tA):PW X (.BoolOp .Or [a] pos) tA:=by
 intro wh pins s σ H Q I h;refine isTrue_or (bo (ha pins s σ H Q I h) fun c s1 e=>?_)
 cases c with
 |false=>exact isTrue_or_nil e
 |true=>exact e
theorem DE(ha:PT X a tA)(hb:PW X (.BoolOp .And (b::rest) pos) tB'):PW X (.BoolOp .And (a::b::rest) pos) (uq tA tB'):=by
 intro wh pins s σ H Q I h;refine isTrue_and (bo (ha pins s σ H _ I h) fun c s1 ⟨H1,I1,q1⟩=>?_)
 cases c with
 |true=>exact hb wh pins s1 σ H1 Q I1 q1
 |false=>exact⟨H1,I1,q1⟩
theorem GQ(ha:PT X a tA)(hb:PW X (.BoolOp .Or (b::rest) pos) tB'):PW X (.BoolOp .Or (a::b::rest) pos) (Iv tA tB'):=by
 intro wh pins s σ H Q I h;refine isTrue_or (bo (ha pins s σ H _ I h) fun c s1 ⟨H1,I1,q1⟩=>?_)
 cases c with
 |true=>exact⟨H1,I1,q1⟩
 |false=>exact hb wh pins s1 σ H1 Q I1 q1
theorem El(ha:PT X a tA):PT X (.UnaryOp .Not a pos) (Hr tA):=by
 intro pins s σ H Q I h;exact isTrue_not (ha pins s σ H (fun c H1=>Q (!c) H1) I h)
noncomputable def Ct(ta tb:TE):TE:=fun σ H Q=>ta σ H fun x H1=>∃ c,x=.bl c/\if c=true then tb σ H1 Q else Q (.bl false) H1
noncomputable def BY(ta:TE):TE:=fun σ H Q=>ta σ H fun x H1=>∃ c,x=.bl c/\Q (.bl (!c)) H1
theorem Dj{op}{t:TE}(h:PE X a t):PE X (.BoolOp op [a] pos) t:=fun pins s σ H Q I hw=>BoolOp_one (h pins s σ H Q I hw)
theorem EK(ha:PE X a ta)(hb:PE X (.BoolOp .And (b::rest) pos) tb):PE X (.BoolOp .And (a::b::rest) pos) (Ct ta tb):=by
 intro pins s σ H Q I h;refine BoolOp_and (bo (ha pins s σ H _ I h) fun v s1 ⟨x,H1,I1,r1,q1⟩=>?_);obtain⟨c,rfl,q1⟩:=q1;cases r1;refine Nm ?_
 cases c with
 |true=>exact hb pins s1 σ H1 Q I1 q1
 |false=>exact⟨.bl false,H1,I1,rfl,q1⟩
theorem EM(ha:PE X a ta):PE X (.UnaryOp .Not a pos) (BY ta):=by
 intro pins s σ H Q I h;refine UnaryOp_ (bo (ha pins s σ H _ I h) fun v s1 ⟨x,H1,I1,r1,q1⟩=>?_);obtain⟨c,rfl,q1⟩:=q1;cases r1;exact not_of (Nm ⟨.bl (!c),H1,I1,rfl,q1⟩)
noncomputable def G9(t:TT)(ta tb:TE):TE:=fun σ H Q=>t σ H fun c H1=>if c=true then ta σ H1 Q else tb σ H1 Q
theorem wO(hc:PT X c tA)(ha:PE X a ta)(hb:PE X b tb):PE X (.IfExp c a b pos) (G9 tA ta tb):=by
 intro pins s σ H Q I h;refine wpAny_IfExp (bo (hc pins s σ H _ I h) fun d s1 ⟨H1,I1,q1⟩=>?_)
 cases d with
 |true=>exact ha pins s1 σ H1 Q I1 q1
 |false=>exact hb pins s1 σ H1 Q I1 q1
end
noncomputable def bz(K:Pq)(H:Hp)(a:Addr)(xs:List V):Prop:=
 Rd H a (.lst xs) \/
  ∃(o:Obj) (its:Array Value) (n:Nat),K.lookup a=some o/\o.cls=.type "list"/\o.dict=none/\o.data=.seq its n/\its.size<=sizeLine/\Vals xs its.toList
noncomputable def aW(K:Pq)(H:Hp)(a:Addr)(xs:List V):Prop:=
 Rd H a (.tup xs) \/
  ∃(o:Obj) (its:Array Value) (n:Nat),K.lookup a=some o/\o.cls=.type "tuple"/\o.data=.seq its n/\its.size<=sizeLine/\Vals xs its.toList
noncomputable def Jg:Value->Option V
 |.none=>some .aM
 |.bool b=>some (.bl b)
 |.int i _=>some (.int i)
 |.str x _=>some (.str x)
 |.bytes b _=>some (.oY b)
 |.float b _=>some (.EV b)
 |.ref a=>some (.ref a)
 |.type n=>some (.ty n)
 |_=>none
theorem RelV.abs{x:V}(r:RelV x u):Jg u=some x:=by
 cases x with
 |aM=>cases r;rfl
 |bl _=>cases r;rfl
 |int _=>obtain⟨t,rfl⟩:=r;rfl
 |str _=>obtain⟨t,rfl⟩:=r;rfl
 |oY _=>obtain⟨t,rfl⟩:=r;rfl
 |EV _=>obtain⟨t,rfl⟩:=r;rfl
 |ref _=>cases r;rfl
 |ty _=>cases r;rfl
theorem RelV.inj{x y:V}(r:RelV x u)(q:RelV y u):x=y:=Option.some.inj (r.abs.symm.trans q.abs)
theorem Vals.inj:∀{xs ys:List V} {us:List Value},Vals xs us->Vals ys us->xs=ys
 |_,_,_,.nil,.nil=>rfl
 |_,_,_,.cons r t,.cons r' t'=>by rw[r.inj r',Vals.inj t t']
section
variable {X:Cx} {pins:List (Addr×Obj)} {σ:St} {H:Hp} {s:Shared} {a:Addr} {xs ys:List V}
theorem bz.of(h:H a=some (.lst xs)):bz K H a xs:=.inl (.inl h)
theorem aW.of(h:H a=some (.tup xs)):aW K H a xs:=.inl (.inl h)
theorem Inv.list(I:Inv X pins σ H s)(h:bz X.K H a xs):∃ its:List Value,Vals xs its/\PlainL s.heap a its.toArray/\xs.length<=sizeLine:=by
 rcases h with h|⟨o,its,n,hk,hc,hd,hs,hz,r⟩
 ·obtain⟨z,its,n,r,e⟩:=h.ok I.aD;exact⟨its,r,⟨_,n,e,rfl,rfl,rfl⟩,z⟩
 ·refine⟨its.toList,r,⟨o,n,I.gX a o hk,hc,hd,by simpa using hs⟩,?_⟩
  have e:=r.length;simp only[Lq] at e;lia
theorem Inv.tuple(I:Inv X pins σ H s)(h:aW X.K H a xs):∃ its:List Value,Vals xs its/\IsTup s.heap a its.toArray/\xs.length<=sizeLine:=by
 rcases h with h|⟨o,its,n,hk,hc,hs,hz,r⟩
 ·obtain⟨z,its,r,p⟩:=h.ok I.aD;exact⟨its,r,p.to,z⟩
 ·refine⟨its.toList,r,⟨o,I.gX a o hk,hc,n,by simpa using hs⟩,?_⟩
  have e:=r.length;simp only[Lq] at e;lia
theorem Inv.nM(I:Inv X pins σ H s)(h:bz X.K H a xs)(h':bz X.K H a ys):xs=ys:=by
 obtain⟨its,r,⟨o,n,e,_,_,d⟩,_⟩:=I.list h;obtain⟨its',r',⟨o',n',e',_,_,d'⟩,_⟩:=I.list h';rw[e] at e';cases e';rw[d] at d'
 injection d' with d1 _
 have:its=its':=by simpa using Le Array.toList d1
 subst this;exact r.inj r'
theorem Inv.ie(I:Inv X pins σ H s)(h:aW X.K H a xs)(h':aW X.K H a ys):xs=ys:=by
 obtain⟨its,r,⟨o,e,_,n,d⟩,_⟩:=I.tuple h;obtain⟨its',r',⟨o',e',_,n',d'⟩,_⟩:=I.tuple h';rw[e] at e';cases e';rw[d] at d'
 injection d' with d1 _
 have:its=its':=by simpa using Le Array.toList d1
 subst this;exact r.inj r'
end
abbrev Cx.kg(X:Cx)(E:Value->Shared->Prop):Cx:={X with xe:=E}
abbrev Cx.mD(X:Cx):Cx:=X.kg fun _ _=>False
theorem Cx.Ok.kg(ok:X.Ok)(E:Value->Shared->Prop):(X.kg E).Ok:=
 ⟨ok.mod,ok.kind,ok.glob,ok.blt,ok.above,ok.inj,ok.has,ok.Hm,ok.hd,ok.frames,ok.Ig,ok.JO,ok.bs,ok.zy,ok.wQ,ok.Aj,ok.iI,ok.Ew,ok.tabs⟩
theorem Cx.Ok.f7(ok:(X.kg E).Ok):X.Ok:=
 ⟨ok.mod,ok.kind,ok.glob,ok.blt,ok.above,ok.inj,ok.has,ok.Hm,ok.hd,ok.frames,ok.Ig,ok.JO,ok.bs,ok.zy,ok.wQ,ok.Aj,ok.iI,ok.Ew,ok.tabs⟩
section
variable {X:Cx} {pins:List (Addr×Obj)} {σ:St} {H:Hp} {s:Shared} {E:Value->Shared->Prop}
theorem Inv.kg(I:Inv X pins σ H s)(E:Value->Shared->Prop):Inv (X.kg E) pins σ H s:=⟨I.ok.kg E,I.os,I.bare,I.base,I.loc,I.cell,I.free,I.eS,I.pin,I.aD,I.len⟩
theorem Inv.f7(I:Inv (X.kg E) pins σ H s):Inv X pins σ H s:=⟨I.ok.f7,I.os,I.bare,I.base,I.loc,I.cell,I.free,I.eS,I.pin,I.aD,I.len⟩
theorem SP.f7{D:Ends}{f:Flow}(h:SP (X.kg E) pins D f s'):SP X pins D f s':=by
 cases f with
 |next=>obtain⟨σ',H',I,q⟩:=h;exact⟨σ',H',I.f7,q⟩
 |brk=>obtain⟨σ',H',I,q⟩:=h;exact⟨σ',H',I.f7,q⟩
 |cont=>obtain⟨σ',H',I,q⟩:=h;exact⟨σ',H',I.f7,q⟩
 |ret u=>obtain⟨v,σ',H',I,r,q⟩:=h;exact⟨v,σ',H',I.f7,r,q⟩
theorem pC.mD{st:List Stmt}{t:TS}(h:pC X.mD st t):pC X st t:=fun pins s σ H D I hw =>
 L5 (h pins s σ H D (I.kg _) hw) (fun _ _ q=>q.f7) fun _ _ z=>False.elim z
end
section
variable {X:Cx} {st:Stmt} {rest:List Stmt} {t u:TS} {e:Expr} {te:TE} {pos:Pos}
noncomputable def nr:TS:=fun D σ H=>D.nx σ H
noncomputable def uS(t u:TS):TS:=fun D σ H=>t {D with nx:=u D} σ H
theorem AX:pC X [] nr:=fun _ _ σ H _ I h=>N9 ⟨σ,H,I,h⟩
theorem yF(h1:PS X st t)(h2:pC X rest u):pC X (st::rest) (uS t u):=by
 intro pins s σ H D I h;refine wpAny_execs_cons (bo (h1 pins s σ H {D with nx:=u D} I h) fun f s1 q=>?_)
 cases f with
 |next =>
  obtain⟨σ',H',I',q⟩:=q;exact h2 pins s1 σ' H' D I' q
 |ret v=>exact q
 |brk=>exact q
 |cont=>exact q
theorem AG(h1:PS X st t):pC X [st] t:=by
 intro pins s σ H D I h;refine wpAny_execs_cons (bo (h1 pins s σ H D I h) fun f s1 q=>?_)
 cases f with
 |next=>exact N9 q
 |ret v=>exact q
 |brk=>exact q
 |cont=>exact q
theorem Inv.quiet(I:Inv X pins σ H s):interactive X.env=false:=by simp[interactive,I.ok.kind]
noncomputable def nj(te:TE):TS:=fun D σ H=>te σ H fun _ H1=>D.nx σ H1
theorem AR(he:PE X e te)(hs:autoParam (swapsWith e none pos.line X.env=pure false) ℜ0):PS X (.Expr e pos) (nj te):=by
 intro pins s σ H D I h;exact wpAny_Expr_any (bo (he pins s σ H _ I h) fun v s1 ⟨x,H1,I1,r1,q1⟩=>⟨σ,H1,I1,q1⟩) I.quiet hs
noncomputable def xI(te:TE):TS:=fun D σ H=>te σ H D.rt
theorem DF(he:PE X e te):PS X (.Return (some e) pos) (xI te):=by
 intro pins s σ H D I h;exact wpAny_Return_some (bo (he pins s σ H _ I h) fun v s1 ⟨x,H1,I1,r1,q1⟩=>⟨x,σ,H1,I1,r1,q1⟩)
noncomputable def xG(c:TT)(t u:TS):TS:=fun D σ H=>c σ H fun b H1=>if b=true then t D σ H1 else u D σ H1
theorem Hu{a b:List Stmt}{tc:TT}(hc:PT X c tc)(ha:pC X a t)(hb:pC X b u):PS X (.If c a b pos) (xG tc t u):=by
 intro pins s σ H D I h;refine wpAny_If (bo (hc pins s σ H _ I h) fun d s1 ⟨H1,I1,q1⟩=>?_)
 cases d with
 |true=>exact ha pins s1 σ H1 D I1 q1
 |false=>exact hb pins s1 σ H1 D I1 q1
end
abbrev TG:=V->St->Hp->(St->Hp->Prop)->Prop
abbrev pA:=List V->St->Hp->(St->Hp->Prop)->Prop
noncomputable def PG(X:Cx)(target:Expr)(t:TG):Prop:=
 ∀(pins:List (Addr×Obj)) (s:Shared) (σ:St) (H:Hp) (v:V) (u:Value) (Q:St->Hp->Prop),Inv X pins σ H s->RelV v u->t v σ H Q ->
  wpAny (model X.prog X.w) X.A (assign target X.env u) (fun _ s'=>∃ σ' H',Inv X pins σ' H' s'/\Q σ' H') X.xe s
noncomputable def Fb(X:Cx)(ts:List Expr)(t:pA):Prop:=
 ∀(pins:List (Addr×Obj)) (s:Shared) (σ:St) (H:Hp) (vs:List V) (us:List Value) (Q:St->Hp->Prop),Inv X pins σ H s->Vals vs us->t vs σ H Q ->
  wpAny (model X.prog X.w) X.A (assignInOrder ((assignEach ts X.env).map (·.2)) us) (fun _ s'=>∃ σ' H',Inv X pins σ' H' s'/\Q σ' H') X.xe s
abbrev Bd:=V->V->V->Hp->(Hp->Prop)->Prop
noncomputable def ED(X:Cx)(t:Bd):Prop:=
 ∀(pins:List (Addr×Obj)) (s:Shared) (σ:St) (H:Hp) (o i v:V) (ov iv u:Value) (Q:Hp->Prop),Inv X pins σ H s->RelV o ov->RelV i iv->RelV v u->t o i v H Q ->
  wpAny (model X.prog X.w) X.A (setItem ov iv u) (fun _ s'=>∃ H',Inv X pins σ H' s'/\Q H') X.xe s
section
variable {X:Cx} {pos:Pos}
noncomputable def bJ(i:Nat):TG:=fun v σ H Q=>Q (σ.set i (some v)) H
theorem Bu(hN:X.N.Nodup)(hi:X.N[i]?=some x)(hx:Loc X.env.scope x)(hf:autoParam (X.fn x=true\/X.env.scope.names.lookup x=some .local) ℜ2):PG X (.Name x pos) (bJ i):=by
 intro pins s σ H v u Q I r h;exact wpAny_assign_Name (oJ I hN hi hx r (fun s' I'=>⟨_,H,I',h⟩) hf)
noncomputable def mU:pA:=fun vs σ H Q=>vs=[]/\Q σ H
noncomputable def eY(t:TG)(u:pA):pA:=fun vs σ H Q=>∃ v r,vs=v::r/\t v σ H fun σ' H'=>u r σ' H' Q
theorem Aq:Fb X [] mU:=by
 intro pins s σ H vs us Q I r h;obtain⟨e,h⟩:=h;subst e;cases r;exact assignInOrder_nil ⟨σ,H,I,h⟩
theorem yc{t:TG}{u:pA}(h1:PG X e t)(h2:Fb X es u)
  (hs:autoParam ((assignEach (e::es) X.env).map (·.2)=assign e X.env::(assignEach es X.env).map (·.2)) ℜ0):Fb X (e::es) (eY t u):=by
 intro pins s σ H vs us Q I r h;obtain⟨v,vr,e1,h⟩:=h;subst e1
 cases r with
 |cons r rr =>
  rw[hs];refine assignInOrder_cons (bo (h1 pins s σ H _ _ _ I r h) fun _ s1 ⟨σ1,H1,I1,q1⟩=>?_);exact h2 pins s1 σ1 H1 _ _ Q I1 rr q1
noncomputable def nJ(K:Pq)(n:Nat)(t:pA):TG:=fun v σ H Q=>∃ a xs,v=.ref a/\aW K H a xs/\xs.length=n/\t xs σ H Q
theorem w_{t:pA}{n:Nat}(hc:X.calm=true)(h:Fb X es t)
  (hn:autoParam ((assignEach es X.env).length=n) ℜ0) (hst:autoParam ((assignEach es X.env).findIdx? (·.1)=none) ℜ0):PG X (.Tuple es k pos) (nJ X.K n t):=by
 intro pins s σ H v u Q I r hw;obtain⟨a,xs,e1,hq,hl,hw⟩:=hw;subst e1;cases r;obtain⟨its,rv,ht,hz⟩:=I.tuple hq;refine assign_Tuple_tuple (I.ok.hd hc) ht (by simp[hn,<- hl,rv.length]) hst fun h' hx=>?_
 have I1:Inv X pins σ H {s with heap:=h'}:=I.kept (t':=s.toks) fun b o e=>hx b o (KJ (KA e)) e
 exact h pins _ σ H xs _ Q I1 (by simpa using rv) hw
noncomputable def zt(to ti:TE)(t:Bd):TG:=fun v σ H Q=>to σ H fun o H1=>ti σ H1 fun i H2=>t o i v H2 fun H3=>Q σ H3
theorem Et{o i:Expr}{to ti:TE}{t:Bd}(ho:PE X o to)(hi:PE X i ti)(hs:ED X t)
  (ha:autoParam (∀ v,assign (.Subscript o i pos) X.env v=(do
   let ov <- holding [v] (eval o X.env)
   let iv <- holding [v,ov] (eval i X.env)
   standAt pos
   holding [v,ov,iv] (setItem ov iv v)
   release [v,ov,iv] [])) ℜ3):PG X (.Subscript o i pos) (zt to ti t):=by
 intro pins s σ H v u Q I r h;rw[ha];refine Ku (Lg (bo (ho pins s σ H _ I h) fun ov s1 ⟨x,H1,I1,r1,q1⟩=>?_));refine Ku (Lg (bo (hi pins s1 σ H1 _ I1 q1) fun iv s2 ⟨y,H2,I2,r2,q2⟩=>?_));refine Ku (Nt (Ku (Lg (bo (hs pins s2 σ H2 x y v ov iv u _ I2 r1 r2 r q2) fun _ s3 ⟨H3,I3,q3⟩=>?_))));exact wpAny_release ⟨σ,H3,I3,q3⟩
noncomputable def kh(te:TE)(g:TG):TS:=fun D σ H=>te σ H fun x H1=>g x σ H1 D.nx
theorem ER{te:TE}{g:TG}(he:PE X e te)(hg:PG X tg g)(hs:autoParam (swapsWithSole [tg] e pos.line X.env=pure false) ℜ0)(hw:autoParam (swappedStores [tg] e X.env=pure none) ℜ0)
  (h1:autoParam ((assignEach [tg] X.env).map (·.2)=[assign tg X.env]) ℜ0):PS X (.Assign [tg] e pos) (kh te g):=by
 intro pins s σ H D I h;refine wpAny_Assign_stores (bo (he pins s σ H _ I h) fun v s1 ⟨x,H1,I1,r1,q1⟩=>?_) hs hw;rw[h1];exact bo (hg pins s1 σ H1 x v _ I1 r1 q1) fun _ s2 q=>q
theorem DK{te:TE}{pos':Pos}(hN:X.N.Nodup)(hi:X.N[i]?=some x)(hx:Loc X.env.scope x)(he:PE X e te)(hs:autoParam (swapsWith e (some (.Name x pos')) pos.line X.env=pure false) ℜ0)(hf:autoParam (X.fn x=true\/X.env.scope.names.lookup x=some .local) ℜ2):
  PS X (.Assign [.Name x pos'] e pos) (kh te (bJ i)):=by
 intro pins s σ H D I h;refine wpAny_Assign_Name (bo (he pins s σ H _ I h) fun v s1 ⟨y,H1,I1,r1,q1⟩=>?_) hs;exact oJ I1 hN hi hx r1 (fun s2 I2=>⟨_,H1,I2,q1⟩) hf
end
section
variable {X:Cx} {pos:Pos}
noncomputable def wY(c:TT)(tb:TS):TS:=fun D σ H=>∃ W:Nat->St->Hp->Prop,(∃ m,W m σ H)/\∀ m σ H,W m σ H ->
 c σ H fun b H1=>if b=true then ∃ N:St->Hp->Prop,(∀ σ' H',N σ' H'->∃ m',m'<m/\W m' σ' H')/\tb {D with nx:=N,ct:=N,bk:=D.nx} σ H1 else D.nx σ H1
theorem ye{tc:TT}(hp:PassesOwn (model X.prog X.w) X.A X.env X.xe)(hc:PT X c tc)(hb:pC X body tb):PS X (.While c body [] pos) (wY tc tb):=by
 intro pins s σ H D I h;obtain⟨W,⟨m0,w0⟩,turn⟩:=h;refine wpAny_While (codeAny_whileLoop (fun n s'=>∃ σ' H',Inv X pins σ' H' s'/\W n σ' H') ?_ m0 ⟨σ,H,I,w0⟩);rintro n s1 ⟨σ1,H1,I1,w1⟩;refine Ms hp (bo (hc pins s1 σ1 H1 _ I1 (turn n σ1 H1 w1)) fun b s2 ⟨H2,I2,q2⟩=>?_)
 cases b with
 |true =>
  obtain⟨N,hN,q2⟩:=q2;rw[Kz rfl];refine Ms hp (bo (hb pins s2 σ1 H2 _ I2 q2) fun f s3 q3=>?_)
  cases f with
  |next =>
   obtain⟨σ3,H3,I3,n3⟩:=q3;obtain⟨m',hm,w3⟩:=hN σ3 H3 n3;exact⟨m',hm,σ3,H3,I3,w3⟩
  |cont =>
   obtain⟨σ3,H3,I3,n3⟩:=q3;obtain⟨m',hm,w3⟩:=hN σ3 H3 n3;exact⟨m',hm,σ3,H3,I3,w3⟩
  |brk=>exact q3
  |ret v=>exact q3
 |false =>
  rw[Kx K5];exact N9 ⟨σ1,H2,I2,q2⟩
end
structure It where
 go:Nat->Hp->Prop
 BZ:Nat->Hp->V->Hp->Prop
 stop:Nat->Hp->Prop
noncomputable def ke(X:Cx)(pins:List (Addr×Obj))(H:Hp)(b:Addr):Prop:=
 H b=none/\b≠X.env.locals/\b∉X.fs/\(b∈X.ex\/X.s₀.heap.objs.size<=b)/\(∀ x c,X.env.cells.lookup x=some c->c≠b)/\∀ p∈X.pn++pins,p.1≠b
theorem Inv.pj{H':Hp}(I:Inv X pins σ H s)(hb:s.heap.objs.size<=b)(hn:H' b=none):ke X pins H' b:=by
 refine⟨hn,Mo (KU I.lt hb),I.GV hb,.inr (KG I.sz hb),fun x c e z=>?_,fun p hp z=>?_⟩
 ·obtain⟨v,q⟩:=I.cell x c e;exact absurd (KU q.lt (by rw[z];exact hb)) (L9 _)
 ·exact absurd (KU (KA (I.pin p hp).1) (by rw[z];exact hb)) (L9 _)
structure Turn (P:Program) (w:World) (K:Pq) (tg:Expr) (J:It) (fp:List Addr) (it:Addr) (tn:Nat->Heap->Prop):Prop where
 mem:it∈fp
 obj:∀ i h,tn i h->∀ b∈fp,∃ o,h.get? b=some o/\∀ v,o.data≠.cell v
 keep:∀ i h h',tn i h->(∀ b∈fp,∀ o,h.get? b=some o->h'.get? b=some o)->tn i h'
 item:∀(X:Cx),X.prog=P->X.w=w->X.K=K->X.calm=true->∀(i:Nat) (pins:List (Addr×Obj)) (s:Shared) (σ:St) (H:Hp) (E:Value->Shared->Prop),Inv X pins σ H s->(∀ b∈fp,ke X pins H b)->tn i s.heap->J.go i H ->
  wpAny (model P w) X.A (pyNext (.ref it)) (fun r s1=>∃ u,r=some u /\
   wpAny (model P w) X.A (letOwnedTupleGo tg (.ref it) u) (fun _ s2=>∃ x H',Inv X pins σ H' s2/\RelV x u/\J.BZ i H x H'/\tn (i+1) s2.heap/\∀ b∈fp,H' b=none) E s1) E s
 done:∀(X:Cx),X.prog=P->X.w=w->X.K=K->X.calm=true->∀(i:Nat) (pins:List (Addr×Obj)) (s:Shared) (σ:St) (H:Hp) (E:Value->Shared->Prop),Inv X pins σ H s->(∀ b∈fp,ke X pins H b)->tn i s.heap->J.stop i H ->
  wpAny (model P w) X.A (pyNext (.ref it)) (fun r s1=>r=none/\Inv X pins σ H s1) E s
 self:∀(A:Around) (i:Nat) (s:Shared) (Q:Value->Shared->Prop) (E:Value->Shared->Prop),tn i s.heap->Q (.ref it) s->wpAny (model P w) A (pyIter (.ref it)) Q E s
abbrev TI:=St->Hp->(It->Hp->Prop)->Prop
noncomputable def JZ(X:Cx)(pins:List (Addr×Obj))(σ:St)(tg:Expr)(R:It->Hp->Prop)(itv:Value)(s2:Shared):Prop:=
 ∃(it:Addr) (fp:List Addr) (tn:Nat->Heap->Prop) (J:It) (H':Hp),itv=.ref it/\Inv X pins σ H' s2/\Turn X.prog X.w X.K tg J fp it tn/\tn 0 s2.heap/\(∀ b∈fp,ke X pins H' b)/\R J H'
noncomputable def PI(X:Cx)(tg iter:Expr)(wi:TI):Prop:=
 ∀(pins:List (Addr×Obj)) (s:Shared) (σ:St) (H:Hp) (R:It->Hp->Prop),Inv X pins σ H s->wi σ H R ->
  wpAny (model X.prog X.w) X.A (eval iter X.env) (fun v s1=>wpAny (model X.prog X.w) X.A (pyIter v) (JZ X pins σ tg R) X.xe s1) X.xe s
theorem yj{A:Around}{it:Addr}{o:Obj}{n:String}{vs:Array Value}{Q:Unit->Shared->Prop}(ho:s.heap.get? it=some o)(hc:o.cls=.type n)(hd:o.data=.fields vs)
    (hn:["enumerate","zip","dict_itemiterator","dict_reverseitemiterator","odict_iterator","itertools.zip_longest","itertools.pairwise"].contains n=false) (hQ:Q () s):wpAny M A (letOwnedTupleGo tg (.ref it) u) Q E s:=by
  unfold letOwnedTupleGo
  cases tg<;>first
    |exact K1 hQ
    | (cases u<;>first
        |exact K1 hQ
        | (refine Ku (wpAny_load ho ?_)
           rw[hc,hd];show wpAny M A (if (["enumerate","zip","dict_itemiterator","dict_reverseitemiterator","odict_iterator","itertools.zip_longest","itertools.pairwise"].contains n && vs[0]? == some (rawInt _))=true then _ else _) Q E s
           rw[Kx (by intro h;rw[hn,OR] at h;cases h)]
           exact K1 hQ))
noncomputable def qZ(K:Pq)(a:Addr):It:=
 ⟨fun i H=>∃ xs x,bz K H a xs/\xs[i]?=some x,fun i H x H'=>H'=H/\∀ xs,bz K H a xs->xs[i]?=some x,fun i H=>∃ xs,bz K H a xs/\xs.length<=i⟩
noncomputable def vq(K:Pq)(a:Addr):It:=
 ⟨fun i H=>∃ xs x,aW K H a xs/\xs[i]?=some x,fun i H x H'=>H'=H/\∀ xs,aW K H a xs->xs[i]?=some x,fun i H=>∃ xs,aW K H a xs/\xs.length<=i⟩
noncomputable def Fo(lo:Int)(n:Nat):It:=⟨fun i _=>i<n,fun i H x H'=>H'=H/\x=.int (lo+i),fun i _=>n<=i⟩
theorem lA(a it:Addr):Turn P w K tg (qZ K a) [it] it (fun i h=>h.IsListIter it a i) where
 mem:=by simp
 obj:=fun i h st b hb=>by
  have e:b=it:=by simpa using hb
  subst e;obtain⟨o,e,c,d⟩:=st;exact⟨o,e,fun v z=>by rw[d] at z;cases z⟩
 keep:=fun i h h' st k=>st.at fun o e=>k it (by simp) o e
 item:=by
  intro X hP hw hK hc i pins s σ H E I hf st hg;subst hP hw hK;obtain⟨xs,x,hq,hx⟩:=hg;obtain⟨its,rv,p,hz⟩:=I.list hq;obtain⟨u,hu,ru⟩:=rv.get hx;obtain⟨f0,f1,f2,f3,f4,f5⟩:=hf it (by simp)
  refine Nq st p.isList (x:=u) (by simpa using hu) fun h' st' sb=>?_
  have I1:Inv X pins σ H {s with heap:=h'}:=I.turned (t':=s.toks) (fun b o hb e=>(sb.2 b hb).trans e) f0 f1 f3 f4 f5
  obtain⟨o,e,c,d⟩:=id st';exact⟨u,rfl,yj (s:={s with heap:=h'}) e c d (by decide) ⟨x,H,I1,ru,⟨rfl,fun ys hy=>by rw[I.nM hy hq];exact hx⟩,st',fun b hb=>(hf b hb).1⟩⟩
 done:=by
  intro X hP hw hK hc i pins s σ H E I hf st hg;subst hP hw hK;obtain⟨xs,hq,hx⟩:=hg;obtain⟨its,rv,p,hz⟩:=I.list hq;obtain⟨f0,f1,f2,f3,f4,f5⟩:=hf it (by simp)
  have hl:=rv.length;exact N2 (I.ok.hd hc) st p.isList (by simp;lia) fun h' eb=>⟨rfl,I.turned (t':=s.toks) (fun b o hb e=>eb b o hb e) f0 f1 f3 f4 f5⟩
 self:=fun _ _ _ _ _ st h=>wpAny_pyIter_listiter st h
theorem jo(a it:Addr):Turn P w K tg (vq K a) [it] it (fun i h=>h.IsTupleIter it a i) where
 mem:=by simp
 obj:=fun i h st b hb=>by
  have e:b=it:=by simpa using hb
  subst e;obtain⟨o,e,c,d⟩:=st;exact⟨o,e,fun v z=>by rw[d] at z;cases z⟩
 keep:=fun i h h' st k=>st.at fun o e=>k it (by simp) o e
 item:=by
  intro X hP hw hK hc i pins s σ H E I hf st hg;subst hP hw hK;obtain⟨xs,x,hq,hx⟩:=hg;obtain⟨its,rv,p,hz⟩:=I.tuple hq;obtain⟨u,hu,ru⟩:=rv.get hx;obtain⟨f0,f1,f2,f3,f4,f5⟩:=hf it (by simp)
  refine wpAny_pyNext_tuple_item st (show s.heap.IsTuple a its.toArray from p) (x:=u) (by simpa using hu) fun h' st' sb=>?_
  have I1:Inv X pins σ H {s with heap:=h'}:=I.turned (t':=s.toks) (fun b o hb e=>(sb.2 b hb).trans e) f0 f1 f3 f4 f5
  obtain⟨o,e,c,d⟩:=id st';exact⟨u,rfl,yj (s:={s with heap:=h'}) e c d (by decide) ⟨x,H,I1,ru,⟨rfl,fun ys hy=>by rw[I.ie hy hq];exact hx⟩,st',fun b hb=>(hf b hb).1⟩⟩
 done:=by
  intro X hP hw hK hc i pins s σ H E I hf st hg;subst hP hw hK;obtain⟨xs,hq,hx⟩:=hg;obtain⟨its,rv,p,hz⟩:=I.tuple hq;obtain⟨f0,f1,f2,f3,f4,f5⟩:=hf it (by simp)
  have hl:=rv.length;exact wpAny_pyNext_tuple_end (I.ok.hd hc) st (show s.heap.IsTuple a its.toArray from p) (by simp;lia) fun h' eb=>⟨rfl,I.turned (t':=s.toks) (fun b o hb e=>eb b o hb e) f0 f1 f3 f4 f5⟩
 self:=fun _ _ _ _ _ st h=>wpAny_pyIter_tupleiter st h
theorem pJ{w:World}(it:Addr)(lo:Int)(n:Nat):Turn P w K tg (Fo lo n) [it] it (fun i h=>IsRangeIter h it (lo+(i:Nat)*1) ((n:Int)-(i:Nat)) 1) where
 mem:=by simp
 obj:=fun i h st b hb=>by
  have e:b=it:=by simpa using hb
  subst e;exact⟨_,st,fun v z=>by
   have z':Data.fields _=Data.cell v:=z
   cases z'⟩
 keep:=fun i h h' st k=>k it (by simp) _ st
 item:=by
  intro X hP hw hK hc i pins s σ H E I hf st hg;subst hP hw hK;obtain⟨f0,f1,f2,f3,f4,f5⟩:=hf it (by simp)
  have W:=Walks.range (prog:=X.prog) (w:=X.w) (I.ok.hd hc) it lo 1 n;refine W.item i s _ _ hg st fun v h' tk hv st' kk=>?_;obtain⟨t,rfl⟩:=hv;have I1:Inv X pins σ H {s with heap:=h',toks:=tk}:=I.turned (fun b o hb e=>kk b o (by simpa using hb) e) f0 f1 f3 f4 f5
  refine⟨_,rfl,yj (s:={s with heap:=h',toks:=tk}) (n:="range_iterator") st' rfl rfl (by decide) ⟨.int (lo+i),H,I1,⟨t,?_⟩,⟨rfl,rfl⟩,st',fun b hb=>(hf b hb).1⟩⟩
  rw[Int.mul_one]
 done:=by
  intro X hP hw hK hc i pins s σ H E I hf st hg;subst hP hw hK;obtain⟨f0,f1,f2,f3,f4,f5⟩:=hf it (by simp)
  exact wpAny_pyNext_range_end (I.ok.hd hc) st (by have:n<=i:=hg;lia) fun h' eb=>⟨rfl,I.turned (t':=s.toks) (fun b o hb e=>eb b o hb e) f0 f1 f3 f4 f5⟩
 self:=fun _ _ _ _ _ st h=>wpAny_pyIter_rangeiter st h
section
variable {X:Cx} {tg:Expr}
theorem nG{R:It->Hp->Prop}{lo hi:Int}{t u v:Tok}{tk:Nat}(I:Inv X pins σ H s)(h1:-(2^62)<=lo)(h2:lo<2^62)(h3:-(2^62)<=hi)(h4:hi<2^62)
  (q:R (Fo lo (hi-lo).toNat) H):wpAny (model X.prog X.w) X.A (pyIter (.ref s.heap.objs.size)) (JZ X pins σ tg R) E {s with heap:=s.heap.push {cls:=.type "range",data:=.fields #[.int lo t,.int hi u,.int 1 v]},toks:=tk}:=by
 refine wpAny_pyIter_range (IsRange.new ..) (small_one h1 h2 h3 h4) ?_;have I1:Inv X pins σ H {s with heap:=s.heap.push {cls:=.type "range",data:=.fields #[.int lo t,.int hi u,.int 1 v]},toks:=tk}:=I.kept fun b o e=>Kv _ e
 refine⟨(s.heap.push {cls:=.type "range",data:=.fields #[.int lo t,.int hi u,.int 1 v]}).objs.size,[(s.heap.push {cls:=.type "range",data:=.fields #[.int lo t,.int hi u,.int 1 v]}).objs.size],_,_,H,rfl,
  I1.kept (t':=tk) fun b o e=>Kv _ e,pJ _ lo (hi-lo).toNat,?_,fun b hb=>?_,q⟩
 ·have e1:lo+((0:Nat):Int)*1=lo:=by simp
  have e2:(((hi-lo).toNat:Nat):Int)-((0:Nat):Int)=Builtin.Range.rangeSize lo hi 1:=by rw[rangeSize_one];split<;>lia
  show IsRangeIter _ _ (lo+((0:Nat):Int)*1) ((((hi-lo).toNat:Nat):Int)-((0:Nat):Int)) 1;rw[e1,e2];exact K7 _ rfl
 ·have e:b=(s.heap.push {cls:=.type "range",data:=.fields #[.int lo t,.int hi u,.int 1 v]}).objs.size:=by simpa using hb
  subst e;exact I1.pj (K2 _) (I1.aD.fresh (K2 _))
noncomputable def yf(ta:TA):TI:=fun σ H R=>ta σ H fun vs H1=>∃ j:Int,vs=[.int j]/\-(2^62)<=j/\j<2^62/\R (Fo 0 j.toNat) H1
noncomputable def xv(ta:TA):TI:=fun σ H R=>ta σ H fun vs H1=>∃ i j:Int,vs=[.int i,.int j]/\(-(2^62)<=i/\i<2^62/\-(2^62)<=j/\j<2^62)/\R (Fo i (j-i).toNat) H1
theorem uW{a:Expr}{ta:TA}{p:Pos}(hg:Gl X "range")(hm:X.mg "range"=none)(ha:PA X [a] ta)(hs:autoParam (starEach [a] X.env=[(false,eval a X.env)]) ℜ0):PI X tg (.Call (.Name "range" p) [a] [] pos) (yf ta):=by
 intro pins s σ H R I h;refine Call_ (eR I hg hm boot_range (LP (bo (ha pos pins s σ H _ I h) fun us s1 ⟨vs,H1,I1,r1,q1⟩=>?_) hs rfl));obtain⟨j,e,q1,q2,q⟩:=q1;subst e
 cases r1 with
 |cons r rr =>
  cases rr;obtain⟨t,rfl⟩:=r;exact call_range_1 (nG I1 (by lia) (by lia) q1 q2 (by simpa using q))
theorem u_{a b:Expr}{ta:TA}{p:Pos}(hg:Gl X "range")(hm:X.mg "range"=none)(ha:PA X [a,b] ta)(hs:autoParam (starEach [a,b] X.env=[(false,eval a X.env),(false,eval b X.env)]) ℜ0)(hs2:autoParam (starEach [b] X.env=[(false,eval b X.env)]) ℜ0):
  PI X tg (.Call (.Name "range" p) [a,b] [] pos) (xv ta):=by
 intro pins s σ H R I h;refine Call_ (eR I hg hm boot_range (LP (bo (ha pos pins s σ H _ I h) fun us s1 ⟨vs,H1,I1,r1,q1⟩=>?_) (by rw[hs,hs2]) (by rw[hs2];rfl)))
 obtain⟨i,j,e,⟨q1,q2,q3,q4⟩,q⟩:=q1;subst e
 cases r1 with
 |cons r rr =>
  cases rr with
  |cons r' rr =>
   cases rr;obtain⟨t,rfl⟩:=r;obtain⟨t',rfl⟩:=r';exact call_range_2 (nG I1 q1 q2 q3 q4 q)
noncomputable def EL(wi:TI)(g:TG)(tb:TS):TS:=fun D σ H=>wi σ H fun J H1=>∃ W:Nat->Nat->St->Hp->Prop,(∃ m,W 0 m σ H1)/\∀ i m σ H,W i m σ H ->
 (J.stop i H/\D.nx σ H)\/(J.go i H/\∃ N:St->Hp->Prop,(∀ σ' H',N σ' H'->∃ m',m'<m/\W (i+1) m' σ' H')/\∀ x H',J.BZ i H x H'->g x σ H' fun σ2 H2=>tb {D with nx:=N,ct:=N,bk:=D.nx} σ2 H2)
noncomputable def j6(fp:List Addr)(h:Heap):List (Addr×Obj):=fp.filterMap fun b=>(h.get? b).map fun o=>(b,o)
theorem eA{o:Obj}(hb:b∈fp)(e:h.get? b=some o):(b,o)∈j6 fp h:=Nd.mpr ⟨b,hb,by rw[e];rfl⟩
theorem uN{p:Addr×Obj}(hp:p∈j6 fp h):p.1∈fp/\h.get? p.1=some p.2:=by
 obtain⟨b,hb,e⟩:=Nd.mp hp
 cases q:h.get? b with
 |none=>rw[q] at e;cases e
 |some o =>
  rw[q] at e;have e':(b,o)=p:=Option.some.inj e;subst e';exact⟨hb,q⟩
theorem Inv.pinned(I:Inv X pins σ H s)(hf:∀ b∈fp,ke X pins H b)(ho:∀ b∈fp,∃ o,s.heap.get? b=some o/\∀ v,o.data≠.cell v):Inv X (pins++j6 fp s.heap) σ H s:=
 I.lO fun p hp=>(KR.mp hp).elim (fun z=>I.pin p (KQ _ z)) fun z=>by
  obtain⟨hb,e⟩:=uN z;obtain⟨f0,f1,f2,_⟩:=hf p.1 hb;obtain⟨o,e',d⟩:=ho p.1 hb;rw[e] at e';cases e';exact⟨e,f0,f1,f2,d⟩
theorem Inv.fk{pl:List (Addr×Obj)}(I:Inv X (pins++pl) σ H s):Inv X pins σ H s:=I.lO fun p hp=>I.pin p (KQ _ (N8 _ hp))
theorem Ea{iter:Expr}{wi:TI}{g:TG}(hp:PassesOwn (model X.prog X.w) X.A X.env X.xe)(hc:X.calm=true)(hi:PI X tg iter wi)(hg:PG X tg g)(hb:pC X body tb)
  (hs:autoParam (∀ x,foldedSetIterable iter X.env x=pure x) ℜ3):PS X (.For tg iter body [] pos) (EL wi g tb):=by
 intro pins s σ H D I h;refine wpAny_For (bo (hi pins s σ H _ I h) fun v s1 h1=>bo h1 fun itv s2 h2=>?_) hs;obtain⟨it,fp,tn,J,H2,e,I2,T,vv,f2,W,⟨m0,w0⟩,turn⟩:=h2;subst e;have stat:∀{H':Hp},(∀ b∈fp,H' b=none)->∀ b∈fp,ke X pins H' b:=fun hn b hb=>⟨hn b hb,(f2 b hb).2⟩;refine codeAny_forLoop_any (fun n s'=>∃ i σ' H',Inv X pins σ' H' s'/\tn i s'.heap/\(∀ b∈fp,H' b=none)/\W i n σ' H') ?_ m0 ⟨0,σ,H2,I2,vv,fun b hb=>(f2 b hb).1,w0⟩;rintro n s3 ⟨i,σ3,H3,I3,st3,fr3,w3⟩;rcases turn i n σ3 H3 w3 with ⟨stop,qn⟩|⟨go,N,hN,step⟩
 ·refine Ms hp (bo (T.done X rfl rfl rfl hc i pins s3 σ3 H3 X.xe I3 (stat fr3) st3 stop) fun r s4 ⟨hr,I4⟩=>?_);subst hr;exact N9 ⟨σ3,H3,I4,qn⟩
 ·refine Ms hp (bo (T.item X rfl rfl rfl hc i pins s3 σ3 H3 X.xe I3 (stat fr3) st3 go) fun r s4 ⟨u,hr,h4⟩=>?_);subst hr;refine Ms hp (bo h4 fun _ s5 ⟨x,H5,I5,r5,y5,st5,fr5⟩=>?_);have I5':=I5.pinned (stat fr5) (T.obj _ _ st5);refine Ms hp (bo (hg _ s5 σ3 H5 x u _ I5' r5 (step x H5 y5)) fun _ s6 ⟨σ6,H6,I6,q6⟩=>?_);refine Ms hp (bo (hb _ s6 σ6 H6 _ I6 q6) fun f s7 q7=>?_);have again:∀{σ7:St} {H7:Hp},Inv X (pins++j6 fp s5.heap) σ7 H7 s7->N σ7 H7->∃ m,m<n/\∃ i σ' H',Inv X pins σ' H' s7/\tn i s7.heap/\(∀ b∈fp,H' b=none)/\W i m σ' H':=fun {σ7 H7} I7 n7=>by
   obtain⟨m',hm,w7⟩:=hN σ7 H7 n7;refine⟨m',hm,i+1,σ7,H7,I7.fk,T.keep _ _ _ st5 fun b hb o e=>(I7.pin (b,o) (KQ _ (KQ _ (eA hb e)))).1,fun b hb=>?_,w7⟩;obtain⟨o,e,d⟩:=T.obj _ _ st5 b hb;exact (I7.pin (b,o) (KQ _ (KQ _ (eA hb e)))).2.1
  cases f with
  |next=>obtain⟨σ7,H7,I7,n7⟩:=q7;exact again I7 n7
  |cont=>obtain⟨σ7,H7,I7,n7⟩:=q7;exact again I7 n7
  |brk=>obtain⟨σ7,H7,I7,q7⟩:=q7;exact⟨σ7,H7,I7.fk,q7⟩
  |ret v=>obtain⟨x7,σ7,H7,I7,r7,q7⟩:=q7;exact⟨x7,σ7,H7,I7.fk,r7,q7⟩
end
theorem xc{g:TG}{D:Ends}(Pv:Nat->St->Hp->Prop)(h0:Pv 0 σ H)(hl:∀ i σ H,i<=xs.length->Pv i σ H->bz K H a xs)
  (hs:∀ i x σ H,xs[i]?=some x->Pv i σ H->g x σ H fun σ2 H2=>tb {D with nx:=Pv (i+1),ct:=Pv (i+1),bk:=D.nx} σ2 H2) (hd:∀ σ H,Pv xs.length σ H->D.nx σ H) :
  ∃ W:Nat->Nat->St->Hp->Prop,(∃ m,W 0 m σ H)/\∀ i m σ H,W i m σ H ->
   ((qZ K a).stop i H/\D.nx σ H)\/((qZ K a).go i H/\∃ N:St->Hp->Prop,(∀ σ' H',N σ' H'->∃ m',m'<m/\W (i+1) m' σ' H')/\∀ x H',(qZ K a).BZ i H x H'->g x σ H' fun σ2 H2=>tb {D with nx:=N,ct:=N,bk:=D.nx} σ2 H2):=by
 refine⟨fun i m σ H=>m=xs.length-i/\i<=xs.length/\Pv i σ H,⟨xs.length,by simp,KY _,h0⟩,?_⟩
 rintro i m σ H ⟨rfl,hi,p⟩;have q:=hl i σ H hi p;by_cases hlt:i<xs.length
 ·refine .inr ⟨⟨xs,xs[i],q,by simp[hlt]⟩,Pv (i+1),fun σ' H' p'=>⟨xs.length-(i+1),by lia,rfl,hlt,p'⟩,fun x H' y=>?_⟩
  obtain⟨e,y⟩:=y;subst e;exact hs i x σ _ (y xs q) p
 ·have e:i=xs.length:=by lia
  subst e;exact .inl ⟨⟨xs,q,K2 _⟩,hd σ H p⟩
abbrev R2:=V->V->Hp->VK->Prop
variable{r:R2}
noncomputable def cW(X:Cx)(f:Value->Value->Sem Value)(r:R2):Prop:=
 ∀(pins:List (Addr×Obj)) (s:Shared) (σ:St) (H:Hp) (x y:V) (v u:Value) (Q:VK),Inv X pins σ H s->RelV x v->RelV y u->r x y H Q ->
  wpAny (model X.prog X.w) X.A (f v u) (EP X pins σ Q) X.xe s
noncomputable def Il(X:Cx)(f:Value->Sem Value)(r:V->Hp->VK->Prop):Prop:=
 ∀(pins:List (Addr×Obj)) (s:Shared) (σ:St) (H:Hp) (x:V) (v:Value) (Q:VK),Inv X pins σ H s->RelV x v->r x H Q ->
  wpAny (model X.prog X.w) X.A (f v) (EP X pins σ Q) X.xe s
noncomputable def aH(X:Cx)(f:Value)(r:List V->Hp->VK->Prop):Prop:=
 ∀(pins:List (Addr×Obj)) (s:Shared) (σ:St) (H:Hp) (xs:List V) (us:List Value) (Q:VK),Inv X pins σ H s->Vals xs us->r xs H Q ->
  wpAny (model X.prog X.w) X.A (call f us) (EP X pins σ Q) X.xe s
noncomputable def Iw(X:Cx)(r:V->Hp->(Bool->Hp->Prop)->Prop):Prop:=
 ∀(pins:List (Addr×Obj)) (s:Shared) (σ:St) (H:Hp) (x:V) (v:Value) (Q:Bool->Hp->Prop),Inv X pins σ H s->RelV x v->r x H Q ->
  wpAny (model X.prog X.w) X.A (truthy v) (TP X pins σ Q) X.xe s
noncomputable def vt(r:R2)(ta tb:TE):TE:=fun σ H Q=>ta σ H fun x H1=>tb σ H1 fun y H2=>r x y H2 Q
noncomputable def JK(r:V->Hp->VK->Prop)(ta:TE):TE:=fun σ H Q=>ta σ H fun x H1=>r x H1 Q
noncomputable def rI(C:Int->Int->Prop)(g:Int->Int->V):R2:=fun x y H Q=>∃ i j,x=.int i/\y=.int j/\C i j/\Q (g i j) H
noncomputable def tE(g:Int->Int->V):R2:=fun x y H Q=>∃ i j,x=.int i/\y=.int j/\Q (g i j) H
noncomputable def rU(g:Int->V):V->Hp->VK->Prop:=fun x H Q=>∃ i,x=.int i/\Q (g i) H
section
variable {X:Cx} {a b c:Expr} {ta tb tc:TE} {pos:Pos}
theorem DN(ha:PE X a ta)(hb:PE X b tb){R:V->V->Hp->Prop}(I:Inv X pins σ H s)
  (h:ta σ H fun x H1=>tb σ H1 fun y H2=>R x y H2)  
  (hf:∀ v u s2 x y H2,Inv X pins σ H2 s2->RelV x v->RelV y u->R x y H2->wpAny (model X.prog X.w) X.A (f v u) Q X.xe s2) :
  wpAny (model X.prog X.w) X.A (eval a X.env) (fun v s₁=>wpAny (model X.prog X.w) X.A (eval b X.env) (fun u s₂=>wpAny (model X.prog X.w) X.A (f v u) Q X.xe s₂) X.xe s₁) X.xe s:=by
 refine bo (ha pins s σ H _ I h) fun v s1 ⟨x,H1,I1,r1,q1⟩=>?_;refine bo (hb pins s1 σ H1 _ I1 q1) fun u s2 ⟨y,H2,I2,r2,q2⟩=>?_;exact hf v u s2 x y H2 I2 r1 r2 q2
theorem Hk{op:Operator}(ho:cW X (binaryOp op) r)(ha:PE X a ta)(hb:PE X b tb):PE X (.BinOp a op b pos) (vt r ta tb):=by
 intro pins s σ H Q I h;exact wpAny_BinOp (DN ha hb I h fun v u s2 x y H2 I2 rx ry q=>ho pins s2 σ H2 x y v u Q I2 rx ry q)
theorem GK{op:UnaryOp}{r:V->Hp->VK->Prop}(ho:Il X (unaryOp op) r)(ha:PE X a ta):PE X (.UnaryOp op a pos) (JK r ta):=by
 intro pins s σ H Q I h;exact UnaryOp_ (bo (ha pins s σ H _ I h) fun v s1 ⟨x,H1,I1,r1,q1⟩=>ho pins s1 σ H1 x v Q I1 r1 q1)
theorem Fc{C:Int->Int->Prop}{g:Int->Int->Int}
  (rule:∀(i j:Int) (t u:Tok) (s:Shared) (Q:Value->Shared->Prop) (E:Value->Shared->Prop),C i j->Q (.int (g i j) s.toks) {s with toks:=s.toks+1}->wpAny (model X.prog X.w) X.A (f (.int i t) (.int j u)) Q E s) :
  cW X f (rI C fun i j=>.int (g i j)):=by
 intro pins s σ H x y v u Q I rx ry h;obtain⟨i,j,rfl,rfl,hc,q⟩:=h;obtain⟨t,rfl⟩:=rx;obtain⟨t',rfl⟩:=ry;exact rule i j t t' s _ _ hc ⟨.int (g i j),H,I.tok _,⟨_,rfl⟩,q⟩
theorem Hl{g:Int->Int->Int}
  (rule:∀(i j:Int) (t u:Tok) (s:Shared) (Q:Value->Shared->Prop) (E:Value->Shared->Prop),Q (.int (g i j) s.toks) {s with toks:=s.toks+1}->wpAny (model X.prog X.w) X.A (f (.int i t) (.int j u)) Q E s) :
  cW X f (tE fun i j=>.int (g i j)):=by
 intro pins s σ H x y v u Q I rx ry h;obtain⟨i,j,rfl,rfl,q⟩:=h;obtain⟨t,rfl⟩:=rx;obtain⟨t',rfl⟩:=ry;exact rule i j t t' s _ _ ⟨.int (g i j),H,I.tok _,⟨_,rfl⟩,q⟩
theorem zJ{g:Int->Int->Bool}
  (rule:∀(i j:Int) (t u:Tok) (s:Shared) (Q:Value->Shared->Prop) (E:Value->Shared->Prop),Q (.bool (g i j)) s->wpAny (model X.prog X.w) X.A (f (.int i t) (.int j u)) Q E s) :
  cW X f (tE fun i j=>.bl (g i j)):=by
 intro pins s σ H x y v u Q I rx ry h;obtain⟨i,j,rfl,rfl,q⟩:=h;obtain⟨t,rfl⟩:=rx;obtain⟨t',rfl⟩:=ry;exact rule i j t t' s _ _ ⟨.bl (g i j),H,I,rfl,q⟩
noncomputable def HQ(i j:Int):Prop:=0<=j/\j<=1000000/\i.natAbs<2^64
noncomputable def mO(i j:Int):Prop:=(-(2^64)<i/\i<2^64)\/(-(2^64)<j/\j<2^64)
theorem mO.ok{i j:Int}(h:mO i j):IntMulOk i j:=by
 rcases h with ⟨h1,h2⟩|⟨h1,h2⟩
 ·exact .of_left (intBits_le_64 h1 h2)
 ·exact .of_right (intBits_le_64 h1 h2)
theorem two_pow_nn(k:Nat):(0:Int)<=2^k:=by
 rw[two_pow_cast];exact Int.natCast_nonneg _
theorem vM:cW X (binaryOp .Add) (tE fun i j=>.int (i+j)):=Hl fun _ _ _ _ _ _ _ q=>add_int q
theorem b_:cW X (binaryOp .Sub) (tE fun i j=>.int (i-j)):=Hl fun _ _ _ _ _ _ _ q=>sub_int q
theorem D3:cW X (binaryOp .Mult) (rI mO fun i j=>.int (i*j)):=Fc fun _ _ _ _ _ _ _ hc q=>mul_int q hc.ok
theorem dO:cW X (binaryOp .Mod) (rI (fun _ j=>0<j) fun i j=>.int (i % j)):=Fc fun i j _ _ _ _ _ hc q=>by
 have h1:(0:Int)<j:=hc;exact mod_int' (by lia) (by rw[Int.fmod_eq_emod_of_nonneg i (by lia)];exact q)
theorem xm:cW X (binaryOp .Pow) (rI HQ fun i j=>.int (i^j.toNat)):=Fc fun _ _ _ _ _ _ _ hc q=>pow_int_small hc.1 hc.2.1 hc.2.2 q
theorem vC:cW X (binaryOp .LShift) (rI HQ fun i j=>.int (i*2^j.toNat)):=Fc fun _ _ _ _ _ _ _ hc q=>lshift_int_small hc.1 hc.2.1 hc.2.2 q
theorem D8:cW X (binaryOp .RShift) (rI (fun _ j=>0<=j) fun i j=>.int (i / 2^j.toNat)):=Fc fun i j _ _ _ _ _ hc q =>
 rshift_int hc (by rw[Od i (two_pow_nn _)];exact q)
theorem Kl{f:Value->Sem Value}{g:Int->Int}
  (rule:∀(i:Int) (t:Tok) (s:Shared) (Q:Value->Shared->Prop) (E:Value->Shared->Prop),Q (.int (g i) s.toks) {s with toks:=s.toks+1}->wpAny (model X.prog X.w) X.A (f (.int i t)) Q E s) :
  Il X f (rU fun i=>.int (g i)):=by
 intro pins s σ H x v Q I rx h;obtain⟨i,rfl,q⟩:=h;obtain⟨t,rfl⟩:=rx;exact rule i t s _ _ ⟨.int (g i),H,I.tok _,⟨_,rfl⟩,q⟩
theorem DW:Il X (unaryOp .USub) (rU fun i=>.int (-i)):=Kl fun _ _ _ _ _ q=>neg_int q
end
noncomputable def Gy:V->V->Bool
 |.aM,.aM=>true|.aM,.int _=>true|.int _,.aM=>true|.aM,.bl _=>true|.bl _,.aM=>true|.aM,.str _=>true|.str _,.aM=>true
 |.int _,.int _=>true|.bl _,.bl _=>true|.str _,.str _=>true|.oY _,.oY _=>true
 |.int _,.str _=>true|.str _,.int _=>true|.bl _,.str _=>true|.str _,.bl _=>true
 |_,_=>false
noncomputable def CK:R2:=fun x y H Q=>Gy x y=true/\Q (.bl (decide (x=y))) H
noncomputable def Gz:R2:=fun x y H Q=>Gy x y=true/\Q (.bl (!decide (x=y))) H
theorem t8{i j:Int}:decide (V.int i=V.int j)=(i == j):=by
 rw[NA];simp
theorem xg{i j:Bool}:decide (V.bl i=V.bl j)=(i == j):=by
 rw[NA];simp
theorem sZ{i j:Str}:decide (V.str i=V.str j)=(i == j):=by
 rw[NA];simp
theorem sM{i j:Array UInt8}:decide (V.oY i=V.oY j)=(i.toList == j.toList):=by
 rw[NA];cases i;cases j;simp
section
variable {X:Cx} {a b c:Expr} {ta tb tc:TE} {pos:Pos}
theorem aG{Q:VK}{k k':Bool}(I:Inv X pins σ H s)(q:Q (.bl k) H)(e:k=k'):EP X pins σ Q (.bool k') s:=by
 subst e;exact⟨.bl k,H,I,rfl,q⟩
theorem Cm:cW X (compareOp .Eq) CK:=by
 intro pins s σ H x y v u Q I rx ry h;obtain⟨hs,q⟩:=h
 cases x with
 |aM =>
  cases rx
  cases y with
  |aM=>cases ry;exact PySem.EqNone.eq_none_none (aG I q (by simp))
  |bl j=>cases ry;exact PySem.EqNone.eq_none_bool (aG I q (by simp))
  |int j=>obtain⟨t',rfl⟩:=ry;exact PySem.EqNone.eq_none_int (aG I q (by simp))
  |str j=>obtain⟨t',rfl⟩:=ry;exact PySem.EqNone.eq_none_str (aG I q (by simp))
  |_=>exact absurd (show false=true from hs) K5
 |bl i =>
  cases rx
  cases y with
  |aM=>cases ry;exact PySem.EqNone.eq_bool_none (aG I q (by simp))
  |bl j=>cases ry;exact eq_bool (aG I q xg)
  |str j=>obtain⟨t',rfl⟩:=ry;exact PySem.EqMixed.eq_bool_str (aG I q (by simp))
  |_=>exact absurd (show false=true from hs) K5
 |int i =>
  obtain⟨t,rfl⟩:=rx
  cases y with
  |aM=>cases ry;exact PySem.EqNone.eq_int_none (aG I q (by simp))
  |int j=>obtain⟨t',rfl⟩:=ry;exact eq_int (aG I q t8)
  |str j=>obtain⟨t',rfl⟩:=ry;exact PySem.EqMixed.eq_int_str (aG I q (by simp))
  |_=>exact absurd (show false=true from hs) K5
 |str i =>
  obtain⟨t,rfl⟩:=rx
  cases y with
  |aM=>cases ry;exact PySem.EqNone.eq_str_none (aG I q (by simp))
  |bl j=>cases ry;exact PySem.EqMixed.eq_str_bool (aG I q (by simp))
  |int j=>obtain⟨t',rfl⟩:=ry;exact PySem.EqMixed.eq_str_int (aG I q (by simp))
  |str j=>obtain⟨t',rfl⟩:=ry;exact eq_str (aG I q sZ)
  |_=>exact absurd (show false=true from hs) K5
 |oY i =>
  obtain⟨t,rfl⟩:=rx
  cases y with
  |oY j=>obtain⟨t',rfl⟩:=ry;exact PySem.W.eq_bytes (aG I q sM)
  |_=>exact absurd (show false=true from hs) K5
 |_=>cases y<;>exact absurd (show false=true from hs) K5
theorem Ca:cW X (compareOp .NotEq) Gz:=by
 intro pins s σ H x y v u Q I rx ry h;obtain⟨hs,q⟩:=h
 cases x with
 |aM =>
  cases rx
  cases y with
  |aM=>cases ry;exact PySem.EqNone.ne_none_none (aG I q (by simp))
  |bl j=>cases ry;exact PySem.EqNone.ne_none_bool (aG I q (by simp))
  |int j=>obtain⟨t',rfl⟩:=ry;exact PySem.EqNone.ne_none_int (aG I q (by simp))
  |str j=>obtain⟨t',rfl⟩:=ry;exact PySem.EqNone.ne_none_str (aG I q (by simp))
  |_=>exact absurd (show false=true from hs) K5
 |bl i =>
  cases rx
  cases y with
  |aM=>cases ry;exact PySem.EqNone.ne_bool_none (aG I q (by simp))
  |bl j=>cases ry;exact ne_bool (aG I q (Le not xg))
  |str j=>obtain⟨t',rfl⟩:=ry;exact PySem.EqMixed.ne_bool_str (aG I q (by simp))
  |_=>exact absurd (show false=true from hs) K5
 |int i =>
  obtain⟨t,rfl⟩:=rx
  cases y with
  |aM=>cases ry;exact PySem.EqNone.ne_int_none (aG I q (by simp))
  |int j=>obtain⟨t',rfl⟩:=ry;exact ne_int (aG I q (Le not t8))
  |str j=>obtain⟨t',rfl⟩:=ry;exact PySem.EqMixed.ne_int_str (aG I q (by simp))
  |_=>exact absurd (show false=true from hs) K5
 |str i =>
  obtain⟨t,rfl⟩:=rx
  cases y with
  |aM=>cases ry;exact PySem.EqNone.ne_str_none (aG I q (by simp))
  |bl j=>cases ry;exact PySem.EqMixed.ne_str_bool (aG I q (by simp))
  |int j=>obtain⟨t',rfl⟩:=ry;exact PySem.EqMixed.ne_str_int (aG I q (by simp))
  |str j=>obtain⟨t',rfl⟩:=ry;exact ne_str (aG I q (Le not sZ))
  |_=>exact absurd (show false=true from hs) K5
 |oY i =>
  obtain⟨t,rfl⟩:=rx
  cases y with
  |oY j=>obtain⟨t',rfl⟩:=ry;exact PySem.W.ne_bytes (aG I q (Le not sM))
  |_=>exact absurd (show false=true from hs) K5
 |_=>cases y<;>exact absurd (show false=true from hs) K5
theorem dE:cW X (compareOp .Lt) (tE fun i j=>.bl (decide (i<j))):=zJ fun _ _ _ _ _ _ _ q=>lt_int q
theorem Gd:cW X (compareOp .LtE) (tE fun i j=>.bl (decide (i<=j))):=zJ fun _ _ _ _ _ _ _ q=>le_int q
theorem zu:cW X (compareOp .Gt) (tE fun i j=>.bl (decide (j<i))):=zJ fun _ _ _ _ _ _ _ q=>gt_int q
theorem rJ:cW X (compareOp .GtE) (tE fun i j=>.bl (decide (j<=i))):=zJ fun _ _ _ _ _ _ _ q=>ge_int q
theorem tQ:cW X (compareOp .In) (fun x y H Q=>∃ i j,x=.str i/\y=.str j/\Q (.bl (!(Builtin.Str.occurrences j i 0 j.length 1).isEmpty)) H):=by
 intro pins s σ H x y v u Q I rx ry h;obtain⟨i,j,rfl,rfl,q⟩:=h;obtain⟨t,rfl⟩:=rx;obtain⟨t',rfl⟩:=ry;exact in_str (aG I q rfl)
theorem cW.or{r':R2}(h:cW X f r)(h':cW X f r'):cW X f (fun x y H Q=>r x y H Q\/r' x y H Q):=by
 intro pins s σ H x y v u Q I rx ry q;rcases q with q|q
 ·exact h pins s σ H x y v u Q I rx ry q
 ·exact h' pins s σ H x y v u Q I rx ry q
theorem Ai{op:CmpOp}(ho:cW X (compareOp op) r)(ha:PE X a ta)(hb:PE X b tb)(hm:behindInMarks op b=false):PE X (.Compare a [op] [b] pos) (vt r ta tb):=by
 intro pins s σ H Q I h;exact wpAny_Compare1 (DN ha hb I h fun v u s2 x y H2 I2 rx ry q=>ho pins s2 σ H2 x y v u Q I2 rx ry q) hm
noncomputable def kA(t:TE):TT:=fun σ H Q=>t σ H fun x H'=>∃ k,x=.bl k/\Q k H'
theorem zH{op:CmpOp}(ho:cW X (compareOp op) r)(ha:PE X a ta)(hb:PE X b tb)(hm:behindInMarks op b=false):PT X (.Compare a [op] [b] pos) (kA (vt r ta tb)):=by
 intro pins s σ H Q I h;refine wpAny_isTrue_Compare1 (bo (ha pins s σ H _ I h) fun v s1 ⟨x,H1,I1,r1,q1⟩=>bo (hb pins s1 σ H1 _ I1 q1) fun u s2 ⟨y,H2,I2,r2,q2⟩=>
  bo (ho pins s2 σ H2 x y v u _ I2 r1 r2 q2) fun c s3 ⟨z,H3,I3,r3,k,e,q3⟩=>?_) hm
 subst e;cases r3;exact Nm ⟨H3,I3,q3⟩
noncomputable def uM(K:Pq)(x:V)(H:Hp)(k:Bool):Prop:=
 match x with
 |.aM=>k=false
 |.bl b=>k=b
 |.int i=>k=(i != 0)
 |.str y=>y.length<=sizeLine/\k=((y.length:Int) != 0)
 |.oY y=>y.size<=sizeLine/\k=((y.size:Int) != 0)
 |.ref p=>(∃ xs,bz K H p xs/\k=!xs.isEmpty)\/(∃ xs,aW K H p xs/\k=!xs.isEmpty)\/∃ kvs,H p=some (.dK kvs)/\k=!kvs.isEmpty
 |_=>False
theorem qo{κ:Type}{kvs:List (κ×V)}{vs:List (κ×Value)}(r:KV kvs vs):(!vs.isEmpty)=!kvs.isEmpty:=by
 cases r<;>rfl
theorem jy{its:List Value}(r:Vals xs its):(!its.toArray.isEmpty)=!xs.isEmpty:=by
 cases r<;>simp
theorem fb:(sizeLine:Nat)<2^63:=by rw[LS];decide
theorem EF:Iw X (fun x H Q=>∃ k,uM X.K x H k/\Q k H):=by
 intro pins s σ H x v Q I rx h;obtain⟨k,e,q⟩:=h;have hl:=fb;have hs:sizeLine=16777216:=LS
 cases x with
 |aM =>
  cases rx;have e':k=false:=e;subst e';exact truthy_none ⟨H,I,q⟩
 |bl b =>
  cases rx;have e':k=b:=e;subst e';exact Nm ⟨H,I,q⟩
 |int i =>
  obtain⟨t,rfl⟩:=rx;have e':k=(i != 0):=e;subst e';exact PySem.P.truthy_int ⟨H,I,q⟩
 |str y =>
  obtain⟨t,rfl⟩:=rx;obtain⟨hy,e'⟩:y.length<=sizeLine/\k=((y.length:Int) != 0):=e;subst e';exact PySem.P.truthy_str (by lia) ⟨H,I.tok _,q⟩
 |oY y =>
  obtain⟨t,rfl⟩:=rx;obtain⟨hy,e'⟩:y.size<=sizeLine/\k=((y.size:Int) != 0):=e;subst e';exact PySem.W.truthy_bytes (by lia) ⟨H,I.tok _,q⟩
 |ref p =>
  cases rx;have e':(∃ xs,bz X.K H p xs/\k=!xs.isEmpty)\/(∃ xs,aW X.K H p xs/\k=!xs.isEmpty)\/∃ kvs,H p=some (.dK kvs)/\k=!kvs.isEmpty:=e;rcases e' with ⟨xs,hx,e'⟩|⟨xs,hx,e'⟩|⟨kvs,hx,e'⟩
  ·subst e';obtain⟨its,r,pl,hz⟩:=I.list hx;have hlen:=r.length;exact wpAny_truthy_list pl.isList (by simp only[Ky];lia) ⟨H,I.tok _,by rw[jy r];exact q⟩
  ·subst e';obtain⟨its,r,pl,hz⟩:=I.tuple hx;have hlen:=r.length;exact truthy_tuple pl (by simp only[Ky];lia) ⟨H,I.tok _,by rw[jy r];exact q⟩
  ·subst e';obtain⟨hz,hS,vs,r,m⟩:kvs.length<=sizeLine/\(p == sysModules)=false/\∃ vs,KV kvs vs/\s.heap.DictOf (b7 X.prog X.w) p vs:=I.aD p _ hx;have hlen:kvs.length=vs.length:=Paired.length r;exact wpAny_truthy_dict hS m (by lia) ⟨H,I.tok _,by rw[qo r];exact q⟩
 |_=>exact (show False from e).elim
theorem yo(ha:PE X a ta)(he:∀ whole,isTrue a X.env whole=(do let v <- whole;standAt a.pos;holding [v] (truthy v))):
  PT X a (fun σ H Q=>ta σ H fun x H'=>∃ k,uM X.K x H' k/\Q k H'):=by
 intro pins s σ H Q I h;exact isTrue_plain (bo (ha pins s σ H _ I h) fun v s1 ⟨x,H1,I1,r1,q1⟩=>EF pins s1 σ H1 x v Q I1 r1 q1) (he _)
theorem jc:cW X (binaryOp .Add) (fun x y H Q=>∃ i j,x=.str i/\y=.str j/\i.length+j.length<=sizeLine/\Q (.str (i++j)) H):=by
 intro pins s σ H x y v u Q I rx ry h;obtain⟨i,j,rfl,rfl,hz,q⟩:=h;obtain⟨t,rfl⟩:=rx;obtain⟨t',rfl⟩:=ry;exact add_str (fun t' tk=>⟨.str (i++j),H,I.tok _,⟨_,rfl⟩,q⟩) hz
theorem vals1{x:V}(r:Vals [x] us):∃ u,us=[u]/\RelV x u:=by
 cases r with
 |cons r1 r2=>cases r2;exact⟨_,rfl,r1⟩
theorem vals2{x y:V}(r:Vals [x,y] us):∃ u w',us=[u,w']/\RelV x u/\RelV y w':=by
 cases r with
 |cons r1 r2 =>
  cases r2 with
  |cons r3 r4=>cases r4;exact⟨_,_,rfl,r1,r3⟩
theorem uO(hc:X.calm=true):aH X (.builtin "max") (fun xs H Q=>∃ i j,xs=[.int i,.int j]/\Q (.int (if j > i then j else i)) H):=by
 intro pins s σ H xs us Q I r h;obtain⟨i,j,rfl,q⟩:=h;obtain⟨u,w',rfl,⟨t,rfl⟩,⟨t',rfl⟩⟩:=vals2 r;refine max_two_ints (I.ok.hd hc) fun h' tk k=>⟨_,H,I.kept k,?_,q⟩;by_cases hj:j > i
 ·rw[Kz hj,Kz hj];exact⟨_,rfl⟩
 ·rw[Kx hj,Kx hj];exact⟨_,rfl⟩
theorem vc(hc:X.calm=true):aH X (.builtin "min") (fun xs H Q=>∃ i j,xs=[.int i,.int j]/\Q (.int (if j<i then j else i)) H):=by
 intro pins s σ H xs us Q I r h;obtain⟨i,j,rfl,q⟩:=h;obtain⟨u,w',rfl,⟨t,rfl⟩,⟨t',rfl⟩⟩:=vals2 r;refine min_two_ints (I.ok.hd hc) fun h' tk k=>⟨_,H,I.kept k,?_,q⟩;by_cases hj:j<i
 ·rw[Kz hj,Kz hj];exact⟨_,rfl⟩
 ·rw[Kx hj,Kx hj];exact⟨_,rfl⟩
theorem kF:aH X (.type "int") (fun xs H Q=>(∃ i,xs=[.int i]/\Q (.int i) H)\/∃ k,xs=[.bl k]/\Q (.int (if k then 1 else 0)) H):=by
 intro pins s σ H xs us Q I r h;rcases h with ⟨i,rfl,q⟩|⟨k,rfl,q⟩
 ·obtain⟨u,rfl,t,rfl⟩:=vals1 r;exact call_int_int ⟨.int i,H,I,⟨_,rfl⟩,q⟩
 ·obtain⟨u,rfl,r1⟩:=vals1 r;cases r1;exact call_int_bool ⟨.int (if k then 1 else 0),H,I.tok _,⟨_,rfl⟩,q⟩
noncomputable def IE(K:Pq)(x:V)(H:Hp)(n:Nat):Prop:=
 match x with
 |.str y=>y.length<=sizeLine/\n=y.length
 |.oY y=>y.size<=sizeLine/\n=y.size
 |.ref p=>(∃ xs,bz K H p xs/\n=xs.length)\/∃ xs,aW K H p xs/\n=xs.length
 |_=>False
theorem jF:aH X (.builtin "len") (fun xs H Q=>∃ x n,xs=[x]/\IE X.K x H n/\Q (.int n) H):=by
 intro pins s σ H xs us Q I r h;obtain⟨x,n,rfl,e,q⟩:=h;obtain⟨u,rfl,rx⟩:=vals1 r;have hl:=fb;have hs:sizeLine=16777216:=LS
 cases x with
 |str y =>
  obtain⟨t,rfl⟩:=rx;obtain⟨hy,e'⟩:y.length<=sizeLine/\n=y.length:=e;subst e';exact len_str (by lia) ⟨.int _,H,I.tok _,⟨_,rfl⟩,q⟩
 |oY y =>
  obtain⟨t,rfl⟩:=rx;obtain⟨hy,e'⟩:y.size<=sizeLine/\n=y.size:=e;subst e';exact PySem.W.len_bytes (by lia) ⟨.int _,H,I.tok _,⟨_,rfl⟩,q⟩
 |ref p =>
  cases rx;have e':(∃ xs,bz X.K H p xs/\n=xs.length)\/∃ xs,aW X.K H p xs/\n=xs.length:=e;rcases e' with ⟨xs,hx,e'⟩|⟨xs,hx,e'⟩
  ·subst e';obtain⟨its,r',pl,hz⟩:=I.list hx;have hlen:=r'.length;exact Calls.call_len_list pl.isList (by simp only[Ky];lia) ⟨.int xs.length,H,I.tok _,⟨_,by simp only[Ky];rw[hlen]⟩,q⟩
  ·subst e';obtain⟨its,r',pl,hz⟩:=I.tuple hx;have hlen:=r'.length;exact len_tuple pl (by simp only[Ky];lia) ⟨.int xs.length,H,I.tok _,⟨_,by simp only[Ky];rw[hlen]⟩,q⟩
 |_=>exact (show False from e).elim
end
structure qu (h:Heap) (x dx C:Addr) (mA:Str->Option Value):Prop where
 obj:h.get? x=some (PySem.W.instObj C dx)
 ns:h.Ns1 dx mA
 ne:dx≠x
theorem t_{dx:Addr}(n:h.Ns1 dx mA):∃ od,h.get? dx=some od/\∀ name,PySem.W.lookIn name od=some (mA name):=by
 obtain⟨o,es,ep,ho,hd,hk,_,hm⟩:=n;refine⟨o,ho,fun name=>?_⟩;have e:=hm name;unfold nsFind findBy at e;rw[<- Array.find?_toList] at e;unfold PySem.W.lookIn;rw[hd];dsimp only;split
 ·rename_i y q;rw[q] at e;exact Le some e
 ·rename_i q;rw[q] at e;have a:es.toList.any (·.refKey)=false:=by
   rw[List.any_eq_false];intro y hy;obtain⟨z,t,hkey⟩:=hk y (Array.mem_toList_iff.mp hy);simp[DictEntry.refKey,hkey]
  have a':¬ es.toList.any (·.refKey)=true:=by rw[a];exact K5
  rw[Kx a'];exact Le some e
theorem qu.look{x dx:Addr}(I:qu h x dx C mA):∃ od,PySem.W.InstAt h x (PySem.W.instObj C dx) C (some od)/\∀ name,PySem.W.lookIn name od=some (mA name):=
 let ⟨od,ho,hl⟩:=t_ I.ns
 ⟨od,⟨I.obj,rfl,rfl,ho⟩,hl⟩
section
variable {prog:Program} {w:World} {A:Around} {E:Value->Shared->Prop} {s:Shared} {K:Pq} {x dx C f:Addr} {mA:Str->Option Value} {name:Str} {v:Value}
theorem get_map{expr:Bool}(X:K.In s.heap)(I:qu s.heap x dx C mA)(hg:PySem.W.plainGet K C name=true)(hh:PySem.W.hasDictIn K C=true)
  (ha:PySem.W.findIn K (.ref C) name=some none) (hv:mA name=some v) (hv':PySem.W.handedIn v=true) (h:Q v {s with toks:=s.toks+1}) :
  wpAny (model prog w) A (getAttr (.ref x) name expr) Q E s:=by
 obtain⟨od,J,hl⟩:=I.look;exact PySem.W.get_value X J (PySem.W.plainGet_of hg).1 (PySem.W.findObj_own hh ha rfl (by rw[hl,hv])) hv' h
theorem xy{Q:Value×List Value->Shared->Prop}(X:K.In s.heap)(I:qu s.heap x dx C mA)(hg:PySem.W.plainGet K C name=true)
  (hf:PySem.W.findIn K (.ref C) name=some (some (.ref f))) (ht:PySem.W.isFn K (.ref f)=true) (hv:mA name=none) (h:Q (.ref f,[.ref x]) s) :
  wpAny (model prog w) A (getMethod (.ref x) name pl) Q E s:=by
 obtain⟨od,J,hl⟩:=I.look;exact PySem.W.method_fn X J (PySem.W.plainGet_of hg).1 (PySem.W.plainGet_of hg).2 hf (NB.mp ht) (by show (PySem.W.lookIn name od).map (·.isSome)=some false;rw[hl,hv];rfl) h
theorem zP{ns:List Str}{Q:Unit->Shared->Prop}(X:K.In s.heap)(I:qu s.heap x dx C mA)
  (hs:PySem.W.findIn K (.ref C) "__setattr__"=some (some (.builtin "object.__setattr__"))) (hp:PySem.W.plainOver K C=true) (ht:PySem.W.takerIn K C name=some none) (hh:PySem.W.hasDictIn K C=true)
  (hw:PySem.Within mA ns) (hsz:ns.length<=sizeLine)
  (h:∀ h',qu h' x dx C (fun y=>if y=name then some v else mA y)->Heap.SameBut dx s.heap h'->Q () {s with heap:=h',toks:=s.toks+2}) :
  wpAny (model prog w) A (setAttr (.ref x) name v) Q E s:=by
 obtain⟨od,J,hl⟩:=I.look;refine PySem.W.set_plain X J hs (PySem.W.osa_open (s:={s with toks:=s.toks+1}) (r:=none) X J hp ht fun b=>?_)
 obtain⟨cd,hc,hd'⟩:=PySem.W.any_some hh;have hx:s.heap.get? x=some ⟨.ref C,some dx,.plain,#[]⟩:=I.obj;refine Ku (K1 (Ku (Ku (wpAny_loadPart hx (Ku (PySem.W.Looks.here (s:={s with toks:=s.toks+1}) (PySem.W.looks_clsIn X hc) ?_))))))
 rw[hd'];refine K1 (a:=some dx) (Ku (K1 (Ku ?_)));refine wpAny_nsSet1 (s:={s with toks:=s.toks+1}) I.ns fun h' hn2 hs2=>?_
 obtain⟨oD,esD,epD,hoD,hdD,hcD⟩:=hn2.count (PySem.Within.cons name v hw);refine Ku (wpAny_lookBehind hoD (by rw[hdD];exact pastItsLine_dict (KG hcD (by rw[K6];lia))) ?_)
 exact K1 (h _ ⟨(hs2.2 _ (Ne.symm I.ne)).trans I.obj,hn2,I.ne⟩ hs2)
theorem v5{R:Result->Shared->Prop}{vs:List Value}(X:K.In s.heap)(hm:PySem.W.makesIn K C=true)
  (hi:PySem.W.findIn K (.ref C) "__init__"=some (some (.ref f))) (hf:PySem.W.typeIn K (.ref f)=some (.type "function"))
  (h:codeAny (model prog w) (A.under (.builtin "type.__call__" ⟨.ref C::vs,kw⟩)) (.call (.ref f) ⟨.ref (s.heap.objs.size+1)::vs,kw⟩) (PySem.W.InitBack (s.heap.objs.size+1) R)
   {s with heap:=(s.heap.push PySem.W.emptyDict).push (PySem.W.instObj C s.heap.objs.size)}) :
  codeAny (model prog w) A (.call (.ref C) ⟨vs,kw⟩) R s:=by
 obtain⟨hh,g,d,t,os⟩:=s;exact PySem.W.make_core (PySem.W.makes_of X hm) (PySem.W.looks_findIn X hi) (fun self=>PySem.W.bind_fn X self hf) (.inl rfl) h
end
noncomputable def cZ(f:Str)(v:V):List (Str×V)->List (Str×V)
 |[]=>[(f,v)]
 | (g,x)::r=>if g=f then (g,v)::r else (g,x)::cZ f v r
theorem i3(f g:Str)(v:V):∀ fs:List (Str×V),(cZ f v fs).lookup g=if g=f then some v else fs.lookup g
 |[]=>by
  show List.lookup g [(f,v)]=_;by_cases h:g=f
  ·have hb:(g == f)=true:=NB.mpr h;simp only[List.lookup,hb,Kz h]
  ·have hb:(g == f)=false:=Lh.mpr h;simp only[List.lookup,hb,Kx h]
 | (k,x)::r=>by
  have ih:=i3 f g v r;rw[show cZ f v ((k,x)::r)=(if k=f then (k,v)::r else (k,x)::cZ f v r) from rfl]
  by_cases hk:k=f
  ·rw[Kz hk];by_cases h:g=k
   ·have hb:(g == k)=true:=NB.mpr h;simp only[List.lookup,hb,Kz (h.trans hk)]
   ·have hb:(g == k)=false:=Lh.mpr h;simp only[List.lookup,hb,Kx (fun e:g=f=>h (e.trans hk.symm))]
  ·rw[Kx hk];by_cases h:g=k
   ·have hb:(g == k)=true:=NB.mpr h;simp only[List.lookup,hb,Kx (fun e:g=f=>hk (h.symm.trans e))]
   ·have hb:(g == k)=false:=Lh.mpr h;simp only[List.lookup,hb];exact ih
theorem hU(f:Str)(v:V):∀ fs:List (Str×V),f∈(cZ f v fs).map (·.1)/\∀ g,g∈fs.map (·.1)->g∈(cZ f v fs).map (·.1)
 |[]=>⟨by simp[cZ],fun g h=>by simp at h⟩
 | (k,x)::r=>by
  obtain⟨i1,i2⟩:=hU f v r;rw[show cZ f v ((k,x)::r)=(if k=f then (k,v)::r else (k,x)::cZ f v r) from rfl]
  by_cases hk:k=f
  ·rw[Kz hk];subst hk;exact⟨by simp,fun g h=>by simpa using h⟩
  ·rw[Kx hk];refine⟨?_,fun g h=>?_⟩
   ·rw[KN];exact K9 _ i1
   ·rw[KN] at h ⊢;rcases K4.mp h with e|e
    ·exact K4.mpr (.inl e)
    ·exact K9 _ (i2 g e)
theorem iA(f:Str)(v:V):∀ fs:List (Str×V),(cZ f v fs).length<=fs.length+1
 |[]=>by simp[cZ]
 | (k,x)::r=>by
  have ih:=iA f v r;rw[show cZ f v ((k,x)::r)=(if k=f then (k,v)::r else (k,x)::cZ f v r) from rfl]
  by_cases hk:k=f
  ·rw[Kz hk,K6,K6];lia
  ·rw[Kx hk,K6,K6];lia
theorem fS.some_of{v:V}{o:Option Value}(r:fS (some v) o):∃ u,o=some u/\RelV v u:=by
 cases o with
 |none=>exact (show False from r).elim
 |some u=>exact⟨u,rfl,r⟩
theorem fS.none_of{o:Option Value}(r:fS none o):o=none:=by
 cases o with
 |none=>rfl
 |some u=>exact (show False from r).elim
theorem tP{v:V}(r:RelV v u):PySem.W.handedIn u=true:=by
 cases v with
 |aM=>cases (show u=Value.none from r);rfl
 |bl b=>cases (show u=Value.bool b from r);rfl
 |int i=>obtain⟨t,e⟩:=(show ∃ t,u=Value.int i t from r);cases e;rfl
 |str x=>obtain⟨t,e⟩:=(show ∃ t,u=Value.str x t from r);cases e;rfl
 |oY b=>obtain⟨t,e⟩:=(show ∃ t,u=Value.bytes b t from r);cases e;rfl
 |EV b=>obtain⟨t,e⟩:=(show ∃ t,u=Value.float b t from r);cases e;rfl
 |ref a=>cases (show u=Value.ref a from r);rfl
 |ty n=>cases (show u=Value.type n from r);rfl
section
variable {P:Program} {w:World} {H H':Hp} {h h':Heap} {a C dx:Addr} {fs fs':List (Str×V)}
theorem iJ(aD:gx P w H h)(e:H a=some (.ins C dx fs)):∃ mA,qu h a dx C mA/\(∀ f,fS (fs.lookup f) (mA f))/\PySem.Within mA (fs.map (·.1))/\fs.length<=1000/\H dx=some (.own a):=by
 obtain⟨d,z,ne,ob,mA,n,r,q⟩:=(show aP P w H h a (.ins C dx fs) from aD a _ e);exact⟨mA,⟨ob,n,ne⟩,r,q,z,d⟩
end
structure jU (K:Pq) (C:Addr):Prop where
 pg:PySem.W.plainGet K C Str.empty=true
 hd:PySem.W.hasDictIn K C=true
 po:PySem.W.plainOver K C=true
 sa:PySem.W.findIn K (.ref C) "__setattr__"=some (some (.builtin "object.__setattr__"))
theorem jU.get(c:jU K C)(f:Str):PySem.W.plainGet K C f=true:=c.pg
noncomputable def aY(K:Pq)(C:Addr)(f:Str):Prop:=PySem.W.findIn K (.ref C) f=some none
theorem aY.Hs{f:Str}(n:aY K C f):PySem.W.takerIn K C f=some none:=by
 unfold PySem.W.takerIn;rw[show PySem.W.findIn K (.ref C) f=some none from n];rfl
structure Meth (K:Pq) (C:Addr) (m:Str) (f:Addr):Prop where
 at_:PySem.W.findIn K (.ref C) m=some (some (.ref f))
 fn:PySem.W.isFn K (.ref f)=true
 kp:PySem.W.keepIn K (.ref f)=true
section
variable {X:Cx} {pins:List (Addr×Obj)} {σ:St} {H:Hp} {s:Shared} {a C dx:Addr} {fs:List (Str×V)} {f:Str} {v:V} {A:Around} {E:Value->Shared->Prop}
theorem pW{b:Bool}(I:Inv X pins σ H s)(e:H a=some (.ins C dx fs))(c:jU X.K C)(n:aY X.K C f)(l:fs.lookup f=some v)
  (h:∀ u s',Inv X pins σ H s'->RelV v u->Q u s'):wpAny (model X.prog X.w) A (getAttr (.ref a) f b) Q E s:=by
 obtain⟨mA,O,r,_,_,_⟩:=iJ I.aD e;obtain⟨u,hu,ru⟩:=fS.some_of (v:=v) (o:=mA f) (by rw[<- l];exact r f)
 exact get_map I.gX O (c.get f) c.hd n hu (tP ru) (h u _ (I.tok _) ru)
theorem jM{m:Str}{g:Addr}{Q:Value×List Value->Shared->Prop}(I:Inv X pins σ H s)(e:H a=some (.ins C dx fs))(c:jU X.K C)(k:Meth X.K C m g)(l:fs.lookup m=none)
  (h:Q (.ref g,[.ref a]) s):wpAny (model X.prog X.w) A (getMethod (.ref a) m pl) Q E s:=by
 obtain⟨mA,O,r,_,_,_⟩:=iJ I.aD e;have hn:mA m=none:=fS.none_of (by rw[<- l];exact r m)
 exact xy I.gX O (c.get m) k.at_ k.fn hn h
theorem pV{y:V}{Q:Unit->Shared->Prop}(I:Inv X pins σ H s)(e:H a=some (.ins C dx fs))(c:jU X.K C)(n:aY X.K C f)(hl:fs.length<1000)(ry:RelV y u)
  (h:∀ s',Inv X pins σ (upd H a (.ins C dx (cZ f y fs))) s'->Q () s'):wpAny (model X.prog X.w) A (setAttr (.ref a) f u) Q E s:=by
 obtain⟨mA,O,r,wi,_,ho⟩:=iJ I.aD e;have hz:(fs.map (·.1)).length<=sizeLine:=by rw[K3,LS];lia
 refine zP I.gX O c.sa c.po n.Hs c.hd wi hz fun h' O' sb=>h _ ?_;have hd:∃ o,h'.get? dx=some o:=let ⟨o,_,_,e',_⟩:=O'.ns;⟨o,e'⟩
 refine I.write (x:=a) (e:=dx) (by rw[e];exact True.intro) (.inr ho) (fun b q hb z=>(sb.2 b hb).trans z) hd ?_
 refine⟨by rw[ab O.ne];exact ho,?_,O.ne,O'.obj,_,O'.ns,fun g=>?_,fun g hg=>?_⟩
 ·have:=iA f y fs;lia
 ·show fS ((cZ f y fs).lookup g) (if g=f then some u else mA g)
  rw[i3];by_cases q:g=f
  ·rw[Kz q,Kz q];exact ry
  ·rw[Kx q,Kx q];exact r g
 ·by_cases q:g=f
  ·rw[q];exact (hU f y fs).1
  ·refine (hU f y fs).2 g (wi g fun z=>hg ?_);show (if g=f then some u else mA g)=none
   rw[Kx q];exact z
theorem Inv.made(I:Inv X pins σ H s):Inv X pins σ (upd (upd H s.heap.objs.size (.own (s.heap.objs.size+1))) (s.heap.objs.size+1) (.ins C s.heap.objs.size []))
  {s with heap:=(s.heap.push PySem.W.emptyDict).push (PySem.W.instObj C s.heap.objs.size)}:=by
 have e1:(s.heap.push PySem.W.emptyDict).get? s.heap.objs.size=some PySem.W.emptyDict:=K7 s.heap rfl;have e2:((s.heap.push PySem.W.emptyDict).push (PySem.W.instObj C s.heap.objs.size)).get? (s.heap.objs.size+1)=some (PySem.W.instObj C s.heap.objs.size):=by
  have:=K7 (s.heap.push PySem.W.emptyDict) (o:=PySem.W.instObj C s.heap.objs.size) rfl
  rwa [L3] at this
 have e3:(s.heap.push PySem.W.emptyDict).Ns s.heap.objs.size (fun _=>none):=⟨PySem.W.emptyDict,#[],_,e1,rfl,(fun e he=>absurd he (by simp)),fun _=>rfl⟩
 have I1:=I.laid (a:=s.heap.objs.size) (o:=.own (s.heap.objs.size+1)) (h':=s.heap.push PySem.W.emptyDict) (t':=s.toks) (fun b u q=>Kv _ q) (K2 _) ⟨_,e1⟩;refine I1.laid (a:=s.heap.objs.size+1) (o:=.ins C s.heap.objs.size []) (t':=s.toks) (fun b u q=>Kv _ q) (Ov (L3 _ _)) ?_;have ne:s.heap.objs.size≠s.heap.objs.size+1:=KJ (M6 _);refine⟨by rw[ab ne,ae],KY _,ne,e2,fun _=>none,(Heap.Ns1.of_empty e3).at fun o q=>Kv _ q,fun _=>True.intro,fun y hy=>absurd rfl hy⟩
theorem B6{prog:Program}{env:Env}{f:Str}(hb:attributeBase e f env (eval e env)=eval e env)
  (h:wpAny (model prog w) A (eval e env) (fun o s₁=>wpAny (model prog w) A (getAttr o f true) Q E s₁) E s):wpAny (model prog w) A (eval (.Attribute e f pos) env) Q E s:=
 Attribute_any_ h (by rw[arm_eval_Attribute,hb])
end
noncomputable def we(K:Pq)(ta:TE)(f:Str):TE:=fun σ H Q=>ta σ H fun x H1=>∃ a C dx fs v,x=.ref a/\H1 a=some (.ins C dx fs)/\jU K C/\aY K C f/\fs.lookup f=some v/\Q v H1
noncomputable def vD(K:Pq)(ta tv:TE)(f:Str):TS:=fun D σ H=>tv σ H fun y H1=>ta σ H1 fun x H2=>∃ a C dx fs,x=.ref a/\H2 a=some (.ins C dx fs)/\jU K C/\aY K C f/\fs.length<1000 /\
 D.nx σ (upd H2 a (.ins C dx (cZ f y fs)))
section
variable {X:Cx} {o e value:Expr} {f:Str} {pos pos' tpos:Pos} {ta tv:TE}
theorem EE(he:PE X e ta)(hb:attributeBase e f X.env (eval e X.env)=eval e X.env):PE X (.Attribute e f pos) (we X.K ta f):=by
 intro pins s σ H Q I h;refine B6 hb (bo (he pins s σ H _ I h) fun u s1 ⟨x,H1,I1,rx,a,C,dx,fs,v,ex,ea,c,n,l,q⟩=>?_);subst ex;obtain rfl:u=Value.ref a:=rx;exact pW I1 ea c n l fun u' s2 I2 ru=>⟨v,H1,I2,ru,q⟩
theorem E6(ha:PE X o ta)(hv:PE X value tv)(hs:swapsWith value (some (.Attribute o f pos')) pos.line X.env=pure false):PS X (.Assign [.Attribute o f pos'] value pos) (vD X.K ta tv f):=by
 intro pins s σ H D I h;refine plainObj_wpAny_Assign_Attribute (bo (hv pins s σ H _ I h) fun u s1 ⟨y,H1,I1,ry,q⟩=>bo (ha pins s1 σ H1 _ I1 q) fun ov s2 ⟨x,H2,I2,rx,a,C,dx,fs,ex,ea,c,n,l,q2⟩=>?_) hs;subst ex;obtain rfl:ov=Value.ref a:=rx;exact pV I2 ea c n l ry fun s3 I3=>⟨σ,_,I3,q2⟩
end
section
variable {X:Cx} {pins:List (Addr×Obj)} {σ:St} {H:Hp} {s:Shared} {A:Around} {E:Value->Shared->Prop} {Q:Value->Shared->Prop} {c:Value} {b:Bool}
inductive gQ (K:Pq) (H:Hp):V->Value->Prop where
 |aM:gQ K H .aM (.type "NoneType")
 |bl (x:Bool):gQ K H (.bl x) (.type "bool")
 |int (i:Int):gQ K H (.int i) (.type "int")
 |str (x:Str):gQ K H (.str x) (.type "str")
 |EV (x:UInt64):gQ K H (.EV x) (.type "float")
 |lst {a:Addr} {xs:List V} (e:H a=some (.lst xs)):gQ K H (.ref a) (.type "list")
 |ib {a:Addr} {o:Obj} {xs:List V} (e:H a=some (.ib o (.lst xs))):gQ K H (.ref a) (.type "list")
 |tup {a:Addr} {xs:List V} (e:H a=some (.tup xs)):gQ K H (.ref a) (.type "tuple")
 |dK {a:Addr} {kvs:List (Key×V)} (e:H a=some (.dK kvs)):gQ K H (.ref a) (.type "dict")
 |dT {a:Addr} {kvs:List (List Key×V)} (e:H a=some (.dT kvs)):gQ K H (.ref a) (.type "dict")
 |ins {a C dx:Addr} {fs:List (Str×V)} (e:H a=some (.ins C dx fs)) (cl:jU K C) (ha:PySem.W.findIn K (.ref C) "__class__"=some (some (.builtin "object.__class__")))
   (hn:PySem.W.specialIn K (.builtin "object.__class__") "__get__"=some (some (.builtin "getset_descriptor.__get__"))) (htk:PySem.W.takesIn K (.builtin "object.__class__")=some true)
   (hm:PySem.W.mroIn K C (.type "object")=some true):gQ K H (.ref a) (.ref C)
theorem kX{x:V}{t:Value}(I:Inv X pins σ H s)(rx:RelV x u)(ty:gQ X.K H x t)(e:PySem.W.kitOne X.K t c=some b)(h:∀ tk,Q (.bool b) {s with toks:=tk}):
  wpAny (model X.prog X.w) A (call (.builtin "isinstance") [u,c]) Q E s:=by
 cases ty with
 |aM=>cases (show u=Value.none from rx);exact PySem.W.kia_one PySem.W.kitx_none I.gX True.intro e (fun z=>nomatch z) h
 |bl y=>cases (show u=Value.bool y from rx);exact PySem.W.kia_one PySem.W.kitx_bool I.gX True.intro e (fun z=>nomatch z) h
 |int i=>obtain⟨t,q⟩:=(show ∃ t,u=Value.int i t from rx);cases q;exact PySem.W.kia_one PySem.W.kitx_int I.gX True.intro e (fun z=>nomatch z) h
 |str y=>obtain⟨t,q⟩:=(show ∃ t,u=Value.str y t from rx);cases q;exact PySem.W.kia_one PySem.W.kitx_str I.gX True.intro e (fun z=>nomatch z) h
 |EV y=>obtain⟨t,q⟩:=(show ∃ t,u=Value.float y t from rx);cases q;exact PySem.W.kia_one PySem.W.kitx_float I.gX True.intro e (fun z=>nomatch z) h
 |@lst a xs ea =>
  cases (show u=Value.ref a from rx)
  obtain⟨_,_,n,_,h1⟩:=(show aP X.prog X.w H s.heap a (.lst xs) from I.aD a _ ea);exact PySem.W.kia_one PySem.W.kitx_list I.gX ⟨_,h1,rfl⟩ e (fun z=>nomatch z) h
 |@ib a ob xs ea =>
  cases (show u=Value.ref a from rx)
  obtain⟨_,_,_,n,_,h1⟩:=(show aP X.prog X.w H s.heap a (.ib ob (.lst xs)) from I.aD a _ ea);exact PySem.W.kia_one PySem.W.kitx_list I.gX ⟨_,h1,rfl⟩ e (fun z=>nomatch z) h
 |@tup a xs ea =>
  cases (show u=Value.ref a from rx)
  obtain⟨_,_,_,p⟩:=(show aP X.prog X.w H s.heap a (.tup xs) from I.aD a _ ea);obtain⟨o,h1,h2,_⟩:=p;exact PySem.W.kia_one PySem.W.kitx_tuple I.gX ⟨o,h1,h2⟩ e (fun z=>nomatch z) h
 |@dK a kvs ea =>
  cases (show u=Value.ref a from rx)
  obtain⟨_,_,vs,_,p⟩:=(show aP X.prog X.w H s.heap a (.dK kvs) from I.aD a _ ea);obtain⟨o,es,ep,h1,h2,_⟩:=p;exact PySem.W.kia_one PySem.W.kitx_dict I.gX ⟨o,h1,h2.1⟩ e (fun z=>nomatch z) h
 |@dT a kvs ea =>
  cases (show u=Value.ref a from rx)
  obtain⟨_,_,xs,_,o,es,ep,h1,h2,_⟩:=(show aP X.prog X.w H s.heap a (.dT kvs) from I.aD a _ ea);exact PySem.W.kia_one PySem.W.kitx_dict I.gX ⟨o,h1,h2.1⟩ e (fun z=>nomatch z) h
 |@ins a C dx fs ea cl ha hn htk hm =>
  cases (show u=Value.ref a from rx)
  obtain⟨mA,O,_⟩:=iJ I.aD ea;obtain⟨od,J,_⟩:=O.look;exact PySem.W.kia_one (PySem.W.kitx_own (cl.get _) cl.hd ha hn htk hm) I.gX J e (fun z=>nomatch z) h
end
structure ba (k:Nat) (A:Around):Prop where
 hd:A.handled=none
 dp:A.depth+3*k+5<recursionLimit
 un:A.units+16*k+200<cLine
 gd:A.guards=some []
theorem ba.mono{A:Around}(r:ba k A)(h:j<=k):ba j A:=⟨r.hd,by have:=r.dp;lia,by have:=r.un;lia,r.gd⟩
theorem ba.deeper{A:Around}(r:ba (k+1) A)(env:Env):ba k (A.deeper env):=
 ⟨r.hd,by have:=r.dp;show A.depth+1+3*k+5<_;lia,by have:=r.un;show A.units+3+16*k+200<_;lia,r.gd⟩
theorem ba.in1{A:Around}(r:ba (k+1) A):ba k A.in1:=
 ⟨r.hd,by have:=r.dp;show A.depth+3*k+5<_;lia,by have:=r.un;show A.units+1+16*k+200<_;lia,r.gd⟩
theorem pZ{A:Around}:(A.under (.builtin "type.__call__" ⟨.ref C::us,kw⟩)).depth=A.depth+1:=by
 first|rfl|simp[Around.under,Code.weight,Code.isCreation,Code.isGuard,Code.isCaller,Code.frames,Code.isFrame,guardIds]
theorem pR{A:Around}:(A.under (.builtin "type.__call__" ⟨.ref C::us,kw⟩)).units=A.units+1:=by
 first|rfl|simp[Around.under,Code.cUnits,Code.frames,Code.isFrame]
theorem ba.make{A:Around}(r:ba (k+1) A)(C:Addr)(us:List Value)(kw:List (Str×Value)):ba k (A.under (.builtin "type.__call__" ⟨.ref C::us,kw⟩)):=
 ⟨r.hd,by have:=r.dp;rw[pZ];lia,by have:=r.un;rw[pR];lia,by have h:=r.gd;first|exact h | (simp[Around.under,Code.guards,Code.isGuard,guardIds];exact h)⟩
theorem ba.depth{A:Around}(r:ba k A):A.depth<recursionLimit:=by have:=r.dp;lia
theorem ba.units{A:Around}(r:ba k A):A.units+64<cLine:=by have:=r.un;lia
noncomputable def iX:TA:=fun _ H Q=>Q [] H
noncomputable def fY(ta:TE)(tr:TA):TA:=fun σ H Q=>ta σ H fun x H1=>tr σ H1 fun xs H2=>Q (x::xs) H2
section
variable {X:Cx} {e:Expr} {es:List Expr} {te:TE} {t:TA} {pos:Pos}
theorem vK:PA X [] iX:=fun _ _ _ _ H Q I h=>Calls.spliced_nil ⟨[],H,I,.nil,h⟩
theorem sy(ha:PE X e te)(hr:PA X es t)(hs:autoParam (starEach (e::es) X.env=(false,eval e X.env)::starEach es X.env) ℜ0):PA X (e::es) (fY te t):=by
 intro pos pins s σ H Q I h;rw[hs];show wpAny _ _ (spliced ((false,eval e X.env)::backTo pos (starEach es X.env))) _ _ s;refine Calls.spliced_cons (bo (ha pins s σ H _ I h) fun u s1 ⟨x,H1,I1,r1,q1⟩=>?_);exact bo (hr pos pins s1 σ H1 _ I1 q1) fun us s2 ⟨xs,H2,I2,r2,q2⟩=>⟨x::xs,H2,I2,.cons r1 r2,q2⟩
noncomputable def zg(t:TA):TE:=fun σ H Q=>t σ H fun xs H1=>xs.length<=sizeLine/\∀ p,H1 p=none->Q (.ref p) (upd H1 p (.tup xs))
noncomputable def wy(t:TA):TE:=fun σ H Q=>t σ H fun xs H1=>xs.length<=sizeLine/\∀ p,H1 p=none->Q (.ref p) (upd H1 p (.lst xs))
theorem CN{x1}(h:PA X es t):PE X (.Tuple es x1 pos) (zg t):=by
 intro pins s σ H Q I hq;refine wpAny_Tuple_spliced (bo (h pos pins s σ H _ I hq) fun us s1 ⟨xs,H1,I1,r,z,q⟩=>⟨by rw[<- r.length];exact z,?_⟩)
 have hf:H1 s1.heap.objs.size=none:=I1.aD.fresh (K2 _);refine⟨.ref s1.heap.objs.size,upd H1 s1.heap.objs.size (.tup xs),I1.laid (t':=s1.toks) (fun b u e=>Kv _ e) (K2 _) ?_,rfl,q _ hf⟩;exact⟨z,us,r,⟨_,K7 _ rfl,rfl,_,rfl,rfl⟩⟩
theorem DJ(h:PA X es t):PE X (.List es pos) (wy t):=by
 intro pins s σ H Q I hq;refine wpAny_List_spliced (bo (h pos pins s σ H _ I hq) fun us s1 ⟨xs,H1,I1,r,z,q⟩=>⟨by rw[<- r.length];exact z,?_⟩)
 have hf:H1 s1.heap.objs.size=none:=I1.aD.fresh (K2 _);refine⟨.ref s1.heap.objs.size,upd H1 s1.heap.objs.size (.lst xs),I1.laid (t':=s1.toks) (fun b u e=>Kv _ e) (K2 _) ?_,rfl,q _ hf⟩;exact⟨z,us,0,r,K7 _ rfl⟩
end
abbrev Sp:=List V->Hp->VK->XK->Prop
variable{sp:Sp}
abbrev m_:=List Env->Hp->Shared->XK->Value->Shared->Prop
variable{CX:m_}
structure qU (P:Program) (w:World) (K:Pq) (mg:Str->Option Value) (base:Heap) (A:Around) (outer:List Env) (s:Shared) (H:Hp):Prop where
 frames:A.frames=some outer
 mod:Mod K mg base
 bs:∀ b o,base.get? b=some o->s.heap.get? b=some o/\H b=none
 zy:base.objs.size<=s.heap.objs.size
 iI:s.heap.FunFrames base outer
 Ew:∀ b∈y9 outer,H b=none
 aD:gx P w H s.heap
 bare:AllBare s.gens
 tabs:TabsOk K H
noncomputable def CE(outer:List Env)(P:Program)(w:World)(H:Hp)(s:Shared)(Q:VK)(u:Value)(s':Shared):Prop:=
 ∃ v H',s'.os=s.os/\AllBare s'.gens/\Un (y9 outer) [] H H' s.heap s'.heap/\gx P w H' s'.heap/\RelV v u/\Q v H'
noncomputable def CR(CX:m_)(outer:List Env)(P:Program)(w:World)(H:Hp)(s:Shared)(Q:VK)(E:XK)(r:Result)(s':Shared):Prop:=
 match r with
 |.ok (.ret u)=>CE outer P w H s Q u s'
 |.ok _=>False
 |.error e=>CX outer H s E e s'
structure bD (P:Program) (w:World) (K:Pq) (mg:Str->Option Value) (base:Heap) (CX:m_) (k:Nat) (f:Addr) (fd:FuncData) (ps:List Str) (sp:Sp):Prop where
 len:∀ vs H Q E,sp vs H Q E->vs.length=ps.length
 run:∀(A:Around) (outer:List Env) (s:Shared) (H:Hp) (args:Args) (us:List Value) (vs:List V) (Q:VK) (E:XK),ba k A->qU P w K mg base A outer s H->BindsTo s fd args (ps.zip us)->Vals vs us->sp vs H Q E ->
  codeAny (model P w) A (.call (.ref f) args) (CR CX outer P w H s Q E) s
theorem bD.mono{f:Addr}{ps:List Str}(F:bD P w K mg base CX j f fd ps sp)(h:j<=k):
  bD P w K mg base CX k f fd ps sp:=⟨F.len,fun A outer s H args us vs Q E hr=>F.run A outer s H args us vs Q E (hr.mono h)⟩
theorem bD.imp{f:Addr}{ps:List Str}{sp':Sp}(F:bD P w K mg base CX k f fd ps sp)
  (h:∀ vs H Q E,sp' vs H Q E->sp vs H Q E):bD P w K mg base CX k f fd ps sp':=
 ⟨fun vs H Q E q=>F.len vs H Q E (h _ _ _ _ q),fun A outer s H args us vs Q E hr he hb hv hs=>F.run A outer s H args us vs Q E hr he hb hv (h _ _ _ _ hs)⟩
theorem qU.make{A:Around}(e:qU P w K mg base A outer s H)(C:Addr)(us:List Value)(kw:List (Str×Value)):
  qU P w K mg base (A.under (.builtin "type.__call__" ⟨.ref C::us,kw⟩)) outer s H:=⟨by first|exact e.frames | (simpa[Around.under,Code.envs,Code.isFrame,pushEnvs] using e.frames),e.mod,e.bs,e.zy,e.iI,e.Ew,e.aD,e.bare,e.tabs⟩
section
variable {X:Cx} {pins:List (Addr×Obj)} {σ:St} {H:Hp} {s s':Shared}
theorem Inv.GP(I:Inv X pins σ H s):qU X.prog X.w X.K X.mg X.base X.A X.stack s H:=
 ⟨I.ok.frames,I.ok.mod,I.bs,KG I.ok.zy I.sz,I.stack,I.lT,I.aD,I.bare,I.ok.tabs.un I.base⟩
theorem Inv.after{Q:VK}(I:Inv X pins σ H s)(h:CE X.stack X.prog X.w H s Q u s'):EP X pins σ Q u s':=by
 obtain⟨v,H',os,bare,un,aD,r,q⟩:=h;obtain⟨hh,g,d,t,os'⟩:=s';obtain rfl:os'=s.os:=os;exact⟨v,H',I.call (h':=hh) (g':=g) (d':=d) (t':=t) (ch:=[]) un aD bare (fun b z=>absurd z (by simp)),r,q⟩
end
noncomputable def j1(sp:Sp)(dvs:List V)(E:XK)(t:TA):TE:=fun σ H Q=>t σ H fun vs H1=>sp (vs++dvs) H1 Q E
noncomputable def j7(C:Addr)(m:Str)(sp:Sp)(dvs:List V)(E:XK)(ta:TE)(t:TA):TE:=fun σ H Q=>ta σ H fun x H1=>∃ a dx fs,x=.ref a/\H1 a=some (.ins C dx fs)/\fs.lookup m=none /\
 t σ H1 fun vs H2=>sp (x::(vs++dvs)) H2 Q E
noncomputable def oz(C:Addr)(sp:Sp)(dvs:List V)(E:XK)(t:TA):TE:=fun σ H Q=>t σ H fun vs H1=>∀ x dx,H1 x=none->H1 dx=none->dx≠x ->
 sp (.ref x::(vs++dvs)) (upd (upd H1 dx (.own x)) x (.ins C dx [])) (fun v H2=>v=.aM/\Q (.ref x) H2) E
noncomputable def Binds(K:Pq)(fd:FuncData)(ps:List Str)(ds:List Value):Prop:=
 ∀(s:Shared) (us:List Value),K.In s.heap->(us++ds).length=ps.length->BindsTo s fd ⟨us,[]⟩ (ps.zip (us++ds))
theorem Binds.all{ps:List Str}(h:∀ us:List Value,us.length=ps.length->bindArgs fd ⟨us,[]⟩=pure (ps.zip us)):Binds K fd ps []:=fun s us _ hl=>by
 rw[Lj] at hl ⊢;exact .of_eq (h us hl)
noncomputable def Passes(CX:m_)(X:Cx)(E:XK):Prop:=∀(pins:List (Addr×Obj)) (σ:St) (H:Hp) (s:Shared) (e:Value) (s':Shared),Inv X pins σ H s->CX X.stack H s E e s'->X.xe e s'
section
variable {X:Cx} {CX:m_} {k:Nat} {f C:Addr} {fd:FuncData} {ps:List Str} {sp:Sp} {dvs:List V} {ds:List Value} {E:XK} {x m:Str} {p pos apos:Pos} {e o:Expr} {es:List Expr} {ta:TE} {t:TA}
theorem p6{Q:VK}{vs:List V}(F:bD X.prog X.w X.K X.mg X.base CX k f fd ps sp)(hr:ba k X.A)(hb:Binds X.K fd ps ds)(hd:Vals dvs ds)(hx:Passes CX X E)
  (I:Inv X pins σ H s) (r:Vals vs us) (h:sp (vs++dvs) H Q E):wpAny (model X.prog X.w) X.A (call (.ref f) us) (EP X pins σ Q) X.xe s:=by
 have r2:Vals (vs++dvs) (us++ds):=r.append hd;have hl:(us++ds).length=ps.length:=by rw[<- r2.length];exact F.len _ _ _ _ h
 refine wpAny_call (Pd (F.run X.A X.stack s H ⟨us,[]⟩ (us++ds) (vs++dvs) Q E hr I.GP (hb s us I.gX hl) r2 h) fun r s' hq=>?_)
 cases r with
 |error e=>exact hx pins σ H s e s' I hq
 |ok fl =>
  cases fl with
  |ret u=>exact I.after hq
  |next=>exact False.elim hq
  |brk=>exact False.elim hq
  |cont=>exact False.elim hq
theorem AO(F:bD X.prog X.w X.K X.mg X.base CX k f fd ps sp)(hr:ba k X.A)(hg:Gl X x)(hm:X.mg x=some (.ref f))(hk:PySem.W.keepIn X.K (.ref f)=true)(hb:Binds X.K fd ps ds)(hd:Vals dvs ds)(hx:Passes CX X E)
  (ha:PA X (e::es) t) (hdb:autoParam ((x ==("__debug__":Str))=false) ℜ1) (he:autoParam (starEach (e::es) X.env=(false,eval e X.env)::starEach es X.env) ℜ0) (hpl:autoParam ((backTo pos (starEach es X.env)).any (·.1)=false) ℜ0) :
  PE X (.Call (.Name x p) (e::es) [] pos) (j1 sp dvs E t):=by
 intro pins s σ H Q I h;refine Mp (lB I hg hm ?_ hdb);refine PySem.W.callWith_K (h₀:=X.base) I.ok.mod.GD hk (bo (ha pos pins s σ H _ I h) fun us s1 ⟨vs,H1,I1,r,q⟩=>⟨I1.gX,?_⟩) he hpl;exact p6 F hr hb hd hx I1 r q
theorem Bn{pl:Sem Bool}(he:PE X o ta)(c:jU X.K C)(hm:Meth X.K C m f)(F:bD X.prog X.w X.K X.mg X.base CX k f fd ps sp)(hr:ba k X.A)(hb:Binds X.K fd ps ds)(hd:Vals dvs ds)(hx:Passes CX X E)(ha:PA X (e::es) t)
  (hst:autoParam (starEach (e::es) X.env=(false,eval e X.env)::starEach es X.env) ℜ0) (hpl:autoParam ((backTo pos (starEach es X.env)).any (·.1)=false) ℜ0)
  (ht:autoParam (eval (.Call (.Attribute o m apos) (e::es) [] pos) X.env=(do
   let ov <- eval o X.env
   standAt apos.atName
   let (f,first) <- holding [ov] (getMethod ov m pl)
   callWith pos f first (backTo pos (starEach (e::es) X.env)) (backToKw pos (keywordEach [] X.env)))) ℜ0) :
  PE X (.Call (.Attribute o m apos) (e::es) [] pos) (j7 C m sp dvs E ta t):=by
 intro pins s σ H Q I h;refine PySem.W.methodCall_KW (pl:=pl) (bo (he pins s σ H _ I h) fun u s1 ⟨x,H1,I1,rx,a,dx,fs,ex,ea,l,q⟩=>?_) ht;subst ex;obtain rfl:u=Value.ref a:=rx;refine jM I1 ea c hm l ?_;refine PySem.W.callWith_K (first:=[.ref a]) (h₀:=X.base) I.ok.mod.GD hm.kp (bo (ha pos pins s1 σ H1 _ I1 q) fun us s2 ⟨vs,H2,I2,r,q2⟩=>⟨I2.gX,?_⟩) hst hpl
 exact p6 (us:=.ref a::us) (vs:=.ref a::vs) F hr hb hd hx I2 (.cons rfl r) q2
theorem xJ{pl:Sem Bool}(he:PE X o ta)(c:jU X.K C)(hm:Meth X.K C m f)(F:bD X.prog X.w X.K X.mg X.base CX k f fd ps sp)(hr:ba k X.A)(hb:Binds X.K fd ps ds)(hd:Vals dvs ds)(hx:Passes CX X E)
  (ht:autoParam (eval (.Call (.Attribute o m apos) [] [] pos) X.env=(do
   let ov <- eval o X.env
   standAt apos.atName
   let (f,first) <- holding [ov] (getMethod ov m pl)
   callWith pos f first (backTo pos (starEach [] X.env)) (backToKw pos (keywordEach [] X.env)))) ℜ0) :
  PE X (.Call (.Attribute o m apos) [] [] pos) (j7 C m sp dvs E ta iX):=by
 intro pins s σ H Q I h;refine PySem.W.methodCall_KW (pl:=pl) (bo (he pins s σ H _ I h) fun u s1 ⟨x,H1,I1,rx,a,dx,fs,ex,ea,l,q⟩=>?_) ht;subst ex;obtain rfl:u=Value.ref a:=rx;refine jM I1 ea c hm l ?_;exact PySem.W.callWith_K0 (first:=[.ref a]) I1.gX hm.kp (p6 (us:=[.ref a]) (vs:=[.ref a]) F hr hb hd hx I1 (.cons rfl .nil) q)
structure Mk (K:Pq) (C f:Addr):Prop where
 makes:PySem.W.makesIn K C=true
 init:PySem.W.findIn K (.ref C) "__init__"=some (some (.ref f))
 fn:PySem.W.isFn K (.ref f)=true
 kp:PySem.W.keepIn K (.ref C)=true
theorem xp{Q:VK}{vs:List V}(M:Mk X.K C f)(F:bD X.prog X.w X.K X.mg X.base CX k f fd ps sp)(hr:ba (k+1) X.A)(hb:Binds X.K fd ps ds)(hd:Vals dvs ds)
  (hx:Passes CX X E) (I:Inv X pins σ H s) (r:Vals vs us)
  (h:∀ x dx,H x=none->H dx=none->dx≠x->sp (.ref x::(vs++dvs)) (upd (upd H dx (.own x)) x (.ins C dx [])) (fun v H2=>v=.aM/\Q (.ref x) H2) E) :
  wpAny (model X.prog X.w) X.A (call (.ref C) us) (EP X pins σ Q) X.xe s:=by
 have hq:=h (s.heap.objs.size+1) s.heap.objs.size (I.aD.fresh (Ly _)) (I.aD.fresh (K2 _)) (KJ (M6 _));have I2:=Inv.made (C:=C) I;have r2:Vals (V.ref (s.heap.objs.size+1)::(vs++dvs)) (Value.ref (s.heap.objs.size+1)::(us++ds)):=.cons rfl (r.append hd);have hl:(Value.ref (s.heap.objs.size+1)::us++ds).length=ps.length:=by
  have e:=r2.length;rw[F.len _ _ _ _ hq] at e;exact e.symm
 refine wpAny_call (v5 (f:=f) I.gX M.makes M.init (NB.mp M.fn) (Pd (F.run _ X.stack _ _ ⟨Value.ref (s.heap.objs.size+1)::us,[]⟩ (Value.ref (s.heap.objs.size+1)::(us++ds)) _ _ E (hr.make C us [])
  (I2.GP.make C us []) (hb _ (Value.ref (s.heap.objs.size+1)::us) I2.gX hl) r2 hq) fun r s' hq'=>?_))
 cases r with
 |error e=>exact hx pins σ _ _ e s' I2 hq'
 |ok fl =>
  cases fl with
  |ret u =>
   obtain⟨v,H',I3,rv,ev,q3⟩:=I2.after hq';subst ev;exact⟨rv,⟨V.ref (s.heap.objs.size+1),H',I3,rfl,q3⟩⟩
  |next=>exact False.elim hq'
  |brk=>exact False.elim hq'
  |cont=>exact False.elim hq'
theorem Al(M:Mk X.K C f)(F:bD X.prog X.w X.K X.mg X.base CX k f fd ps sp)(hr:ba (k+1) X.A)(hg:Gl X x)(hm:X.mg x=some (.ref C))(hb:Binds X.K fd ps ds)(hd:Vals dvs ds)(hx:Passes CX X E)
  (ha:PA X (e::es) t) (hdb:autoParam ((x ==("__debug__":Str))=false) ℜ1) (he:autoParam (starEach (e::es) X.env=(false,eval e X.env)::starEach es X.env) ℜ0) (hpl:autoParam ((backTo pos (starEach es X.env)).any (·.1)=false) ℜ0) :
  PE X (.Call (.Name x p) (e::es) [] pos) (oz C sp dvs E t):=by
 intro pins s σ H Q I h;refine Mp (lB I hg hm ?_ hdb);refine PySem.W.callWith_K (h₀:=X.base) I.ok.mod.GD M.kp (bo (ha pos pins s σ H _ I h) fun us s1 ⟨vs,H1,I1,r,q⟩=>⟨I1.gX,?_⟩) he hpl;exact xp M F hr hb hd hx I1 r q
end
noncomputable def PK(X:Cx)(kws:List Keyword)(t:TA):Prop:=
 ∀(pos:Pos) (pins:List (Addr×Obj)) (s:Shared) (σ:St) (H:Hp) (Q:List V->Hp->Prop),Inv X pins σ H s->t σ H Q->wpAny (model X.prog X.w) X.A (evalAll ((backToKw pos (keywordEach kws X.env)).map (·.2))) (AP X pins σ Q) X.xe s
section
variable {X:Cx} {CX:m_} {k:Nat} {f C:Addr} {fd:FuncData} {ps ks:List Str} {sp:Sp} {E:XK} {x m:Str} {p pos apos kpos:Pos} {e o:Expr} {es:List Expr} {kws:List Keyword} {te ta:TE} {t tk:TA} {nm:Option Str}
theorem vx:PK X [] iX:=fun _ _ _ _ H Q I h=>wpAny_evalAll_nil ⟨[],H,I,.nil,h⟩
theorem rK(ha:PE X e te)(hr:PK X kws t):PK X (⟨nm,e,kpos⟩::kws) (fY te t):=by
 intro pos pins s σ H Q I h;show wpAny _ _ (evalAll ((do let v <- eval e X.env;standAt pos;pure v)::(backToKw pos (keywordEach kws X.env)).map (·.2))) _ _ s
 refine wpAny_evalAll_cons (Ku (bo (ha pins s σ H _ I h) fun u s1 ⟨x,H1,I1,r1,q1⟩=>Ku (Nt (K1 ?_))));exact bo (hr pos pins s1 σ H1 _ I1 q1) fun us s2 ⟨xs,H2,I2,r2,q2⟩=>⟨x::xs,H2,I2,.cons r1 r2,q2⟩
variable {g:List Value->List Value->List Value} {gV:List V->List V->List V}
end
structure ar (N P:List Str) (sc:Scope):Prop where
 kind:sc.kind=.function
 co:sc.isCoroutine=false
 gen:sc.isGenerator=false
 nd:N.Nodup
 pre:N.take P.length=P
 par:∀ x∈P,sc.names.lookup x=some .local\/sc.names.lookup x=some .cell
 DC:∀ y∈sc.names,y.2≠.free
theorem kx:∀{binds:List (Str×Value)} {m:Str->Option Value},(∀ v,(x,v)∉binds)->bindL kindOf binds m x=m x
 |[],_,_=>rfl
 | (n,v)::r,m,h=>by
  unfold bindL;rw[kx fun w hw=>h w (K9 _ hw)];split
  ·have:x≠n:=by rintro rfl;exact h v KD
   simp[this]
  ·rfl
theorem ko:∀{binds:List (Str×Value)} {m:Str->Option Value},(∀ v,(x,v)∉binds)->bindC kindOf binds m x=m x
 |[],_,_=>rfl
 | (n,v)::r,m,h=>by
  unfold bindC;rw[ko fun w hw=>h w (K9 _ hw)];split
  ·rfl
  ·have:x≠n:=by rintro rfl;exact h v KD
   simp[this]
theorem kZ{v:Value}:∀{P:List Str} {vs:List Value} {i:Nat} {m:Str->Option Value},P.Nodup->P[i]?=some x->vs[i]?=some v->kindOf x=some .local ->
  bindL kindOf (P.zip vs) m x=some v
 |[],_,_,_,_,h,_,_=>by simp at h
 |_::_,[],_,_,_,_,h,_=>by simp at h
 |p::P,w::vs,0,m,nd,h1,h2,hk=>by
  simp at h1 h2;subst h1;subst h2;show bindL kindOf ((p,w)::P.zip vs) m p=_;unfold bindL;rw[kx fun v hv=>(Lv.mp nd).1 (O8 hv).1,Kz hk];simp
 |p::P,w::vs,i+1,m,nd,h1,h2,hk=>by
  show bindL kindOf ((p,w)::P.zip vs) m x=_;unfold bindL;exact kZ (i:=i) (Lv.mp nd).2 (by simpa using h1) (by simpa using h2) hk
theorem ly{v:Value}:∀{P:List Str} {vs:List Value} {i:Nat} {m:Str->Option Value},P.Nodup->P[i]?=some x->vs[i]?=some v->kindOf x≠some .local ->
  bindC kindOf (P.zip vs) m x=some v
 |[],_,_,_,_,h,_,_=>by simp at h
 |_::_,[],_,_,_,_,h,_=>by simp at h
 |p::P,w::vs,0,m,nd,h1,h2,hk=>by
  simp at h1 h2;subst h1;subst h2;show bindC kindOf ((p,w)::P.zip vs) m p=_;unfold bindC;rw[ko fun v hv=>(Lv.mp nd).1 (O8 hv).1,Kx hk];simp
 |p::P,w::vs,i+1,m,nd,h1,h2,hk=>by
  show bindC kindOf ((p,w)::P.zip vs) m x=_;unfold bindC;exact ly (i:=i) (Lv.mp nd).2 (by simpa using h1) (by simpa using h2) hk
noncomputable def start(N:List Str)(vs:List V):St:=vs.map some++List.replicate (N.length-vs.length) none
noncomputable def eE(CX:m_)(P:Program)(w:World)(K:Pq)(mg:Str->Option Value)(base:Heap)(N:List Str)(qual:Str)(scope:Scope)(f:Addr)(cd:Value)(A:Around)(outer:List Env)(s:Shared)(H:Hp)(E:XK):Cx where
 prog:=P
 w:=w
 K:=K
 mg:=mg
 base:=base
 A:=A.deeper (envOfC qual scope s.heap.objs.size f cd)
 N:=N
 s₀:=s
 H₀:=H
 env:=envOfC qual scope s.heap.objs.size f cd
 outer:=outer
 stack:=envOfC qual scope s.heap.objs.size f cd::outer
 ex:=[]
 calm:=true
 fn:=fun _=>true
 pn:=[]
 xe:=fun e s'=>wpAny (model P w) (A.deeper (envOfC qual scope s.heap.objs.size f cd)) (leaving (envOfC qual scope s.heap.objs.size f cd) e) (fun _ s''=>CX outer H s E e s'') (fun e' s''=>CX outer H s E e' s'') s'
theorem ny{sc:Scope}{n:Nat}(h:sc.names.lookup x=some .cell):∃ c,(cellsFrom n sc.names []).lookup x=some c:=by
 have q:=PySem.W.cellsFrom_some sc.names n [] (.inl h);exact Ow.mp q
theorem uR{ps:List Str}{qual:Str}{f:Addr}{cd:Value}{A:Around}{s1:Shared}{E:XK}{vs:List V}
  (S:ar N ps scope) (hd:A.handled=none) (e0:qU P w K mg base A outer s H) (hl:vs.length=ps.length) (r:Vals vs us)
  (x:InCallC s s.heap.objs.size (bindL (envOfC qual scope s.heap.objs.size f cd).kindOf (ps.zip us) fun _=>none) (cellsFrom (s.heap.objs.size+1) scope.names []) (bindC (envOfC qual scope s.heap.objs.size f cd).kindOf (ps.zip us) fun _=>none) s1) :
  Inv (eE CX P w K mg base N qual scope f cd A outer s H E) [] (start N vs) H s1:=by
 have hpl:ps.length<=N.length:=by have:=Le List.length S.pre;rw[Ld] at this;lia
 obtain⟨h1,tk,rfl,hk⟩:=x.done;have noA:∀ b:Addr,b∉(eE CX P w K mg base N qual scope f cd A outer s H E).ex:=fun b z=>absurd (show b∈([]:List Addr) from z) (by simp)
 refine⟨⟨e0.mod,S.kind,rfl,rfl,K2 _,fun y z c h1 h2=>?_,fun y hy=>?_,fun y c _ h=>?_,fun _=>hd,Around.frames_deeper e0.frames,.inr ⟨rfl,rfl⟩,fun b z=>absurd z (noA b),e0.bs,e0.zy,fun b _ _=>noA b,fun b z=>absurd z (noA b),e0.iI,e0.Ew,e0.tabs⟩,
  rfl,e0.bare,Un.kept hk,⟨_,x.toInCall.ns,fun i y v h1 h2 h3=>?_⟩,fun y c h=>⟨_,x.cell y c h⟩,e0.aD.fresh (K2 _),fun y c h=>?_,fun p hp=>absurd (show p∈([]:List (Addr×Obj)) from hp) (by simp),e0.aD.kept hk,?_⟩
 ·exact name_of_addr x.apart (PySem.mem_of_lookup h1) (PySem.mem_of_lookup h2)
 ·have hy:scope.names.lookup y=some .cell\/scope.names.lookup y=some .free:=hy;rcases hy with hy|hy
  ·exact ny hy
  ·exact absurd rfl (S.DC _ (PySem.mem_of_lookup hy))
 ·exact Mn (x.above y c (PySem.mem_of_lookup h))
 ·have hi:i<vs.length:=by
   unfold start at h2;by_cases hi:i<vs.length
   ·exact hi
   ·rw[Lu (by simpa using hi)] at h2
    rw[MG] at h2
    split at h2<;>cases h2
  have ha:vs[i]?=some v:=by
   unfold start at h2;rw[LD (by simpa using hi),KL] at h2
   cases e:vs[i]? with
   |none=>rw[e] at h2;cases h2
   |some a=>rw[e] at h2;cases h2;rfl
  obtain⟨u,hu,rv⟩:=r.get ha;have hp:ps[i]?=some y:=by
   rw[<- S.pre,List.getElem?_take_of_lt (by lia)];exact h1
  have ndP:ps.Nodup:=by rw[<- S.pre];exact S.nd.sublist (List.take_sublist _ _)
  refine⟨u,rv,?_⟩;rcases S.par y (L6 hp) with k|k
  ·exact .inl ⟨k,kZ ndP hp hu k⟩
  ·obtain⟨c,e⟩:=ny (n:=s.heap.objs.size+1) k;refine .inr ⟨.inl k,c,e,?_⟩;have q:=x.cell y c e;rw[ly ndP hp hu (by show scope.names.lookup y≠_;rw[k];decide)] at q
   exact q
 ·exact e0.aD.fresh (Mn (x.above y c (PySem.mem_of_lookup h)))
 ·unfold start;show _=N.length;rw[K0,K3,Lo];lia
theorem Cr{f:Addr}{name qual:Str}{params:Arguments}{dV kV doc pm cdv ct oc:Value}{an od:Option Addr}
  {osl:Array (Option Value)} {ps:List Str}  (lk:K.lookup f=some ⟨oc,od,.func (PySem.W.fnOf name qual params body scope dV kV doc pm an cdv ct),osl⟩) (hcd:PySem.W.codeIn K cdv qual=true) (S:ar N ps scope)
  (len:∀ vs H Q E,sp vs H Q E->vs.length=ps.length)
  (hbody:∀(A:Around) (outer:List Env) (s:Shared) (H:Hp) (vs:List V) (Q:VK) (E:XK),ba k (A.deeper (envOfC qual scope s.heap.objs.size f cdv))->sp vs H Q E ->
   ∃ t,pC (eE CX P w K mg base N qual scope f cdv A outer s H E) body t/\t {nx:=fun _ H'=>Q .aM H',rt:=Q} (start N vs) H) :
  bD P w K mg base CX (k+1) f (PySem.W.fnOf name qual params body scope dV kV doc pm an cdv ct) ps sp:=by
 refine⟨len,fun A outer s H args us vs Q E hr e0 hb r hsp=>?_⟩;have hl:=len _ _ _ _ hsp;have KX:K.In s.heap:=e0.mod.GD.keeps fun b o e=>(e0.bs b o e).1;have lim:s.heap.NoLimit:=e0.mod.nolimit.keeps fun b o e=>(e0.bs b o e).1;have hkind:∀ y∈ps.zip us,scope.names.lookup y.1=some .local\/(scope.names.lookup y.1=some .cell/\((cellsFrom (s.heap.objs.size+1) scope.names []).lookup y.1).isSome=true):=fun⟨n,v⟩ hy=>by
  rcases S.par n (O8 hy).1 with q|q
  ·exact .inl q
  ·exact .inr ⟨q,PySem.W.cellsFrom_some _ _ _ (.inl q)⟩
 refine codeAny_call_function hr.depth (KX _ _ lk) rfl S.co S.gen rfl (PySem.W.codeRec_of KX hcd) (hb _ _ _ _ ?_);refine wpAny_newFunctionEnv_cells S.kind hkind fun env he s1 x=>?_;subst he;refine⟨lim.keeps x.toInCall.keep,codeAny_func ?_⟩;obtain⟨t,ht,hq⟩:=hbody A outer s H vs Q E (hr.deeper _) hsp;have I:Inv (eE CX P w K mg base N qual scope f cdv A outer s H E) [] (start N vs) H s1:=uR S hr.hd e0 hl r x;refine L5 (ht [] s1 (start N vs) H _ I hq) (fun fl s' hs=>?_) fun e s' hs=>hs;have fin:∀{σ':St} {H':Hp} {v:V} {u:Value},Inv (eE CX P w K mg base N qual scope f cdv A outer s H E) [] σ' H' s'->RelV v u->Q v H'->CE outer P w H s Q u s':=
  fun {σ' H' v u} J rv q=>⟨v,H',J.os,J.bare,J.base,J.aD,rv,q⟩
 cases fl with
 |ret u =>
  obtain⟨v,σ',H',J,rv,q⟩:=hs;exact fin J rv q
 |next =>
  obtain⟨σ',H',J,q⟩:=hs;exact fin (v:=V.aM) (u:=Value.none) J rfl q
 |brk =>
  obtain⟨_,_,_,q⟩:=hs;exact False.elim q
 |cont =>
  obtain⟨_,_,_,q⟩:=hs;exact False.elim q
section
variable {X:Cx} {x:Str} {p pos:Pos} {e:Expr} {es:List Expr} {t:TA} {id T:String} {r:List V->Hp->VK->Prop}
noncomputable def vf(r:List V->Hp->VK->Prop)(t:TA):TE:=fun σ H Q=>t σ H fun vs H1=>r vs H1 Q
theorem zk(hc:aH X (.builtin id) r)(hg:Gl X x)(hm:X.mg x=none)(hv:bootBuiltins x=some (.builtin id))(ha:PA X (e::es) t)(hn:autoParam (x≠"__name__") ℜ1)(hdb:autoParam ((x ==("__debug__":Str))=false) ℜ1)
  (he:autoParam (starEach (e::es) X.env=(false,eval e X.env)::starEach es X.env) ℜ0) (hpl:autoParam ((backTo pos (starEach es X.env)).any (·.1)=false) ℜ0):PE X (.Call (.Name x p) (e::es) [] pos) (vf r t):=by
 intro pins s σ H Q I h;refine Mp (eR I hg hm hv ?_ hn hdb);exact PyProof.Rows.callWith_builtin1 (bo (ha pos pins s σ H _ I h) fun us s1 ⟨vs,H1,I1,r1,q1⟩=>hc pins s1 σ H1 vs us Q I1 r1 q1) he hpl
theorem tJ(hc:aH X (.type T) r)(hg:Gl X x)(hm:X.mg x=none)(hv:bootBuiltins x=some (.type T))(ha:PA X (e::es) t)(hn:autoParam (x≠"__name__") ℜ1)(hdb:autoParam ((x ==("__debug__":Str))=false) ℜ1)
  (he:autoParam (starEach (e::es) X.env=(false,eval e X.env)::starEach es X.env) ℜ0) (hpl:autoParam ((backTo pos (starEach es X.env)).any (·.1)=false) ℜ0):PE X (.Call (.Name x p) (e::es) [] pos) (vf r t):=by
 intro pins s σ H Q I h;refine Mp (eR I hg hm hv ?_ hn hdb);exact LP (bo (ha pos pins s σ H _ I h) fun us s1 ⟨vs,H1,I1,r1,q1⟩=>hc pins s1 σ H1 vs us Q I1 r1 q1) he hpl
end
end L2
namespace HT
open PySem PyProof.Rows
section
variable {prog:Program} {w:World} {A:Around} {E:Value->Shared->Prop} {s:Shared}
theorem zT{t b:Addr}{vs ws:List Value}{Q:Value->Shared->Prop}(ht:IsTup s.heap t vs.toArray)(hb:IsTup s.heap b ws.toArray)(hv:vs≠[])
  (h1:ws=[]->Q (.ref t) s) (h2:ws≠[]->Q (.ref s.heap.objs.size) {s with heap:=s.heap.push {cls:=.type "tuple",data:=.seq (vs++ws).toArray}})
  (hsz:vs.length+ws.length<=sizeLine):wpAny (model prog w) A (binaryOp .Add (.ref t) (.ref b)) Q E s:=by
 obtain⟨⟨cls,dd,data,sl⟩,ho,hc,n,hd⟩:=id ht;obtain⟨⟨cls2,dd2,data2,sl2⟩,ho2,hc2,n2,hd2⟩:=id hb;simp only at hc hd hc2 hd2;subst hc hd hc2 hd2;have e:vs.toArray++ws.toArray=(vs++ws).toArray:=by simp
 by_cases hw:ws=[]
 ·exact concat_meets ⟨_,ho,rfl⟩ ⟨_,ho2,rfl⟩ noFill_tuple_add seq_tuple_add PySem.F.slot_tuple_add PySem.F.entry_tuple_add (PySem.F.args_tuple_add_2 _ _)
   (tuple_addW1 t b vs.toArray ws.toArray n n2 dd dd2 sl sl2 (by simpa using hv) (by simp[hw])) ⟨ho,ho2,h1 hw⟩
 ·refine concat_meets ⟨_,ho,rfl⟩ ⟨_,ho2,rfl⟩ noFill_tuple_add seq_tuple_add PySem.F.slot_tuple_add PySem.F.entry_tuple_add (PySem.F.args_tuple_add_2 _ _)
   (tuple_addW2 t b vs.toArray ws.toArray n n2 dd dd2 sl sl2 (by simpa using hv) (by simpa using hw) (by rw[List.size_toArray,List.size_toArray];exact hsz)) ⟨ho,ho2,?_⟩
  rw[e];exact h2 hw
noncomputable def bq(n d:Nat):Option Int->Nat
 |none=>d
 |some v=>if v<0 then (v+(n:Int)).toNat else min v.toNat n
theorem fC(n d:Nat):bq n d none=d:=rfl
theorem gR(n d k:Nat):bq n d (some (k:Int))=min k n:=by
 show (if (k:Int)<0 then ((k:Int)+(n:Int)).toNat else min (k:Int).toNat n)=min k n
 rw[if_neg (by lia),Int.toNat_natCast]
theorem qM(n d:Nat)(hd:d<=n)(o:Option Int):bq n d o<=n:=by
 cases o with
 |none=>exact hd
 |some v =>
  show (if v<0 then (v+(n:Int)).toNat else min v.toNat n)<=n
  by_cases hv:v<0
  ·rw[if_pos hv];lia
  ·rw[if_neg hv];exact Nat.min_le_right _ _
theorem sH(v:Int)(n d:Nat):(if v<0 then max (v+(n:Int)) 0 else min v (n:Int))=((bq n d (some v):Nat):Int):=by
 show (if v<0 then max (v+(n:Int)) 0 else min v (n:Int))=(((if v<0 then (v+(n:Int)).toNat else min v.toNat n):Nat):Int)
 by_cases hv:v<0
 ·simp only[if_pos hv];lia
 ·simp only[if_neg hv];lia
theorem qA(lo hi:Option Int)(n:Nat):Builtin.Slice.sliceAdjust lo hi 1 (n:Int)=(((bq n 0 lo:Nat):Int),((bq n n hi:Nat):Int)):=by
 have h1:¬ ((1:Int)<0):=by lia
 unfold Builtin.Slice.sliceAdjust;simp only[h1,if_false];refine Prod.ext ?_ ?_
 ·cases lo with
  |none=>rfl
  |some v=>exact sH v n 0
 ·cases hi with
  |none=>rfl
  |some v=>exact sH v n n
theorem p_(i j:Nat):Builtin.Slice.slicePlaces (i:Int) (j:Int) 1=j-i:=by
 unfold Builtin.Slice.slicePlaces;have h1:(1:Int) > 0:=by lia
 simp only[h1,if_true,Int.ediv_one]
 split<;>lia
theorem jz{v:Value}{o:Option Int}{Q:Option Int->Shared->Prop}(p:IsPart v o)(h:Q o s):wpAny (model prog w) A (Builtin.Slice.slicePartIndex v) Q E s:=by
 cases p with
 |none=>exact slicePart_none h
 |int i t=>exact slicePart_int h
theorem e7{sl:Addr}{vl vu:Value}{lo hi:Option Int}{n:Nat}{Q:Int×Int×Nat->Shared->Prop}(hs:s.heap.IsSliceOf sl vl vu .none)(pl:IsPart vl lo)(pu:IsPart vu hi)
  (h:Q (((bq n 0 lo:Nat):Int),1,bq n n hi-bq n 0 lo) s):wpAny (model prog w) A (Builtin.Slice.sliceApplied (.ref sl) (pure (n:Int))) Q E s:=by
 obtain⟨os,hos,hcs,hds⟩:=id hs;unfold Builtin.Slice.sliceApplied Builtin.Slice.sliceFields;refine wpAny_bind (wpAny_bind (wpAny_field hos hds (x:=vl) rfl (wpAny_bind (wpAny_field hos hds (x:=vu) rfl (wpAny_bind (wpAny_field hos hds (x:=.none) rfl (wpAny_pure ?_)))))));refine wpAny_bind (slicePart_none ?_);show wpAny _ _ (if ((1:Int) == 0)=true then _ else _) _ _ s
 rw[if_neg (by decide)]
 refine wpAny_bind (jz pl (wpAny_bind (jz pu (wpAny_bind (wpAny_pure ?_)))));show wpAny _ _ (match Builtin.Slice.sliceAdjust lo hi 1 (n:Int) with | (lo,hi)=>pure (lo,(1:Int),Builtin.Slice.slicePlaces lo hi 1)) _ _ s
 rw[qA lo hi n];show wpAny _ _ (pure (((bq n 0 lo:Nat):Int),(1:Int),Builtin.Slice.slicePlaces ((bq n 0 lo:Nat):Int) ((bq n n hi:Nat):Int) 1)) _ _ s;rw[p_];exact wpAny_pure h
theorem zl(xs:Array Value)(i k:Nat):((List.range k).filterMap fun (m:Nat)=>xs[((i:Int)+(m:Int)*1).toNat]?).toArray=((xs.toList.drop i).take k).toArray:=by
 have e:(fun (m:Nat)=>xs[((i:Int)+(m:Int)*1).toNat]?)=fun m=>xs[i+m]?:=by
  funext m
  have:((i:Int)+(m:Int)*1).toNat=i+m:=by lia
  rw[this]
 rw[e];have:=pick_run xs i k;rw[List.filterMap_map] at this;have e2:((fun x=>xs[x]?) ∘ fun x=>i+x)=fun m=>xs[i+m]?:=rfl;rw[e2] at this;rw[this]
theorem gM{t sl:Addr}{items:Array Value}{vl vu:Value}{lo hi:Option Int}{Q:Value->Shared->Prop}(ht:IsTup s.heap t items)(hs:s.heap.IsSliceOf sl vl vu .none)(pl:IsPart vl lo)(pu:IsPart vu hi)
  (hw:¬ (bq items.size 0 lo=0/\bq items.size items.size hi=items.size))
  (h:Q (.ref s.heap.objs.size) {s with heap:=s.heap.push {cls:=.type "tuple",data:=.seq ((items.toList.drop (bq items.size 0 lo)).take (bq items.size items.size hi-bq items.size 0 lo)).toArray}})
  (hsz:items.size<=sizeLine):wpAny (model prog w) A (getItem (.ref t) (.ref sl)) Q E s:=by
 have htake:sizeOk (.seq ((items.toList.drop (bq items.size 0 lo)).take (bq items.size items.size hi-bq items.size 0 lo)).toArray):=by
  show ((items.toList.drop (bq items.size 0 lo)).take (bq items.size items.size hi-bq items.size 0 lo)).toArray.size<=sizeLine;rw[List.size_toArray,List.length_take,List.length_drop,Array.length_toList];exact Nat.le_trans (Nat.min_le_right _ _) (Nat.le_trans (Nat.sub_le _ _) hsz)
 have hj:bq items.size items.size hi<=items.size:=qM _ _ (Nat.le_refl _) hi;obtain⟨os,hos,hcs,hds⟩:=id hs;have hTs:s.TypeIs (.ref sl) "slice":=⟨os,hos,hcs⟩;unfold getItem
 try with_reducible refine wpAny_holding ?_
 first|refine wpAny_bind (wpAny_pure ?_)|skip
 refine wpAny_bind (wpAny_sequenceKey ht.typeIs (by decide) ?_)
 refine wpAny_bind (wpAny_callSpecial?_slot (name:=Str.ofString "__getitem__") ht.typeIs PyProof.Rows.slot_tuple_getitem
  (wpAny_call_entry PyProof.Rows.slot_tuple_getitem ht.typeIs entry_tuple_getitem ?_ (args_tuple_getitem _ _)))
 show wpAny _ _ (Builtin.Tuple.tupleItemsOf (.ref t) >>= _) _ _ s;refine wpAny_bind (tupleItemsOf_ ht ?_);refine wpAny_bind (wpAny_typeOf hTs ?_);rw[if_pos (by decide)]
 refine wpAny_bind (e7 hs pl pu ?_);have hno:¬ ((((bq items.size 0 lo:Nat):Int) == 0 && (1:Int) == 1 && (bq items.size items.size hi-bq items.size 0 lo) == items.size)=true):=by
  intro q;rw[Bool.and_eq_true,Bool.and_eq_true] at q;have q1:((bq items.size 0 lo:Nat):Int)=0:=eq_of_beq q.1.1;have q2:bq items.size items.size hi-bq items.size 0 lo=items.size:=eq_of_beq q.2;exact hw ⟨by lia,by lia⟩
 show wpAny _ _ (if (((bq items.size 0 lo:Nat):Int) == 0 && (1:Int) == 1 && (bq items.size items.size hi-bq items.size 0 lo) == items.size)=true then _ else _) _ _ s
 rw[if_neg hno,zl]
 first
  |exact wpAny_bind (m:=Builtin.Tuple.tupleExact _) (wpAny_newObj_type (wpAny_pure ⟨_,rfl,wpAny_pure h⟩) htake)
  |exact wpAny_bind (m:=Builtin.Tuple.tupleExact _) (wpAny_newObj_type (wpAny_bind (wpAny_pure (wpAny_pure ⟨_,rfl,wpAny_pure h⟩))) htake)
  |exact wpAny_bind (wpAny_bind (m:=Builtin.Tuple.tupleExact _) (wpAny_newObj_type (wpAny_pure (wpAny_pure ⟨_,rfl,wpAny_pure h⟩)) htake))
  |exact wpAny_bind (wpAny_bind (m:=Builtin.Tuple.tupleExact _) (wpAny_newObj_type (wpAny_pure ⟨_,rfl,wpAny_pure h⟩) htake))
end
end HT
namespace L2
open PySem PySem.Spec PyProof.Rows
variable{r:V->Option Int->Option Int->Hp->VK->Prop}{xs:List (List Key×Addr×Value)}{its its' us:List Value}{α:Type}{n:Nat}{pins:List (Addr×Obj)}{σ:St}{H H':Hp}{s:Shared}{x y:V}{u:Value}{o:Option V}{P:Program}{w:World}{kvs:List (List Key×V)}{Q:Value->Shared->Prop}
abbrev TO:=St->Hp->(Option Int->Hp->Prop)->Prop
noncomputable def PO(X:Cx)(e:Option Expr)(t:TO):Prop:=
 ∀(pins:List (Addr×Obj)) (s:Shared) (σ:St) (H:Hp) (Q:Option Int->Hp->Prop),Inv X pins σ H s->t σ H Q ->
  wpAny (model X.prog X.w) X.A (evalPart e X.env) (fun u s'=>∃ o H',Inv X pins σ H' s'/\IsPart u o/\Q o H') X.xe s
noncomputable def sk:TO:=fun _ H Q=>Q none H
noncomputable def C9(t:TE):TO:=fun σ H Q=>t σ H fun x H1=>∃ i,x=.int i/\Q (some i) H1
theorem intsAre_of{ns:List Int}:∀{us:List Value},Vals (ns.map V.int) us->IntsAre us ns:=by
 induction ns with
 |nil=>intro us r;rw[Pe] at r;cases r;exact .nil
 |cons n ns ih =>
  intro us r;rw[KN] at r
  cases r with
  |cons r1 r2 =>
   obtain⟨t,e⟩:=r1;subst e;exact .cons n t (ih r2)
section
variable {X:Cx} {e:Expr} {te:TE} {lo hi:Option Expr} {tl th:TO} {pos p2:Pos}
theorem q_:PO X none sk:=by
 intro pins s σ H Q I h;rw[evalPart_none];exact K1 ⟨none,H,I,.none,h⟩
theorem lL(h:PE X e te):PO X (some e) (C9 te):=by
 intro pins s σ H Q I hw;rw[evalPart_some];refine bo (h pins s σ H _ I hw) fun u s1 ⟨x,H1,I1,r1,q1⟩=>?_;obtain⟨i,rfl,q⟩:=q1;obtain⟨t,rfl⟩:=r1;exact⟨some i,H1,I1,.int i t,q⟩
noncomputable def vn(X:Cx)(r:V->Option Int->Option Int->Hp->VK->Prop):Prop:=
 ∀(pins:List (Addr×Obj)) (s:Shared) (σ:St) (H:Hp) (x:V) (v vl vu:Value) (lo hi:Option Int) (sl:Addr) (Q:VK),Inv X pins σ H s->RelV x v->s.heap.IsSliceOf sl vl vu .none->IsPart vl lo->IsPart vu hi->r x lo hi H Q ->
  ∃ T id,typeLookup (.type T) "__getitem__"=pure (some (.builtin id))/\s.TypeIs v T/\wpAny (model X.prog X.w) X.A (getItem v (.ref sl)) (EP X pins σ Q) X.xe s
theorem vn.or{r':V->Option Int->Option Int->Hp->VK->Prop}(h:vn X r)(h':vn X r'):vn X (fun x lo hi H Q=>r x lo hi H Q\/r' x lo hi H Q):=by
 intro pins s σ H x v vl vu lo hi sl Q I rx hs pl pu q;rcases q with q|q
 ·exact h pins s σ H x v vl vu lo hi sl Q I rx hs pl pu q
 ·exact h' pins s σ H x v vl vu lo hi sl Q I rx hs pl pu q
noncomputable def JV(r:V->Option Int->Option Int->Hp->VK->Prop)(te:TE)(tl th:TO):TE:=fun σ H Q=>te σ H fun x H1=>tl σ H1 fun l H2=>th σ H2 fun u H3=>r x l u H3 Q
theorem vU(hr:vn X r)(he:PE X e te)(hl:PO X lo tl)(hu:PO X hi th):PE X (.Subscript e (.Slice lo hi none p2) pos) (JV r te tl th):=by
 intro pins s σ H Q I h;refine Subscript_ (bo (he pins s σ H _ I h) fun v s1 ⟨x,H1,I1,r1,q1⟩=>?_);refine wpAny_Slice (bo (hl pins s1 σ H1 _ I1 q1) fun vl s2 ⟨l,H2,I2,pl,q2⟩=>bo (hu pins s2 σ H2 _ I2 q2) fun vu s3 ⟨u,H3,I3,pu,q3⟩=>?_);rw[evalPart_none];refine K1 ?_;have I4:Inv X pins σ H3 {s3 with heap:=s3.heap.push {cls:=.type "slice",data:=.fields #[vl,vu,.none]}}:=I3.kept (t':=s3.toks) fun b ob q=>Kv _ q
 obtain⟨T,id,hT,ht,hg⟩:=hr pins {s3 with heap:=s3.heap.push {cls:=.type "slice",data:=.fields #[vl,vu,.none]}} σ H3 x v vl vu l u s3.heap.objs.size Q I4 r1 (Heap.IsSliceOf.new ..) pl pu q3
 show wpAny (model X.prog X.w) X.A (subscriptTail e (.Slice lo hi none p2) v (.ref s3.heap.objs.size)) (EP X pins σ Q) X.xe {s3 with heap:=s3.heap.push {cls:=.type "slice",data:=.fields #[vl,vu,.none]}}
 exact tail_any (ops:=[.ref s3.heap.objs.size,v]) ht hT hg (by with_unfolding_all rfl)
noncomputable def l_(xs:List V)(lo hi:Option Int):List V:=(xs.drop (HT.bq xs.length 0 lo)).take (HT.bq xs.length xs.length hi-HT.bq xs.length 0 lo)
theorem i9(xs:List V)(lo hi:Option Int):(l_ xs lo hi).length<=xs.length:=by
 unfold l_;rw[Ld,LH];exact KG (Nat.min_le_right _ _) (OZ _ _)
noncomputable def Ba(K:Pq):V->Option Int->Option Int->Hp->VK->Prop:=fun x lo hi H Q=>∃ a xs,x=.ref a/\aW K H a xs /\
 ¬ (HT.bq xs.length 0 lo=0/\HT.bq xs.length xs.length hi=xs.length)/\∀ p,H p=none->Q (.ref p) (upd H p (.tup (l_ xs lo hi)))
theorem DX:vn X (Ba X.K):=by
 intro pins s σ H x v vl vu lo hi sl Q I rx hs pl pu h;obtain⟨a,xs,rfl,hx,hw,q⟩:=h;cases rx;obtain⟨its,r,ht,hz⟩:=I.tuple hx;have hlen:its.toArray.size=xs.length:=by rw[Ky];exact r.length.symm
 refine⟨"tuple",_,Mc.lookup,ht.typeIs,?_⟩;refine HT.gM ht hs pl pu (by rw[hlen];exact hw) ?_ (by rw[hlen];exact hz)
 rw[hlen];refine⟨.ref s.heap.objs.size,_,I.laid (t':=s.toks) (o:=.tup (l_ xs lo hi)) (fun b ob q=>Kv _ q) (K2 _) ?_,rfl,q _ (I.aD.fresh (K2 _))⟩;exact⟨KG (i9 xs lo hi) hz,_,(r.drop (HT.bq xs.length 0 lo)).take (HT.bq xs.length xs.length hi-HT.bq xs.length 0 lo),cX.new _ _⟩
noncomputable def Hd(K:Pq):R2:=fun x y H Q=>∃ a b xs ys,x=.ref a/\y=.ref b/\aW K H a xs/\aW K H b ys/\xs≠[]/\xs.length+ys.length<=sizeLine /\
 (ys=[]->Q (.ref a) H)/\(ys≠[]->∀ p,H p=none->Q (.ref p) (upd H p (.tup (xs++ys))))
theorem Vals.my{xs:List V}(r:Vals xs us):us=[] ↔ xs=[]:=by
 cases r with
 |nil=>simp
 |cons _ _=>simp
theorem sx:cW X (binaryOp .Add) (Hd X.K):=by
 intro pins s σ H x y v u Q I rx ry h;obtain⟨a,b,xs,ys,rfl,rfl,ha,hb,hx,hz,q1,q2⟩:=h;cases rx;cases ry;obtain⟨its,r1,p1,_⟩:=I.tuple ha;obtain⟨its2,r2,p2,_⟩:=I.tuple hb;refine HT.zT p1 p2 (fun z=>hx (r1.my.mp z)) (fun z=>⟨.ref a,H,I,rfl,q1 (r2.my.mp z)⟩) (fun z=>?_) (by rw[<- r1.length,<- r2.length];exact hz)
 refine⟨.ref s.heap.objs.size,_,I.laid (t':=s.toks) (o:=.tup (xs++ys)) (fun b ob q=>Kv _ q) (K2 _) ?_,rfl,q2 (fun w=>z (r2.my.mpr w)) _ (I.aD.fresh (K2 _))⟩;exact⟨by rw[K0];exact hz,_,r1.append r2,cX.new _ _⟩
end
noncomputable def jT(n:Nat)(i:Int):Option Nat:=if 0<=i then (if i<n then some i.toNat else none) else if -(n:Int)<=i then some (i+n).toNat else none
noncomputable def bC(xs:List α)(i:Int):Option α:=(jT xs.length i).bind fun j=>xs[j]?
theorem sF{i:Int}{j:Nat}(h:jT n i=some j):seqIndex? i n=some j/\j<n/\-(n:Int)<=i/\i<n:=by
 unfold jT at h;by_cases h0:0<=i
 ·rw[Kz h0] at h;by_cases h1:i<n
  ·rw[Kz h1] at h;have e:i.toNat=j:=Option.some.inj h;exact⟨by rw[seqIndex_of h0 h1,e],by lia,by lia,h1⟩
  ·rw[Kx h1] at h;cases h
 ·rw[Kx h0] at h;by_cases h1:-(n:Int)<=i
  ·rw[Kz h1] at h;have e:(i+n).toNat=j:=Option.some.inj h;exact⟨by rw[Pf (by lia) h1,e],by lia,h1,by lia⟩
  ·rw[Kx h1] at h;cases h
theorem m5{xs:List α}{i:Int}{v:α}(h:bC xs i=some v):∃ j,seqIndex? i xs.length=some j/\xs[j]?=some v/\j<xs.length/\-(xs.length:Int)<=i/\i<xs.length:=by
 unfold bC at h
 cases e:jT xs.length i with
 |none=>rw[e] at h;cases h
 |some j =>
  rw[e] at h;obtain⟨h1,h2,h3,h4⟩:=sF e;exact⟨j,h1,h,h2,h3,h4⟩
theorem bZ{xs:List α}{j:Nat}{v:α}(h:xs[j]?=some v):bC xs (j:Int)=some v:=by
 have hj:j<xs.length:=(K8.mp h).1;have e:jT xs.length (j:Int)=some j:=by
  unfold jT;rw[Kz (by lia),Kz (by lia)];simp
 unfold bC;rw[e];exact h
noncomputable def sY(b:Expr):Prop:=∀ o i,subscripted b false o i=operate [o,i] (getItem o i)
noncomputable def rF(X:Cx)(r:R2):Prop:=
 ∀(value slice:Expr) (pins:List (Addr×Obj)) (s:Shared) (σ:St) (H:Hp) (x y:V) (v u:Value) (Q:VK),Inv X pins σ H s->RelV x v->RelV y u->r x y H Q ->
  subscripted slice false v u=operate [v,u] (getItem v u)->wpAny (model X.prog X.w) X.A (subscriptTail value slice v u) (EP X pins σ Q) X.xe s
noncomputable def zz(X:Cx)(id:String)(r:V->List V->Hp->VK->Prop):Prop:=
 ∀(pins:List (Addr×Obj)) (s:Shared) (σ:St) (H:Hp) (x:V) (xs:List V) (v:Value) (us:List Value) (Q:VK),Inv X pins σ H s->RelV x v->Vals xs us->r x xs H Q ->
  wpAny (model X.prog X.w) X.A (call (.builtin id) (v::us)) (EP X pins σ Q) X.xe s
section
variable {X:Cx} {a b:Expr} {ta tb:TE} {pos:Pos}
theorem rF.or{r r':R2}(h:rF X r)(h':rF X r'):rF X (fun x y H Q=>r x y H Q\/r' x y H Q):=by
 intro value slice pins s σ H x y v u Q I rx ry q hs;rcases q with q|q
 ·exact h value slice pins s σ H x y v u Q I rx ry q hs
 ·exact h' value slice pins s σ H x y v u Q I rx ry q hs
theorem Co{r:R2}(hr:rF X r)(ha:PE X a ta)(hb:PE X b tb)(hs:sY b):PE X (.Subscript a b pos) (vt r ta tb):=by
 intro pins s σ H Q I h;exact Subscript_ (DN ha hb I h fun v u s2 x y H2 I2 rx ry q=>hr a b pins s2 σ H2 x y v u Q I2 rx ry q (hs _ _))
noncomputable def G_(K:Pq):R2:=fun x y H Q=>∃ p xs i v,x=.ref p/\y=.int i/\bz K H p xs/\bC xs i=some v/\Q v H
noncomputable def HH(K:Pq):R2:=fun x y H Q=>∃ p xs i v,x=.ref p/\y=.int i/\aW K H p xs/\bC xs i=some v/\Q v H
noncomputable def Hb:R2:=fun x y H Q=>∃ z i c,x=.str z/\y=.int i/\z.length<=sizeLine/\bC z.cps.toList i=some c/\Q (.str ⟨#[c]⟩) H
theorem zR:rF X (G_ X.K):=by
 intro value slice pins s σ H x y v u Q I rx ry h hs;obtain⟨p,xs,i,z,rfl,rfl,hq,he,q⟩:=h;cases rx;obtain⟨t,rfl⟩:=ry;obtain⟨its,r,pl,hz⟩:=I.list hq;obtain⟨j,h1,h2,h3,h4,h5⟩:=m5 he;obtain⟨w,ew,rw'⟩:=r.get h2;have hl:=r.length;have hn:=fb;have fin:EP X pins σ Q w s:=⟨z,H,I,rw',q⟩;by_cases h0:0<=i
 ·have hj:i.toNat=j:=by
   rw[seqIndex_of h0 h5] at h1;exact Option.some.inj h1
  exact item_listR pl.isList h0 (by lia) (by rw[hj];simpa using ew) fin hs
 ·have hj:(i+(its.toArray.size:Int)).toNat=j:=by
   rw[Pf (by lia) h4] at h1
   rw[Ky,<- hl];exact Option.some.inj h1
  exact subscriptTail_builtinR (x:=w) pl.isList.typeIs Oi.lookup
   (wpAny_getItem_list_neg (Q:=fun r s'=>r=w/\EP X pins σ Q r s') pl.isList (by lia) (by rw[Ky]<;>lia) (by lia) (by rw[hj];simpa using ew) ⟨rfl,fin⟩) hs
theorem zc:rF X (HH X.K):=by
 intro value slice pins s σ H x y v u Q I rx ry h hs;obtain⟨p,xs,i,z,rfl,rfl,hq,he,q⟩:=h;cases rx;obtain⟨t,rfl⟩:=ry;obtain⟨its,r,pl,hz⟩:=I.tuple hq;obtain⟨j,h1,h2,h3,h4,h5⟩:=m5 he;obtain⟨w,ew,rw'⟩:=r.get h2;have hl:=r.length;have hn:=fb;have fin:EP X pins σ Q w s:=⟨z,H,I,rw',q⟩;exact subscriptTail_builtinR (x:=w) pl.typeIs slot_tuple_getitem.lookup
  (getItem_tuple (j:=j) (Q:=fun r s'=>r=w/\EP X pins σ Q r s') pl (by lia) (by lia) (by rw[Ky,<- hl];exact h1) (by simpa using ew) ⟨rfl,fin⟩) hs
theorem EX:rF X Hb:=by
 intro value slice pins s σ H x y v u Q I rx ry h hs;obtain⟨z,i,c,rfl,rfl,hz,he,q⟩:=h;obtain⟨t,rfl⟩:=rx;obtain⟨t',rfl⟩:=ry;obtain⟨j,h1,h2,h3,h4,h5⟩:=m5 he;have hl:z.cps.toList.length=z.length:=by simp[Str.length]
 rw[hl] at h1 h4 h5;have hn:=fb;exact tail_any (typeIs_str s z t) slot_str_getitem.lookup (getItem_str (c:=c) (by
  have e1:decide (i < -(2^63:Int))=false:=KO (by lia)
  have e2:decide (i >= 2^63)=false:=KO (by lia)
  rw[e1,e2,Bool.or_false]) (by rw[h1];simpa using h2) ⟨.str ⟨#[c]⟩,H,I.tok _,⟨_,rfl⟩,q⟩) hs
noncomputable def Ik(K:Pq):R2:=fun x y H Q=>G_ K x y H Q\/HH K x y H Q\/Hb x y H Q
theorem xa:rF X (Ik X.K):=zR.or (zc.or EX)
theorem qK(its:List Value)(n j:Nat)(u:Value):Obj.mapSeq (·.setIfInBounds j u) {cls:=.type "list",data:=.seq its.toArray n}={cls:=.type "list",data:=.seq (its.set j u).toArray n}:=by
 simp[Obj.mapSeq]
theorem Inv.lst{p:Addr}{xs:List V}(I:Inv X pins σ H s)(h:H p=some (.lst xs)):
  ∃(its:List Value) (n:Nat),Vals xs its/\s.heap.get? p=some {cls:=.type "list",data:=.seq its.toArray n}/\xs.length<=sizeLine:=by
 obtain⟨z,its,n,r,e⟩:=I.aD p _ h;exact⟨its,n,r,e,z⟩
theorem Inv.CZ{p:Addr}{xs ys:List V}{n':Nat}{f:Obj->Obj}(I:Inv X pins σ H s)(h:H p=some (.lst xs))
  (ho:s.heap.get? p=some {cls:=.type "list",data:=.seq its.toArray n}) (hf:f {cls:=.type "list",data:=.seq its.toArray n}={cls:=.type "list",data:=.seq its'.toArray n'}) (r:Vals ys its') (hz:ys.length<=sizeLine) (t:Nat) :
  Inv X pins σ (upd H p (.lst ys)) {s with heap:=s.heap.update p f,toks:=t}:=by
 have e:(s.heap.update p f).get? p=some {cls:=.type "list",data:=.seq its'.toArray n'}:=by
  rw[N3 f ho (by rw[hf]<;>rfl),hf]
 refine I.write (x:=p) (e:=p) (by rw[h];trivial) (.inl rfl) (fun b u hb q=>(OH _ _ (Ne.symm hb)).trans q) ⟨_,e⟩ ?_
 exact⟨hz,its',n',r,e⟩
noncomputable def Gj:V->V->V->Hp->(Hp->Prop)->Prop:=fun o i v H Q=>∃ p xs k j,o=.ref p/\i=.int k/\H p=some (.lst xs)/\jT xs.length k=some j/\Q (upd H p (.lst (xs.set j v)))
theorem set_list:ED X Gj:=by
 intro pins s σ H o i v ov iv u Q I ro ri rv h;obtain⟨p,xs,k,j,rfl,rfl,hp,hj,q⟩:=h;cases ro;obtain⟨t,rfl⟩:=ri;obtain⟨its,n,r,ho,hz⟩:=I.lst hp;obtain⟨h1,h2,h3,h4⟩:=sF hj;have hl:=r.length;have hn:=fb;have I':Inv X pins σ (upd H p (.lst (xs.set j v))) {s with heap:=s.heap.update p (Obj.mapSeq (·.setIfInBounds j u))}:=
  I.CZ hp ho (qK its n j u) (r.set rv j) (by rw[Lp];exact hz) s.toks
 by_cases h0:0<=k
 ·have hk:k.toNat=j:=by
   rw[seqIndex_of h0 h4] at h1;exact Option.some.inj h1
  exact PySem.W.ki_setAt ho h0 (by lia) (by rw[Ky,<- hl];exact h4) (by rw[hk];exact⟨_,I',q⟩)
 ·have hk:(k+(its.toArray.size:Int)).toNat=j:=by
   rw[Pf (by lia) h3] at h1
   rw[Ky,<- hl];exact Option.some.inj h1
  exact PySem.W.ki_setBack ho (by lia) (by rw[Ky,<- hl];exact h3) (by lia) (by rw[hk];exact⟨_,I',q⟩)
theorem lD(lo hi:Option Int)(n:Nat):(sliceBounds lo hi none n).1=((HT.bq n 0 lo:Nat):Int)/\(sliceBounds lo hi none n).2.1=((HT.bq n n hi:Nat):Int)/\(sliceBounds lo hi none n).2.2=1:=by
 refine⟨?_,?_,rfl⟩
 ·cases lo with
  |none=>simp[sliceBounds,HT.bq]
  |some i =>
   simp only[sliceBounds,HT.bq,Option.getD_none,show (1:Int) > 0 by decide,Mg]
   by_cases h:i<0
   ·simp only[h,Mg]<;>lia
   ·simp only[h,LY]<;>lia
 ·cases hi with
  |none=>simp[sliceBounds,HT.bq]
  |some i =>
   simp only[sliceBounds,HT.bq,Option.getD_none,show (1:Int) > 0 by decide,Mg]
   by_cases h:i<0
   ·simp only[h,Mg]<;>lia
   ·simp only[h,LY]<;>lia
theorem kj(its:List Value)(lo hi:Option Int):slicePick its.toArray lo hi none=((its.drop (HT.bq its.length 0 lo)).take (HT.bq its.length its.length hi-HT.bq its.length 0 lo)).toArray:=by
 obtain⟨h1,h2,h3⟩:=lD lo hi its.toArray.size;unfold slicePick;rw[h1,h2,h3];simp only[sliceRange_one,pick_run,Ky]<;>rfl
noncomputable def GH(K:Pq):V->Option Int->Option Int->Hp->VK->Prop:=fun x lo hi H Q=>∃ a xs,x=.ref a/\bz K H a xs/\∀ p,H p=none->Q (.ref p) (upd H p (.lst (l_ xs lo hi)))
theorem zW:vn X (GH X.K):=by
 intro pins s σ H x v vl vu lo hi sl Q I rx hs pl pu h;obtain⟨a,xs,rfl,hx,q⟩:=h;cases rx;obtain⟨its,r,ht,hz⟩:=I.list hx;have hlen:=r.length;refine⟨"list",_,Oi.lookup,ht.isList.typeIs,?_⟩;refine Ox ht.isList hs pl pu .none (by simp) ?_ (by rw[Ky]<;>lia)
 rw[kj,<- hlen];refine⟨.ref s.heap.objs.size,_,I.laid (t':=s.toks) (o:=.lst (l_ xs lo hi)) (fun b ob q=>Kv _ q) (K2 _) ?_,rfl,q _ (I.aD.fresh (K2 _))⟩;exact⟨KG (i9 xs lo hi) hz,_,0,(r.drop (HT.bq xs.length 0 lo)).take (HT.bq xs.length xs.length hi-HT.bq xs.length 0 lo),K7 _ rfl⟩
noncomputable def dz:V->Bool
 |.aM=>true
 |.bl _=>true
 |.int _=>true
 |.str _=>true
 |_=>false
noncomputable def uP:V->V->Bool
 |.aM,.aM=>true
 |.bl a,.bl b=>a == b
 |.bl a,.int b=>(if a then 1 else 0) == b
 |.int a,.bl b=>a ==(if b then 1 else 0)
 |.int a,.int b=>a == b
 |.str a,.str b=>a == b
 |_,_=>false
theorem pU{A:Around}{v:Value}(ry:RelV y u)(rx:RelV x v)(fy:dz y=true)(fx:dz x=true):SeqAt.EqAt A s u v (uP y x):=by
 cases y with
 |aM =>
  cases ry
  cases x with
  |aM=>cases rx;exact SeqAt.EqAt.same _
  |bl b=>cases rx;exact SeqAt.EqAt.none_bool b
  |int b=>obtain⟨t,rfl⟩:=rx;exact SeqAt.EqAt.none_int b t
  |str b=>obtain⟨t,rfl⟩:=rx;exact SeqAt.EqAt.none_str b t
  |_=>exact absurd (show false=true from fx) K5
 |bl a =>
  cases ry
  cases x with
  |aM=>cases rx;exact SeqAt.EqAt.bool_none a
  |bl b=>cases rx;exact SeqAt.EqAt.bool_bool a b
  |int b=>obtain⟨t,rfl⟩:=rx;exact SeqAt.EqAt.bool_int a b t
  |str b=>obtain⟨t,rfl⟩:=rx;exact SeqAt.EqAt.bool_str a b t
  |_=>exact absurd (show false=true from fx) K5
 |int a =>
  obtain⟨t',rfl⟩:=ry
  cases x with
  |aM=>cases rx;exact SeqAt.EqAt.int_none a t'
  |bl b=>cases rx;exact SeqAt.EqAt.int_bool a t' b
  |int b=>obtain⟨t,rfl⟩:=rx;exact NX a t' b t
  |str b=>obtain⟨t,rfl⟩:=rx;exact SeqAt.EqAt.int_str a t' b t
  |_=>exact absurd (show false=true from fx) K5
 |str a =>
  obtain⟨t',rfl⟩:=ry
  cases x with
  |aM=>cases rx;exact SeqAt.EqAt.str_none a t'
  |bl b=>cases rx;exact SeqAt.EqAt.str_bool a t' b
  |int b=>obtain⟨t,rfl⟩:=rx;exact SeqAt.EqAt.str_int a t' b t
  |str b=>obtain⟨t,rfl⟩:=rx;exact SeqAt.EqAt.str_str a t' b t
  |_=>exact absurd (show false=true from fx) K5
 |_=>exact absurd (show false=true from fy) K5
noncomputable def AE(x:V)(u:Value):Bool:=match u with
 |.none=>uP .aM x
 |.bool b=>uP (.bl b) x
 |.int i _=>uP (.int i) x
 |.str z _=>uP (.str z) x
 |_=>false
theorem xQ(r:RelV y u)(f:dz y=true):AE x u=uP y x:=by
 cases y with
 |aM=>cases r;rfl
 |bl b=>cases r;rfl
 |int i=>obtain⟨t,rfl⟩:=r;rfl
 |str z=>obtain⟨t,rfl⟩:=r;rfl
 |_=>exact absurd (show false=true from f) K5
theorem lE:∀{xs:List V} {us:List Value},Vals xs us->xs.all dz=true->us.any (AE x)=xs.any fun y=>uP y x
 |_,_,.nil,_=>rfl
 |y::xs,u::us,.cons r t,f=>by
  rw[LW,L7] at f;rw[MI,MI,xQ r f.1,lE t f.2]
theorem jj{A:Around}{v:Value}(rx:RelV x v)(fx:dz x=true):∀{xs:List V} {us:List Value},Vals xs us->xs.all dz=true->∀ u∈us,SeqAt.EqAt A s u v (AE x u)
 |_,_,.nil,_=>fun u hu=>by cases hu
 |y::xs,u::us,.cons r t,f=>fun u' hu=>by
  rw[LW,L7] at f;rcases K4.mp hu with rfl|hu
  ·rw[xQ r f.1];exact pU r rx f.1 fx
  ·exact jj rx fx t f.2 u' hu
noncomputable def Iq(x:V)(xs:List V):Bool:=xs.any fun y=>uP y x
noncomputable def JX(K:Pq)(neg:Bool):R2:=fun x y H Q=>∃ p xs,y=.ref p/\(bz K H p xs\/aW K H p xs)/\dz x=true/\xs.all dz=true/\Q (.bl (if neg then !Iq x xs else Iq x xs)) H
theorem ud:cW X (compareOp .In) (JX X.K false):=by
 intro pins s σ H x y v u Q I rx ry h;obtain⟨p,xs,rfl,hq,fx,fs,q⟩:=h;cases ry;rcases hq with hq|hq
 ·obtain⟨its,r,pl,hz⟩:=I.list hq;refine SeqAt.in_listAt (AE x) pl.isList (fun w hw=>jj rx fx r fs w (by simpa using hw)) ⟨.bl _,H,I,rfl,?_⟩
  rw[show its.toArray.any (AE x)=its.any (AE x) by simp,lE r fs]
  exact q
 ·obtain⟨its,r,pl,hz⟩:=I.tuple hq;refine SeqAt.in_tupleAt (AE x) pl (fun w hw=>jj rx fx r fs w (by simpa using hw)) ⟨.bl _,H,I,rfl,?_⟩
  rw[show its.toArray.any (AE x)=its.any (AE x) by simp,lE r fs]
  exact q
theorem mw:aH X (.builtin "len") (fun xs H Q=>∃ p ys,xs=[.ref p]/\(bz X.K H p ys\/aW X.K H p ys)/\Q (.int ys.length) H):=by
 intro pins s σ H xs us Q I r h;obtain⟨p,ys,rfl,hq,q⟩:=h;obtain⟨u,rfl,rx⟩:=vals1 r;cases rx;have hn:=fb;rcases hq with hq|hq
 ·obtain⟨its,r',pl,hz⟩:=I.list hq;have hlen:=r'.length;exact Calls.call_len_list pl.isList (by simp only[Ky]<;>lia) ⟨.int ys.length,H,I.tok _,⟨s.toks+1,by rw[Ky,hlen]⟩,q⟩
 ·obtain⟨its,r',pl,hz⟩:=I.tuple hq;have hlen:=r'.length;exact len_tuple pl (by simp only[Ky]<;>lia) ⟨.int ys.length,H,I.tok _,⟨s.toks+1,by rw[Ky,hlen]⟩,q⟩
theorem lX:aH X (.builtin "len") (fun xs H Q=>∃ z,xs=[.str z]/\z.length<=sizeLine/\Q (.int z.length) H):=by
 intro pins s σ H xs us Q I r h;obtain⟨z,rfl,hz,q⟩:=h;obtain⟨u,rfl,t,rfl⟩:=vals1 r;have hn:=fb;exact len_str (by lia) ⟨.int z.length,H,I.tok _,⟨_,rfl⟩,q⟩
theorem aH.or{f:Value}{r r':List V->Hp->VK->Prop}(h:aH X f r)(h':aH X f r'):aH X f (fun xs H Q=>r xs H Q\/r' xs H Q):=by
 intro pins s σ H xs us Q I rs q;rcases q with q|q
 ·exact h pins s σ H xs us Q I rs q
 ·exact h' pins s σ H xs us Q I rs q
theorem lU:aH X (.type "list") (fun xs H Q=>∃ p ys,xs=[.ref p]/\(bz X.K H p ys\/aW X.K H p ys)/\∀ l,H l=none->Q (.ref l) (upd H l (.lst ys))):=by
 intro pins s σ H xs us Q I r h;obtain⟨p,ys,rfl,hq,q⟩:=h;obtain⟨u,rfl,rx⟩:=vals1 r;cases rx;have fin:∀(its:List Value),Vals ys its->ys.length<=sizeLine->∀(h':Heap) (c':Nat),(∀ b o',s.heap.get? b=some o'->h'.get? b=some o') ->
   h'.get? s.heap.objs.size=some {cls:=.type "list",dict:=none,data:=.seq its.toArray c',slots:=#[]}->EP X pins σ Q (.ref s.heap.objs.size) {s with heap:=h'}:=fun its r' hz h' c' kp e =>
  ⟨.ref s.heap.objs.size,_,I.laid (t':=s.toks) kp (K2 _) (show aP X.prog X.w _ h' _ (.lst ys) from⟨hz,its,c',r',e⟩),rfl,q _ (I.aD.fresh (K2 _))⟩
 rcases hq with hq|hq
 ·obtain⟨its,r',pl,hz⟩:=I.list hq;have hlen:=r'.length;obtain⟨o,ho,hc,n,hd⟩:=pl.isList;exact call_list_seq p (.inl rfl) ho hc hd (fun h' c' kp e=>fin its r' hz h' c' kp e) (by simp only[Ky]<;>lia)
 ·obtain⟨its,r',pl,hz⟩:=I.tuple hq;have hlen:=r'.length;obtain⟨o,ho,hc,n,hd⟩:=pl;exact call_list_seq p (.inr rfl) ho hc hd (fun h' c' kp e=>fin its r' hz h' c' kp e) (by simp only[Ky]<;>lia)
theorem cQ:aH X (.type "tuple") (fun xs H Q=>∃ p ys,xs=[.ref p]/\((bz X.K H p ys/\∀ l,H l=none->Q (.ref l) (upd H l (.tup ys)))\/(aW X.K H p ys/\Q (.ref p) H))):=by
 intro pins s σ H xs us Q I r h;obtain⟨p,ys,rfl,h⟩:=h;obtain⟨u,rfl,rx⟩:=vals1 r;cases rx;rcases h with ⟨hq,q⟩|⟨hq,q⟩
 ·obtain⟨its,r',pl,hz⟩:=I.list hq;have hlen:=r'.length;refine call_tuple_list pl.isList (fun h' kp=>?_) (by simp only[Ky]<;>lia)
  have I1:Inv X pins σ H {s with heap:=h'}:=I.kept (t':=s.toks) kp
  have I2:Inv X pins σ (upd H h'.objs.size (.tup ys)) {s with heap:=h'.push {cls:=.type "tuple",data:=.seq its.toArray}}:=
   I1.laid (t':=s.toks) (fun b o e=>Kv _ e) (K2 _) (show aP X.prog X.w _ _ _ (.tup ys) from⟨hz,its,r',cX.new _ _⟩)
  exact⟨.ref h'.objs.size,_,I2,rfl,q _ (I1.aD.fresh (K2 _))⟩
 ·obtain⟨its,r',pl,hz⟩:=I.tuple hq;exact call_tuple_same pl ⟨.ref p,H,I,rfl,q⟩
noncomputable def Ih(K:Pq)(T:String)(x:V)(H:Hp):Prop:=match x with
 |.str _=>T="str"
 |.int _=>T="int"
 |.ref p=>(T="list"/\∃ xs,bz K H p xs)\/(T="tuple"/\∃ o,K.lookup p=some o/\o.cls=.type "tuple"/\o.dict=none) \/
   (T="dict"/\((∃ kvs,H p=some (.dK kvs))\/∃ kvs,H p=some (.dT kvs)))\/(T="set"/\∃ S n,H p=some (.set S n))
 |_=>False
theorem xB{T:String}{v:Value}(I:Inv X pins σ H s)(r:RelV x v)(ty:Ih X.K T x H):
  s.TypeIs v T/\∀ a,v=.ref a->∃ ob,s.heap.get? a=some ob/\ob.dict=none:=by
 cases x with
 |str z =>
  obtain⟨t,rfl⟩:=r
  cases (show T="str" from ty)
  exact⟨typeIs_str s z t,fun _ e=>nomatch e⟩
 |int i =>
  obtain⟨t,rfl⟩:=r
  cases (show T="int" from ty)
  exact⟨MK s i t,fun _ e=>nomatch e⟩
 |ref p =>
  cases r;rcases ty with ⟨rfl,xs,hq⟩|⟨rfl,o,hk,hc,hd⟩|⟨rfl,hk⟩|⟨rfl,S,n,hk⟩
  ·obtain⟨its,_,pl,_⟩:=I.list hq;refine⟨pl.isList.typeIs,fun a e=>?_⟩;cases e;obtain⟨o,n,e,c,hd,_⟩:=pl;exact⟨o,e,hd⟩
  ·refine⟨⟨o,I.gX p o hk,hc⟩,fun a e=>?_⟩;cases e;exact⟨o,I.gX _ o hk,hd⟩
  ·have z:∃ o,s.heap.get? p=some o/\o.ExactDict:=by
    rcases hk with ⟨kvs,hk⟩|⟨kvs,hk⟩
    ·obtain⟨_,_,_,_,o,_,_,e,ex,_⟩:=I.aD p _ hk;exact⟨o,e,ex⟩
    ·obtain⟨_,_,_,_,o,_,_,e,ex,_⟩:=I.aD p _ hk;exact⟨o,e,ex⟩
   obtain⟨o,e,ex⟩:=z;refine⟨⟨o,e,ex.1⟩,fun a e2=>?_⟩;cases e2;exact⟨o,e,ex.2.1⟩
  ·obtain⟨o,_,_,_,e,ex,_⟩:=I.aD p _ hk;refine⟨⟨o,e,ex.1⟩,fun a e2=>?_⟩;cases e2;exact⟨o,e,ex.2.1⟩
 |_=>exact False.elim ty
noncomputable def JH(K:Pq)(T:String)(r:V->List V->Hp->VK->Prop)(to:TE):TE:=fun σ H Q=>to σ H fun x H1=>Ih K T x H1/\r x [] H1 Q
noncomputable def Fh(K:Pq)(T:String)(r:V->List V->Hp->VK->Prop)(to:TE)(t:TA):TE:=fun σ H Q=>to σ H fun x H1=>Ih K T x H1/\t σ H1 fun xs H2=>r x xs H2 Q
variable {o e:Expr} {es:List Expr} {to:TE} {t:TA} {name:Str} {apos cpos:Pos} {T id:String} {r:V->List V->Hp->VK->Prop}
theorem Em(pa:PlainAttrs T)(slot:Slot T name id)(hty:typeOf (.builtin id)=pure (.type "method_descriptor"))(hm:zz X id r)(ho:PE X o to)
  (hbase:autoParam (attributeBase o name X.env (eval o X.env)=eval o X.env) ℜ0) (hline:autoParam ((apos.endLine == cpos.line)=true) ℜ0):PE X (.Call (.Attribute o name apos) [] [] cpos) (JH X.K T r to):=by
 intro pins s σ H Q I h;refine wpAny_Call_method0_late hbase hline (bo (ho pins s σ H _ I h) fun v s1 ⟨x,H1,I1,r1,ty,q1⟩=>?_);obtain⟨h1,h2⟩:=xB I1 r1 ty;exact⟨T,id,pa,slot,hty,h1,h2,OI rfl (PySem.evalArgs_none (hm pins s1 σ H1 x [] v [] Q I1 r1 .nil q1))⟩
theorem Gm(pa:PlainAttrs T)(slot:Slot T name id)(hty:typeOf (.builtin id)=pure (.type "method_descriptor"))(hm:zz X id r)(ho:PE X o to)(ha:PA X (e::es) t)
  (hbase:autoParam (attributeBase o name X.env (eval o X.env)=eval o X.env) ℜ0)
  (hfew:autoParam (((backTo cpos (starEach (e::es) X.env)).all (fun x=>!x.1) && (backToKw cpos (keywordEach [] X.env)).all (fun x=>x.1.isSome)
   && decide ((e::es).length+([]:List Keyword).length+(if ([]:List Keyword).isEmpty then 0 else 1)<30))=true) ℜ0)
  (hline:autoParam ((apos.endLine == cpos.line)=true) ℜ0) (hs:autoParam (starEach (e::es) X.env=(false,eval e X.env)::starEach es X.env) ℜ0) (hplain:autoParam ((backTo cpos (starEach es X.env)).any (·.1)=false) ℜ0) :
  PE X (.Call (.Attribute o name apos) (e::es) [] cpos) (Fh X.K T r to t):=by
 intro pins s σ H Q I h;refine wpAny_Call_method_late hbase hfew hline rfl (bo (ho pins s σ H _ I h) fun v s1 ⟨x,H1,I1,r1,ty,q1⟩=>?_);obtain⟨h1,h2⟩:=xB I1 r1 ty;refine⟨T,id,pa,slot,hty,h1,h2,?_⟩;have hA:=ha cpos pins s1 σ H1 _ I1 q1;rw[hs] at hA ⊢;refine OI (by show (false || (backTo cpos (starEach es X.env)).any (·.1))=false;rw[hplain]<;>rfl) (Calls.evalArgs_plain ?_)
 exact bo hA fun us s2 ⟨vs,H2,I2,r2,q2⟩=>hm pins s2 σ H2 x vs v us Q I2 r1 r2 q2
/- xs.append(e),list.index on a module's tuple .. are zz facts of 06m -/
end
noncomputable def Fi(X:Cx)(id:String)(r:V->List V->Hp->VK->Prop):Prop:=
 ∀(pins:List (Addr×Obj)) (s:Shared) (σ:St) (H:Hp) (x:V) (xs:List V) (v:Value) (us:List Value) (Q:VK),Inv X pins σ H s->RelV x v->Vals xs us->r x xs H Q ->
  wpAny (model X.prog X.w) X.A (call (.builtin id) (v::us)) (EP X pins σ Q) X.xe s
theorem Vals.one:∀{x:V} {us:List Value},Vals [x] us->∃ u,us=[u]/\RelV x u
 |_,_,.cons r .nil=>⟨_,rfl,r⟩
theorem Vals.eraseIdx:∀{xs:List V} {us:List Value} (i:Nat),Vals xs us->Vals (xs.eraseIdx i) (us.eraseIdx i)
 |_,_,_,.nil=>.nil
 |_,_,0,.cons _ t=>t
 |_,_,i+1,.cons r t=>.cons r (Vals.eraseIdx i t)
theorem Vals.rep{xs:List V}(h:Vals xs us):∀ k:Nat,Vals (List.replicate k xs).flatten (List.replicate k us).flatten
 |0=>.nil
 |k+1=>by
  rw[Li,Li,LA,LA];exact Vals.append h (Vals.rep h k)
theorem lj:∀(l:List α) (i:Nat),(l.eraseIdx i).length<=l.length
 |[],_=>K2 _
 |_::_,0=>Ly _
 |_::r,i+1=>Nat.succ_le_succ (lj r i)
theorem foldl_rep(its:List Value):∀(k:Nat) (acc:List Value),
  List.foldl (fun x1 x2=>x1++x2) acc.toArray (List.replicate k its.toArray)=(acc++(List.replicate k its).flatten).toArray
 |0,acc=>by simp
 |k+1,acc=>by
  have e:acc.toArray++its.toArray=(acc++its).toArray:=by simp
  have e2:(acc++its)++(List.replicate k its).flatten=acc++(List.replicate (k+1) its).flatten:=by
   rw[Li,LA,KH]
  rw[<- e2,<- foldl_rep its k (acc++its),<- e,Li,O9]
section
variable {X:Cx} {pins:List (Addr×Obj)} {σ:St} {H:Hp} {s:Shared} {l b:Addr} {xs ys zs:List V}
theorem Inv.EA{f:Array Value->Array Value}{t':Nat}(I:Inv X pins σ H s)(hH:H l=some (.lst xs))
  (e:s.heap.get? l=some {cls:=.type "list",data:=.seq its.toArray n}) (hf:f its.toArray=its'.toArray) (hv:Vals ys its') (hz:ys.length<=sizeLine) :
  Inv X pins σ (upd H l (.lst ys)) {s with heap:=s.heap.update l (Obj.mapSeq f),toks:=t'}:=by
 have q:=PySem.IsL.update e f;rw[hf] at q;refine I.write (x:=l) (e:=l) (by rw[hH];exact trivial) (.inl rfl) (fun b' u hb hu=>(OH s.heap (Obj.mapSeq f) (Ne.symm hb)).trans hu) ⟨_,q⟩ ?_
 exact⟨hz,its',_,hv,q⟩
theorem Inv.CS{t':Nat}(I:Inv X pins σ H s)(hv:Vals ys its)(hz:ys.length<=sizeLine):
  Inv X pins σ (upd H s.heap.objs.size (.lst ys)) {s with heap:=s.heap.push {cls:=.type "list",data:=.seq its.toArray},toks:=t'}:=
 I.laid (fun _ _ q=>Kv _ q) (K2 _) ⟨hz,its,0,hv,K7 _ rfl⟩
theorem Inv.fresh(I:Inv X pins σ H s):H s.heap.objs.size=none:=I.aD.fresh (K2 _)
theorem Inv.ki(I:Inv X pins σ H s)(hH:H l=some (.lst xs)):xs.length<=sizeLine/\∃(its:List Value) (n:Nat),Vals xs its/\xs.length=its.length/\s.heap.get? l=some {cls:=.type "list",data:=.seq its.toArray n}:=by
 obtain⟨z,its,n,r,e⟩:=I.aD l _ hH;exact⟨z,its,n,r,r.length,e⟩
theorem wU(h:n<=sizeLine):Builtin.List.listTooLong n=false:=by
 unfold Builtin.List.listTooLong;exact KO (by lia)
end
section
variable {X:Cx}
noncomputable def si:V->List V->Hp->VK->Prop:=fun x vs H Q=>∃ l xs y,x=.ref l/\vs=[y]/\H l=some (.lst xs)/\xs.length<sizeLine/\Q .aM (upd H l (.lst (xs++[y])))
theorem fD:Fi X "list.append" si:=by
 intro pins s σ H x vs v us Q I rx rv h;obtain⟨l,xs,y,rfl,rfl,hH,hz,q⟩:=h;cases rx;obtain⟨u,rfl,ru⟩:=rv.one;obtain⟨z,its,n,r,hl,e⟩:=I.ki hH;refine LF F.slot_list_append ⟨_,e,rfl⟩ F.entry_list_append (F.args_list_append_2 _ _) (PySem.list_append l its.toArray n u (by rw[Ky];lia)) ⟨e,?_⟩
 refine⟨.aM,_,I.EA (its':=its++[u]) hH e (by simp) (r.append (.cons ru .nil)) ?_,rfl,q⟩
 rw[K0,LZ];lia
noncomputable def ym:V->List V->Hp->VK->Prop:=fun x vs H Q=>∃ l xs i k y,x=.ref l/\vs=[.int i]/\H l=some (.lst xs)/\-(2^63)<=i/\i<2^63/\seqIndex? i xs.length=some k/\xs[k]?=some y/\Q y (upd H l (.lst (xs.eraseIdx k)))
theorem vL:Fi X "list.pop" ym:=by
 intro pins s σ H x vs v us Q I rx rv h;obtain⟨l,xs,i,k,y,rfl,rfl,hH,h1,h2,hk,hy,q⟩:=h;cases rx;obtain⟨u,rfl,ru⟩:=rv.one;obtain⟨t,rfl⟩:=ru;obtain⟨z,its,n,r,hl,e⟩:=I.ki hH;obtain⟨w,hw,rw'⟩:=r.get hy;refine LF F.slot_list_pop ⟨_,e,rfl⟩ F.entry_list_pop (F.args_list_pop_2 _ _)
  (MeetsSeq.list_pop_at l its.toArray n i t k w (fitsIndex_both h1 h2) (by rw[Ky,<- hl];exact hk) (by rw[<- KW];exact hw) (by rw[Ky];lia)) ⟨e,?_⟩
 refine⟨y,_,I.EA (its':=its.eraseIdx k) hH e ?_ (r.eraseIdx k) ?_,rw',q⟩
 ·show its.toArray.eraseIdxIfInBounds k=(its.eraseIdx k).toArray;rw[List.eraseIdxIfInBounds_toArray]
 ·have:=lj xs k;lia
noncomputable def FQ:R2:=fun x y H Q=>∃ l b xs zs,x=.ref l/\y=.ref b/\H l=some (.lst xs)/\H b=some (.lst zs)/\xs.length+zs.length<=sizeLine/\∀ p,H p=none->Q (.ref p) (upd H p (.lst (xs++zs)))
theorem xC:cW X (binaryOp .Add) FQ:=by
 intro pins s σ H x y v u Q I rx ry h;obtain⟨l,b,xs,zs,rfl,rfl,hH,hB,hz,q⟩:=h;cases rx;cases ry;obtain⟨z,its,n,r,hl,e⟩:=I.ki hH;obtain⟨z2,its2,n2,r2,hl2,e2⟩:=I.ki hB;refine PySem.P.add_list e e2 ?_ (by rw[Ky,Ky];lia)
 have ea:its.toArray++its2.toArray=(its++its2).toArray:=by simp
 rw[ea];exact⟨.ref _,_,I.CS (t':=s.toks) (r.append r2) (by rw[K0];lia),rfl,q _ I.fresh⟩
noncomputable def FW:R2:=fun x y H Q=>∃ l k xs,x=.ref l/\y=.int k/\H l=some (.lst xs)/\-(2^63)<=k/\k<2^63/\xs.length*k.toNat<=sizeLine /\
 ∀ p,H p=none->Q (.ref p) (upd H p (.lst (List.replicate k.toNat xs).flatten))
theorem len_rep(xs:List α)(k:Nat):(List.replicate k xs).flatten.length=k*xs.length:=by
 induction k with
 |zero=>simp
 |succ k ih=>rw[Li,LA,K0,ih,Mq,Pg]
theorem DY:cW X (binaryOp .Mult) FW:=by
 intro pins s σ H x y v u Q I rx ry h;obtain⟨l,k,xs,rfl,rfl,hH,h1,h2,hz,q⟩:=h;cases rx;obtain⟨t,rfl⟩:=ry;obtain⟨z,its,n,r,hl,e⟩:=I.ki hH;have hlen:its.toArray.size*k.toNat<=sizeLine:=by rw[Ky,<- hl];exact hz
 have hcap:¬ its.toArray.size*k.toNat >(2^63-1) / 8:=by
  have:(sizeLine:Nat)<=(2^63-1) / 8:=by decide
  lia
 have hfit:¬ (!Builtin.List.listFitsIndex k)=true:=by
  rw[fitsIndex_both h1 h2];exact K5
 have hlong:¬ Builtin.List.listTooLong (its.toArray.size*k.toNat)=true:=by
  rw[wU hlen];exact K5
 have hnew:List.foldl (fun x1 x2=>x1++x2) #[] (List.replicate (if its.toArray.isEmpty=true then 0 else k.toNat) its.toArray)=(List.replicate k.toNat its).flatten.toArray:=by
  have f0:∀ m:Nat,List.foldl (fun x1 x2=>x1++x2) #[] (List.replicate m its.toArray)=(List.replicate m its).flatten.toArray:=fun m=>by
   have:=foldl_rep its m [];rw[OA] at this;exact this
  rw[f0]
  cases its with
  |nil=>simp
  |cons a r'=>rw[Kx (by simp)]
 refine Mx (T:="list") (U:="int") (by decide) ⟨_,e,rfl⟩ (fun s'=>MK s' k t) noFill_list_mul F.fills_int_mul F.slot_int_rmul repeat_list F.slot_int_index.lookup
  (LF F.slot_int_rmul (MK s k t) F.entry_int_rmul (F.args_int_rmul_2 _ _) (int___rmul___int_list k t l its.toArray n)
   ⟨e,rfl,⟨_,e,rfl⟩,LF F.slot_list_mul ⟨_,e,rfl⟩ F.entry_list_mul (F.args_list_mul_2 _ _) (AutoListH.list___mul___list_int_3 l its.toArray n k t hfit hcap hlong) ⟨e,?_⟩⟩)
 rw[hnew];exact⟨.ref _,_,I.CS (t':=s.toks) (r.rep k.toNat) (by rw[len_rep,Nf];exact hz),rfl,q _ I.fresh⟩
end
section
variable {κ:Type} [DecidableEq κ]
noncomputable def gr(kvs:List (κ×V))(k:κ):Option V:=(kvs.find? fun kv=>decide (kv.1=k)).map (·.2)
noncomputable def putK(kvs:List (κ×V))(k:κ)(v:V):List (κ×V):=
 if (kvs.any fun kv=>decide (kv.1=k))=true then kvs.map (fun kv=>if kv.1=k then (kv.1,v) else kv) else kvs++[(k,v)]
theorem jh{p:κ×V}{r:List (κ×V)}{k:κ}(e:p.1=k):gr (p::r) k=some p.2:=by simp[gr,ML,e]
theorem jm{p:κ×V}{r:List (κ×V)}{k:κ}(e:¬ p.1=k):gr (p::r) k=gr r k:=by simp[gr,ML,e]
theorem gE(k:κ):∀ kvs:List (κ×V),(kvs.any fun kv=>decide (kv.1=k))=(gr kvs k).isSome
 |[]=>rfl
 |p::r=>by
  rw[MI];by_cases e:p.1=k
  ·simp only[jh e,L4 e,Bool.true_or,Option.isSome_some]
  ·rw[jm e,KO e,Bool.false_or];exact gE k r
theorem e_(kvs:List (κ×V))(k:κ)(v:V):(putK kvs k v).length<=kvs.length+1:=by
 unfold putK;split
 ·rw[K3];lia
 ·rw[K0,K6,Lf];lia
theorem v8{kvs:List (κ×V)}{k:κ}(v:V)(h:gr kvs k=none):putK kvs k v=kvs++[(k,v)]:=by
 unfold putK;rw[gE,h];exact Kx (by decide)
theorem fS.tS{u:Option Value}(r:fS o u):o.isSome=u.isSome:=by
 cases o with
 |none=>cases u with
  |none=>rfl
  |some _=>exact (show False from r).elim
 |some _=>cases u with
  |none=>exact (show False from r).elim
  |some _=>rfl
theorem KV.val{kvs:List (κ×V)}{vs:List (κ×Value)}(r:KV kvs vs)(k:κ):fS (gr kvs k) (valueAt vs k):=by
 unfold KV at r
 induction r with
 |nil=>exact True.intro
 |@cons p q ps qs h t ih =>
  obtain⟨h1,h2⟩:=h;by_cases e:p.1=k
  ·have e':q.1=k:=h1.symm.trans e;have b:valueAt (q::qs) k=some q.2:=by simp[valueAt,ML,e']
   rw[jh e,b];exact h2
  ·have e':¬ q.1=k:=fun z=>e (h1.trans z);have b:valueAt (q::qs) k=valueAt qs k:=by simp[valueAt,ML,e']
   rw[jm e,b];exact ih
theorem KV.any{kvs:List (κ×V)}{vs:List (κ×Value)}(r:KV kvs vs)(k:κ):(kvs.any fun kv=>decide (kv.1=k))=vs.any fun kv=>decide (kv.1=k):=by
 unfold KV at r
 induction r with
 |nil=>rfl
 |cons h t ih=>rw[MI,MI,ih,h.1]
theorem KV.CY{kvs:List (κ×V)}{vs:List (κ×Value)}(r:KV kvs vs)(k:κ)(ry:RelV y u):
  KV (kvs.map fun kv=>if kv.1=k then (kv.1,y) else kv) (vs.map fun kv=>if kv.1=k then (kv.1,u) else kv):=by
 unfold KV at r ⊢
 induction r with
 |nil=>exact .nil
 |@cons p q ps qs h t ih =>
  rw[KN,KN];refine .cons ?_ ih;obtain⟨h1,h2⟩:=h;by_cases e:p.1=k
  ·rw[Kz e,Kz (h1.symm.trans e)];exact⟨h1,ry⟩
  ·rw[Kx e,Kx (fun z=>e (h1.trans z))];exact⟨h1,h2⟩
theorem KV.put{kvs:List (κ×V)}{vs:List (κ×Value)}(r:KV kvs vs)(k:κ)(ry:RelV y u):KV (putK kvs k y) (stored vs k u):=by
 unfold putK stored;rw[r.any k];by_cases e:(vs.any fun kv=>decide (kv.1=k))=true
 ·rw[Kz e,Kz e];exact r.CY k ry
 ·rw[Kx e,Kx e];exact Paired.snoc r ⟨rfl,ry⟩
theorem KV.length{kvs:List (κ×V)}{vs:List (κ×Value)}(r:KV kvs vs):kvs.length=vs.length:=Paired.length r
end
theorem rY{k:Key}(r:RelV (kV k) u):(b7 P w).is k u=true:=by
 cases k with
 |inl i=>obtain⟨t,e⟩:=(show ∃ t,u=Value.int i t from r);subst e;exact ni P w i t
 |inr x=>obtain⟨t,e⟩:=(show ∃ t,u=Value.str x t from r);subst e;exact mN P w x t
theorem lg:∀{ks:List Key} {us:List Value},Vals (ks.map kV) us->ItemsAre (b7 P w) ks us
 |[],_,r=>by rw[Pe] at r;cases r;exact .nil
 |k::ks,_,r=>by
  rw[KN] at r
  cases r with
  |cons h t=>exact .cons (rY h) (lg t)
abbrev KT(H:Hp):List (List Key×V)->List (List Key×Addr×Value)->Prop:=Paired fun p q=>p.1=q.1/\H q.2.1=some (.tup (p.1.map kV))/\RelV p.2 q.2.2
theorem KT.val(r:KT H kvs xs)(k:List Key):fS (gr kvs k) ((atKey xs k).map (·.2)):=by
 induction r with
 |nil=>exact True.intro
 |@cons p q ps qs h t ih =>
  obtain⟨h1,_,h2⟩:=h;by_cases e:p.1=k
  ·have e':q.1=k:=h1.symm.trans e;have b:atKey (q::qs) k=some q.2:=by simp[atKey,ML,e']
   rw[jh e,b];exact h2
  ·have e':¬ q.1=k:=fun z=>e (h1.trans z);have b:atKey (q::qs) k=atKey qs k:=by simp[atKey,ML,e']
   rw[jm e,b];exact ih
theorem KT.CY(r:KT H kvs xs)(k:List Key)(ry:RelV y u):
  KT H (kvs.map fun kv=>if kv.1=k then (kv.1,y) else kv) (xs.map (putAt k u)):=by
 induction r with
 |nil=>exact .nil
 |@cons p q ps qs h t ih =>
  rw[KN,KN];refine .cons ?_ ih;obtain⟨h1,h2,h3⟩:=h;unfold putAt;by_cases e:p.1=k
  ·rw[Kz e,Kz (h1.symm.trans e)];exact⟨h1,h2,ry⟩
  ·rw[Kx e,Kx (fun z=>e (h1.trans z))];exact⟨h1,h2,h3⟩
theorem KT.put(r:KT H kvs xs)(k:List Key){b:Addr}(hb:H b=some (.tup (k.map kV)))(ry:RelV y u):
  KT H (putK kvs k y) (storedH xs k b u):=by
 have e:(kvs.any fun kv=>decide (kv.1=k))=(atKey xs k).isSome:=by
  rw[gE,(r.val k).tS,Option.isSome_map]
 unfold putK storedH;rw[e];by_cases q:(atKey xs k).isSome=true
 ·rw[Kz q,Kz q];exact r.CY k ry
 ·rw[Kx q,Kx q];exact Paired.snoc r ⟨rfl,hb,ry⟩
theorem KT.keeps(r:KT H kvs xs)(ht:∀ b ys,H b=some (.tup ys)->H' b=some (.tup ys)):KT H' kvs xs:=
 Paired.tO r fun _ _ z=>⟨z.1,ht _ _ z.2.1,z.2.2⟩
section
variable {P:Program} {w:World} {H:Hp} {h:Heap} {a:Addr}
theorem Cu{u:HO}(ok:gx P w H h)(e:Rd H a u):aP P w H h a u:=e.ok ok
theorem yL{kvs:List (Key×V)}(ok:gx P w H h)(e:Rd H a (.dK kvs)):kvs.length<=sizeLine/\(a == sysModules)=false/\∃ vs,KV kvs vs/\h.DictOf (b7 P w) a vs:=
 show aP P w H h a (.dK kvs) from Cu ok e
theorem Gh{kvs:List (Key×V)}(ok:gx P w H h)(e:H a=some (.dK kvs)):kvs.length<=sizeLine/\(a == sysModules)=false/\∃ vs,KV kvs vs/\h.DictOf (b7 P w) a vs:=yL ok (.inl e)
theorem pG{ks:List Key}(ok:gx P w H h)(e:H a=some (.tup (ks.map kV))):(tupleKind (b7 P w)).is h ks a:=by
 obtain⟨_,its,r,o,h1,h2,n,h3,_⟩:=(show aP P w H h a (.tup (ks.map kV)) from ok a _ e);exact⟨o,its.toArray,n,h1,h2,h3,by simpa using lg r⟩
theorem yU(ok:gx P w H h)(e:Rd H a (.dT kvs)):kvs.length<=sizeLine/\(a == sysModules)=false /\
  ∃ xs,KT H kvs xs/\h.DictOfH (tupleKind (b7 P w)) a xs:=by
 obtain⟨z,y,xs,r,o,es,ep,h1,h2,h3,h4,h5⟩:=(show aP P w H h a (.dT kvs) from Cu ok e);refine⟨z,y,xs,r,o,es,ep,h1,h2,h3,h4,fun x hx=>?_,h5⟩;have all:∀{l:List (List Key×V)} {m:List (List Key×Addr×Value)},KT H l m->∀ x∈m,(tupleKind (b7 P w)).is h x.1 x.2.1:=by
  intro l m q
  induction q with
  |nil=>intro x hx;exact nomatch hx
  |@cons p q ps qs hq t ih =>
   intro x hx;rcases K4.mp hx with e|hx
   ·subst e;exact pG ok (by rw[<- hq.1];exact hq.2.1)
   ·exact ih x hx
 exact all r x hx
theorem FR(ok:gx P w H h)(e:H a=some (.dT kvs)):kvs.length<=sizeLine/\(a == sysModules)=false /\
  ∃ xs,KT H kvs xs/\h.DictOfH (tupleKind (b7 P w)) a xs:=yU ok (.inl e)
end
noncomputable def va(H:Hp)(a:Addr)(y:V)(r:Option V):Prop:=
 (∃ kvs k,Rd H a (.dK kvs)/\y=kV k/\r=gr kvs k)\/∃ kvs k b,Rd H a (.dT kvs)/\y=.ref b/\H b=some (.tup (k.map kV))/\r=gr kvs k
noncomputable def EU(H:Hp)(a:Addr)(y v:V)(H':Hp):Prop:=
 (∃ kvs k,H a=some (.dK kvs)/\y=kV k/\kvs.length<sizeLine/\H'=upd H a (.dK (putK kvs k v))) \/
 ∃ kvs k b,H a=some (.dT kvs)/\y=.ref b/\H b=some (.tup (k.map kV))/\kvs.length<sizeLine/\H'=upd H a (.dT (putK kvs k v))
section
variable {X:Cx} {pins:List (Addr×Obj)} {σ:St} {H:Hp} {s:Shared} {a:Addr} {y v:V} {u r:Value} {o:Option V} {A:Around} {E:Value->Shared->Prop}
theorem Inv.big(I:Inv X pins σ H s):sysModules<s.heap.objs.size:=by
 have h:mainGlobals<s.heap.objs.size:=(I.mod.glob.keeps I.bk).lt;exact MT (by decide) h
theorem vb(hu:A.units+1<cLine)(I:Inv X pins σ H s)(g:va H a y (some v))(ry:RelV y u)(h:∀ w' s',Inv X pins σ H s'->RelV v w'->Q w' s'):
  wpAny (model X.prog X.w) A (getItem (.ref a) u) Q E s:=by
 rcases g with ⟨kvs,k,e,ey,l⟩|⟨kvs,k,b,e,ey,eb,l⟩
 ·subst ey;obtain⟨z,hd,vs,rel,dd⟩:=yL I.aD e;obtain⟨w',hw,rw'⟩:=fS.some_of (v:=v) (o:=valueAt vs k) (by rw[l];exact rel.val k)
  exact wpAny_getItem_of (rY ry) dd.mapOf hw (h w' _ (I.tok _) rw')
 ·subst ey
  cases (show u=Value.ref b from ry)
  obtain⟨z,hd,xs,rel,dd⟩:=yU I.aD e;obtain⟨w',hw,rw'⟩:=fS.some_of (v:=v) (o:=(atKey xs k).map (·.2)) (by rw[l];exact rel.val k)
  obtain⟨p,hp,hp2⟩:=OJ.mp hw;refine wpAny_getItem_heap (tupleKind_room_in1 hu) (pG I.aD eb) dd hp ?_;rw[hp2];exact h w' _ (I.tok _) rw'
theorem t6{h':Heap}{t':Nat}{ob:HO}(I:Inv X pins σ H s)(mu:GA (H a))(hs:Heap.SameBut a s.heap h')(he:∃ q,h'.get? a=some q)(new:aP X.prog X.w (upd H a ob) h' a ob):
  Inv X pins σ (upd H a ob) {s with heap:=h',toks:=t'}:=
 I.write (x:=a) (e:=a) mu (.inl rfl) (fun b q hb z=>(hs.2 b hb).trans z) he new
theorem wj{h':Heap}{kvs:List (Key×V)}{vs:List (Key×Value)}(z:kvs.length<=sizeLine)(hd:(a == sysModules)=false)(rel:KV kvs vs)(dd:h'.DictOf (b7 P w) a vs):
  aP P w H' h' a (.dK kvs):=⟨z,hd,vs,rel,dd⟩
theorem vh{Q:Unit->Shared->Prop}(hu:A.units+1<cLine)(I:Inv X pins σ H s)(g:EU H a y v H')(ry:RelV y u)(rv:RelV v r)(h:∀ s',Inv X pins σ H' s'->Q () s'):
  wpAny (model X.prog X.w) A (setItem (.ref a) u r) Q E s:=by
 rcases g with ⟨kvs,k,e,ey,l,eH⟩|⟨kvs,k,b,e,ey,eb,l,eH⟩
 ·subst ey eH;obtain⟨z,hd,vs,rel,dd⟩:=Gh I.aD e;have hz:vs.length<=sizeLine:=by rw[<- rel.length];exact z
  have hl:(putK kvs k v).length<=sizeLine:=by have:=e_ kvs k v;lia
  refine wpAny_setItem_pairs (hsz:=hz) (rY ry) dd fun h' dd' hs=>h _ ?_;have he:∃ q,h'.get? a=some q:=let ⟨q,_,_,hq,_⟩:=dd';⟨q,hq⟩
  exact t6 I (by rw[e];exact True.intro) hs he (wj hl hd (rel.put k rv) dd')
 ·subst ey eH
  cases (show u=Value.ref b from ry)
  obtain⟨z,hd,xs,rel,dd⟩:=FR I.aD e;have hz:xs.length<=sizeLine:=by rw[<- Paired.length rel];exact z
  have hl:(putK kvs k v).length<=sizeLine:=by have:=e_ kvs k v;lia
  refine wpAny_setItem_heap (hsz:=hz) (tupleKind_room_in1 hu) (pG I.aD eb) dd fun h' dd' hs=>h _ ?_;obtain⟨q,es,ep,hq,h2,h3,h4,_,h5⟩:=dd';refine t6 I (by rw[e];exact True.intro) hs ⟨q,hq⟩ ⟨hl,hd,_,(rel.put k eb rv).keeps fun c ys ec=>?_,q,es,ep,hq,h2,h3,h4,h5⟩
  rw[ab (Hh ec e (fun z=>nomatch z))];exact ec
end
noncomputable def wB(i:Expr):Prop:=∀ ov iv,subscripted i false ov iv=operate [ov,iv] (getItem ov iv)
theorem sf{prog:Program}{A:Around}{E:Value->Shared->Prop}{env:Env}{value slice:Expr}{pos:Pos}{T id:String}
  (hl:typeLookup (.type T) "__getitem__"=pure (some (.builtin id))) (hs:wB slice)
  (h:wpAny (model prog w) A (eval value env) (fun o s₁=>wpAny (model prog w) A (eval slice env) (fun i s₂=>s₂.TypeIs o T/\wpAny (model prog w) A (getItem o i) Q E s₂) E s₁) E s) :
  wpAny (model prog w) A (eval (.Subscript value slice pos) env) Q E s:=by
 refine Subscript_ (L5 h (fun o s₁ h₁=>L5 h₁ (fun i s₂ h₂=>?_) fun _ _ x=>x) fun _ _ x=>x);obtain⟨hT,h₂⟩:=h₂;unfold subscriptTail;refine Ku ?_;rw[getitemInPython_of_ne hT.not_modules];refine Ku (wpAny_specialOf hT hl ?_);have fin:wpAny (model prog w) A (subscripted slice false o i) (fun r s₃=>wpAny (model prog w) A (letTemporaryGo value o r >>= fun _=>pure r) Q E s₃) E s₂:=by
  rw[hs o i];exact wpAny_operating (L5 h₂ (fun r s₃ h₃=>Ku (wpAny_letTemporaryGo (K1 h₃))) fun _ _ x=>x)
 first
  |exact K1 (Ku fin)
  |exact Ku (K1 (Ku fin))
  |exact Ku fin
theorem nv{X:Cx}{a:Addr}(I:Inv X pins σ H s)(g:va H a y o):s.TypeIs (.ref a) "dict":=by
 rcases g with ⟨kvs,k,e,_,_⟩|⟨kvs,k,b,e,_,_,_⟩
 ·obtain⟨_,_,vs,_,dd⟩:=yL I.aD e;exact dd.typeIs
 ·obtain⟨_,_,xs,_,dd⟩:=yU I.aD e;exact dd.typeIs
noncomputable def oA(td ty:TE):TE:=fun σ H Q=>td σ H fun x H1=>ty σ H1 fun y H2=>∃ a v,x=.ref a/\va H2 a y (some v)/\Q v H2
noncomputable def mW(td ty tv:TE):TS:=fun D σ H=>tv σ H fun v H1=>td σ H1 fun x H2=>ty σ H2 fun y H3=>∃ a H4,x=.ref a/\EU H3 a y v H4/\D.nx σ H4
section
variable {X:Cx} {o i e value:Expr} {pos pos' tpos:Pos} {td ty tv:TE}
theorem Av(hu:X.A.units+1<cLine)(ho:PE X o td)(hi:PE X i ty)(hs:wB i):PE X (.Subscript o i pos) (oA td ty):=by
 intro pins s σ H Q I h;refine sf PySem.F.slot_dict_getitem.lookup hs (bo (ho pins s σ H _ I h) fun u s1 ⟨x,H1,I1,rx,q1⟩=>bo (hi pins s1 σ H1 _ I1 q1) fun iv s2 ⟨y,H2,I2,ry,a,v,ex,g,q2⟩=>?_);subst ex;obtain rfl:u=Value.ref a:=rx;exact⟨nv I2 g,vb hu I2 g ry fun w' s3 I3 rw'=>⟨v,H2,I3,rw',q2⟩⟩
theorem A9(hu:X.A.units+1<cLine)(ho:PE X o td)(hi:PE X i ty)(hv:PE X value tv)(hs:swapsWith value (some (.Subscript o i pos')) pos.line X.env=pure false):
  PS X (.Assign [.Subscript o i pos'] value pos) (mW td ty tv):=by
 intro pins s σ H D I h;refine wpAny_Assign_Subscript (bo (hv pins s σ H _ I h) fun r s1 ⟨v,H1,I1,rv,q1⟩=>bo (ho pins s1 σ H1 _ I1 q1) fun u s2 ⟨x,H2,I2,rx,q2⟩=>bo (hi pins s2 σ H2 _ I2 q2) fun iv s3 ⟨y,H3,I3,ry,a,H4,ex,g,q3⟩=>?_) hs;subst ex;obtain rfl:u=Value.ref a:=rx;exact vh hu I3 g ry rv fun s4 I4=>⟨σ,H4,I4,q3⟩
end
noncomputable def fj(kvs more:List (Key×V)):List (Key×V):=more.foldl (fun acc kv=>putK acc kv.1 kv.2) kvs
theorem KV.merge:∀{more:List (Key×V)} {rs:List (Key×Value)} {kvs:List (Key×V)} {vs:List (Key×Value)},KV more rs->KV kvs vs->KV (fj kvs more) (merged vs rs):=by
 intro more rs kvs vs r;unfold KV at r
 induction r generalizing kvs vs with
 |nil=>intro q;exact q
 |@cons p q ps qs h t ih =>
  intro r0;have e:KV (putK kvs p.1 p.2) (stored vs q.1 q.2):=by
   have:=r0.put p.1 h.2;rw[<- h.1];exact this
  exact ih e
theorem fX:∀(more kvs:List (Key×V)),(fj kvs more).length<=kvs.length+more.length
 |[],kvs=>by show kvs.length<=kvs.length+0;lia
 |p::r,kvs=>by
  have h1:=fX r (putK kvs p.1 p.2);have h2:=e_ kvs p.1 p.2;show (fj (putK kvs p.1 p.2) r).length<=_;rw[K6];lia
end L2
namespace Att
open PySem PySem.W PySem.Calls PyProof.Rows
variable{l:OpenLaw}
theorem iG{P:Params}{h:Heap}:∀(ns:List Int) (vs:List Value),WellAll P h vs (ns.map WData.int)->IntsAre vs ns:=by
 intro ns
 induction ns with
 |nil =>
  intro vs w;rw[List.map_nil] at w;cases w;exact .nil
 |cons n ns ih =>
  intro vs w;rw[List.map_cons] at w
  cases w with
  |cons a b =>
   cases a;exact .cons _ _ (ih _ b)
theorem u4{n:Nat}(hn:l.most=some n){P:Params}{h:Heap}{args:List WData}{vals:List Value}
  (hpre:l.row.toRowW.claim.pre args=true) (hwl:WellAll P h vals args) :
  ∃ a vs ns,vals=[Value.ref a]/\args=[WData.list (ns.map WData.int)]/\h.get? a=some {cls:=.type "list",data:=.seq vs.toArray}/\IntsAre vs ns/\ns.length<=n:=by
 have hsh:WShape.hasAll [] args [.list .int]=true:=(pre_splitW hpre).1;have hc:l.pre.holds [] {args:=args}=true:=(pre_splitW hpre).2;obtain⟨d,r,rfl,h1,h2⟩:=hasAllW_cons hsh;obtain rfl:=hasAllW_nil h2;obtain⟨xs,rfl,h3⟩:=hasW_list h1;obtain⟨ns,rfl⟩:=items_int h3;have hlen:ns.length<=n:=by
  unfold OpenLaw.pre at hc;have h4:(WTm.not (.lt (.lit (.int (n:Int))) (.len (.arg 0)))).holds [] {args:=[.list (ns.map .int)]}=true:=by
   have h4:=(holds_andW hc).1;rw[hn] at h4;exact h4
  have h5:=condW_of h4 (w_not (w_lt w_lit (w_len_list (w_arg rfl))));rw[List.length_map] at h5;refine Nat.le_of_not_lt fun q=>?_;have q':(n:Int)<((ns.length:Nat):Int):=by lia
  first
   | (rw[decide_eq_true q'] at h5;exact absurd h5 (by decide))
   | (simp at h5;lia)
 cases hwl with
 |cons w1 w2 =>
  cases w2
  cases w1 with
  |list ho hall=>exact⟨_,_,ns,rfl,rfl,ho,iG ns _ hall,hlen⟩
theorem vd(l:OpenLaw)(args:List WData):l.row.toRowW.claim.post args (.bool true) args=true:=
 postW_of (r:=l.row.toRowW) (X:=(true == true))
  (show WShape.has [] (.bool true) .bool=true by first|rfl|decide|simp[WShape.has,WShape.arms,WShape.armsAll])
  (show (WTm.eq .res (.lit (.bool true))).value [] {args:=args,res:=some (.bool true),after:=args}=some (.bool (true == true)) from w_eq_bool (w_res rfl) w_lit) rfl
theorem oE{n:Nat}{q:Program}{loose:List Str}{XP:(Str->Option Value)->Heap->Prop}{YP:World->Heap->Prop}{d:DefRec}
  (hn:l.most=some n) (hdf:d.params.defaults=[])
  (call:∀(w:World) (s₀ s₁:Shared) (mg mb:Str->Option Value) (fa:Addr) (o:Obj) (pm cd doc:Value) (a:Addr) (vs:List Value) (ns:List Int),
   Ground q loose [] XP w s₀ mg mb s₁.heap->YP w s₁.heap ->
   s₁.heap.get? fa=some o->o.data=.func (docDef d.name d.params d.body d.scope pm cd doc)->s₁.heap.CodeRec cd d.name->mg d.name=some (.ref fa) ->
   s₁.heap.get? a=some {cls:=.type "list",data:=.seq vs.toArray}->IntsAre vs ns->ns.length<=n->s₁.gens=#[] ->
   codeAny (model l.prog w) callerA (.call (.ref fa) ⟨[.ref a],[]⟩) (fun r s'=>r=.ok (.ret (.bool true))/\OldK s₁.heap s'.heap/\s'.os=s₁.os/\AllBare s'.gens) s₁) :
  WalkO q loose XP YP l.row.toRowW d [] (fun f vs=>PySem.call f vs):=by
 intro w s₀ s₁ mg mb G Y fa o pm cd doc dV kV ho hd hcd hD hmg hg args vals as hpre hlay hrd hwl hlo;obtain rfl:dV=.none:=Dflts.none hD hdf;obtain rfl:kV=.none:=Dflts.noKw hD;obtain⟨a,vs,ns,rfl,rfl,hobj,hints,hlen⟩:=u4 hn hpre hwl;refine enter_call (codeAny_mono (call w s₀ s₁ mg mb fa o pm cd doc a vs ns G Y ho (fd_plain hd) hcd hmg hobj hints hlen hg) fun r s' hq=>?_);obtain⟨rfl,h2,h3,h4⟩:=hq;exact⟨.inl ⟨.bool true,.bool true,[],rfl,fun _=>rfl,.bool true,vd l _,fun _=>⟨List.Pairwise.nil,fun _ hm=>(nomatch hm)⟩⟩,h2,h3,h4⟩
end Att
namespace L2
open PySem PySem.Spec PyProof.Rows
variable{P prog q:Program}{K:Pq}{N ON loose:List Str}{mb mg:Str->Option Value}{base h:Heap}{a b fa i1 i2 it l l1 l2 p z:Addr}{o:HO}{w:World}{i j k n:Nat}{fd:FuncData}{name qual x:Str}{sp:Sp}{ns:List Int}{X:Cx}{st:Stmt}{apos cpos pos tp:Pos}{H H' H1:Hp}{xs ys:List V}{osc scope:Scope}{env:Env}{cells:List (Str×Addr)}{s:Shared}{e elt iter tg:Expr}{es ifs:List Expr}{tc:TT}{te tl:TE}{pins:List (Addr×Obj)}{σ:St}{E Q:Value->Shared->Prop}{r:List V->Hp->VK->Prop}{ta:TA}{items:Array Value}{ex fp:List Addr}{α β:Type}{D:Ends}{hi lo:Option Expr}{ad:Nat->Addr}{md:List Bool}{P1 P2:Nat->Value->Prop}{S1 S2:Nat->Heap->Prop}
theorem kI:∀{vs:List Value} {ns:List Int},IntsAre vs ns->Vals (ns.map V.int) vs
 |_,_,.nil=>.nil
 |_,_,.cons n t h=>.cons ⟨t,rfl⟩ (kI h)
structure gL (q:Program) (K:Pq):Prop where
 nt:PySem.W.noTabs K=true
 nd:((bA K).map (·.2.1)).Nodup
 fd:∀ x∈d5,PySem.W.tabIn K x=none\/((recsOf q).find? (fun e=>e.name == x)).isSome=true
theorem gL.at{mean:ExcName->Option Value}(L:gL q K)(T:Top q loose mean mg mb h)(X:K.In h):∀ t∈bA K,PySem.W.CodeHd h t.1 t.2.1/\h.get? t.2.1=some (PySem.W.tabObj #[]):=fun t ht=>by
 unfold bA at ht;obtain⟨x,hx,e⟩:=Nd.mp ht;obtain⟨p,e1,e2⟩:=OJ.mp e;obtain⟨c,Pt⟩:=p;subst e2;rcases L.fd x hx with z|z
 ·rw[z] at e1;cases e1
 ·obtain⟨d,hd⟩:=Ow.mp z;exact PySem.W.tab_of T X hd e1
noncomputable def lJ:List (Addr×Addr×Str)->Addr->Option HO
 |[],_=>none
 |t::r,b=>if b=t.2.1 then some (.vX #[.str t.2.2 0]) else lJ r b
theorem fH:∀{l:List (Addr×Addr×Str)},lJ l b=some o->∃ t∈l,b=t.2.1/\o=.vX #[.str t.2.2 0]
 |t::r,e=>by
  unfold lJ at e;by_cases z:b=t.2.1
  ·rw[Kz z] at e;cases e;exact⟨t,.head _,z,rfl⟩
  ·rw[Kx z] at e;obtain⟨u,hu,q⟩:=fH e;exact⟨u,.tail _ hu,q⟩
theorem mY{t:Addr×Addr×Str}:∀{l:List (Addr×Addr×Str)},(l.map (·.2.1)).Nodup->t∈l->lJ l t.2.1=some (.vX #[.str t.2.2 0])
 |u::r,nd,m=>by
  obtain⟨n1,n2⟩:=Lv.mp nd;unfold lJ;rcases K4.mp m with rfl|m
  ·rw[Kz rfl]
  ·rw[Kx fun z=>n1 (Lm.mpr ⟨t,m,z⟩)];exact mY n2 m
theorem xV{CX:m_}{s₁:Shared}{vs:List Value}
  (KX:K.In s₁.heap) (hns:s₁.heap.Ns mainGlobals mg) (hb:s₁.heap.Ns builtinsNs mb) (hbb:∀ x:Str,x≠"__name__"->mb x=bootBuiltins x) (hlim:s₁.heap.NoLimit) (hbm:Dc mg s₁.heap)
  (hT:∀ t∈bA K,PySem.W.CodeHd s₁.heap t.1 t.2.1/\s₁.heap.get? t.2.1=some (PySem.W.tabObj #[])) (L:gL q K) (hg:s₁.gens=#[])
  (ha:s₁.heap.get? a=some {cls:=.type "list",data:=.seq vs.toArray}) (hi:IntsAre vs ns) (hl:ns.length<=sizeLine) (hr:ba k callerA)
  (F:∀ base:Heap,K.In base->base.Ns mainGlobals mg->bD P w K mg base CX k fa fd [x] sp) (hbind:∀(s:Shared) (u:Value),BindsTo s fd ⟨[u],[]⟩ [(x,u)])
  (hsp:∀ H:Hp,True->bz K H a (ns.map V.int)->sp [.ref a] H (fun v _=>v=.bl true) fun _ _ _=>False)
  (hCX:∀ H e s',CX [] H s₁ (fun _ _ _=>False) e s'->False) :
  codeAny (model P w) callerA (.call (.ref fa) ⟨[.ref a],[]⟩) (fun r s'=>r=.ok (.ret (.bool true))/\OldK s₁.heap s'.heap/\s'.os=s₁.os/\AllBare s'.gens) s₁:=by
 have rv:=kI hi;have lenV:=hi.length;have naT:∀ t∈bA K,t.2.1≠a:=fun t ht z=>by
  have e:=(hT t ht).2;rw[z,ha] at e;cases e
 let oS:Obj:={cls:=.type "list",data:=.seq vs.toArray}
 have core:∀ S:Option HO,(S=none\/S=some (.ib oS (.lst (ns.map V.int))))->(S≠none->K.lookup a=none)->bz K (fun b=>if b=a then S else lJ (bA K) b) a (ns.map V.int) ->
   codeAny (model P w) callerA (.call (.ref fa) ⟨[.ref a],[]⟩) (fun r s'=>r=.ok (.ret (.bool true))/\OldK s₁.heap s'.heap/\s'.os=s₁.os/\AllBare s'.gens) s₁:=by
  intro S hS hK hSq;generalize hH:(fun b=>if b=a then S else lJ (bA K) b)=H at hSq
  have hA:H a=S:=by rw[<- hH];exact Kz rfl
  have hB:∀ b,b≠a->H b=lJ (bA K) b:=fun b z=>by rw[<- hH];exact Kx z
  have free:∀{b:Addr} {o:Obj},s₁.heap.get? b=some o->o≠PySem.W.tabObj #[]->(b=a->S=none)->H b=none:=fun {b o} e hn hz=>by
   by_cases z:b=a
   ·rw[z,hA];exact hz z
   ·rw[hB b z]
    cases q:lJ (bA K) b with
    |none=>rfl
    |some u =>
     obtain⟨t,ht,e1,_⟩:=fH q;have e2:=(hT t ht).2;rw[<- e1,e] at e2;exact absurd (Option.some.inj e2) hn
  have nsK:∀{b:Addr} {m:Str->Option Value},s₁.heap.Ns b m->(jY s₁.heap H).Ns b m:=fun {b m} ⟨o,es,ep,e,d,r⟩=>⟨o,es,ep,gF e (free e (fun z=>by rw[z] at d;cases d) fun z=>by rw[z,ha] at e;cases e;cases d),d,r⟩
  have hKb:K.In (jY s₁.heap H):=fun b o e=>gF (KX b o e) (free (KX b o e) (fun z=>by
    have h2:=Ml.mp L.nt (b,o) (PySem.W.mem_of_lookupK e);subst z;exact absurd (show false=true from h2) K5) fun z=>by
    cases q:S with
    |none=>rfl
    |some u=>rw[z,hK (by rw[q];simp)] at e;cases e)
  have hcd:∀ t∈bA K,PySem.W.CodeHd (jY s₁.heap H) t.1 t.2.1:=fun t ht=>by
   obtain⟨o,us,fl,tf,fg,tg,oX,tx,tt,e1,e2,r⟩:=(hT t ht).1;exact⟨o,us,fl,tf,fg,tg,oX,tx,tt,gF e1 (free e1 (fun z=>by rw[z] at e2;cases e2) fun z=>by rw[z,ha] at e1;cases e1;exact absurd (Value.type.inj e2) (by decide)),e2,r⟩
  have hbm':Dc mg (jY s₁.heap H):=by
   obtain⟨bm,ob,b1,b2,b3,b4,b5⟩:=hbm;exact⟨bm,ob,b1,b2,gF b3 (free b3 (fun z=>by rw[z] at b4;cases b4) fun z=>by rw[z,ha] at b3;cases b3;exact absurd (Value.type.inj b4) (by decide)),b4,b5⟩
  have aD:gx P w H s₁.heap:=fun b u e=>by
   by_cases z:b=a
   ·rw[z,hA] at e;rcases hS with h0|h0
    ·rw[h0] at e;cases e
    ·rw[h0] at e;cases e;subst z;exact⟨ha,by rw[K3];exact hl,vs,_,rv,ha⟩
   ·rw[hB b z] at e;obtain⟨t,ht,e1,e2⟩:=fH e;subst e2;exact⟨#[],by rw[e1];exact (hT t ht).2,trivial,fun pos cv c=>by cases (show (none:Option Value)=some cv from c)⟩
  have hM:Mod K mg (jY s₁.heap H):=⟨hKb,nsK hns,⟨mb,nsK hb,hbb⟩,let ⟨mc,h1,h2⟩:=hlim;⟨mc,nsK h1,h2⟩,hcd,hbm'⟩
  have e0:qU P w K mg (jY s₁.heap H) callerA [] s₁ H:=⟨rfl,hM,fun b o e=>AJ e,Ov (u7 _ _),trivial,fun b hb=>absurd (show b∈([]:List Addr) from hb) (by simp),aD,.of_eq hg,fun t ht=>⟨#[],by
   rw[hB _ (naT t ht),mY L.nd ht,NY]⟩⟩
  refine Pd ((F _ hKb (nsK hns)).run callerA [] s₁ H ⟨[.ref a],[]⟩ [.ref a] [.ref a] _ _ hr e0 (hbind s₁ (.ref a)) (.cons rfl .nil) (hsp H trivial hSq)) fun r s' h=>?_
  cases r with
  |error e=>exact (hCX H e s' h).elim
  |ok fl =>
   cases fl with
   |next=>exact False.elim h
   |brk=>exact False.elim h
   |cont=>exact False.elim h
   |ret u =>
    obtain⟨v,H',os,bare,un,hok',r',qv⟩:=h;have q':v=.bl true:=qv;subst q';obtain rfl:u=Value.bool true:=r';have each:∀ b o,s₁.heap.get? b=some o->s'.heap.get? b=some o\/∃ c,PySem.W.CodeHd s₁.heap c b/\o=PySem.W.tabObj #[]/\∃ ps,s'.heap.get? b=some (PySem.W.tabObj ps):=fun b o e=>by
     cases qb:H b with
     |none=>exact .inl (un.keep b o e qb (by intro z;exact absurd (show b∈([]:List Addr) from z) (by simp)) (by simp))
     |some u =>
      by_cases z:b=a
      ·rw[z,hA] at qb;rcases hS with h0|h0
       ·rw[h0] at qb;cases qb
       ·have z2:=un.lK a oS _ (by rw[hA,h0])
        obtain⟨e2,_⟩:=hok' a _ z2;rw[z,ha] at e;cases e;exact .inl (by rw[z];exact e2)
      ·have qt:=qb;rw[hB b z] at qt;obtain⟨t,ht,e1,e2⟩:=fH qt;obtain⟨h1,h2⟩:=hT t ht;rw[<- e1] at h1 h2;rw[e] at h2;cases h2;subst e2;obtain⟨more,e3⟩:=un.jX b _ qb;obtain⟨qs,e4,_⟩:=hok' b _ e3;exact .inr ⟨_,h1,rfl,qs,e4⟩
    refine⟨rfl,⟨fun b o e=>?_,fun b o e=>?_⟩,os,bare⟩
    ·rcases each b o e with z|⟨c,hc,z,ps,hp⟩
     ·exact .inl z
     ·subst z;exact .inr (.inl ⟨(hc.tab e).isCodeTable,rfl,#[],ps,rfl,by rw[Array.empty_append];exact hp⟩)
    ·rcases each b o e with z|⟨c,hc,z,ps,hp⟩
     ·exact⟨o,z⟩
     ·exact⟨_,hp⟩
 cases hk:K.lookup a with
 |some o =>
  have e:=KX a o hk;rw[ha] at e;cases e;exact core none (.inl rfl) (fun z=>absurd rfl z) (.inr ⟨_,vs.toArray,_,hk,rfl,rfl,rfl,by rw[Ky,lenV];exact hl,by simpa using rv⟩)
 |none=>exact core (some (.ib oS (.lst (ns.map V.int)))) (.inr rfl) (fun _=>hk) (.inl (.inr ⟨oS,Kz rfl⟩))
theorem BB{l:PySem.W.OpenLaw}{XP:(Str->Option Value)->Heap->Prop}{YP:World->Heap->Prop}{d:DefRec}{K:Params->Pq}{CX:World->m_}{sp:World->Sp}
  (hn:l.most=some n) (hn2:n<=sizeLine) (hdf:d.params.defaults=[]) (hr:ba k callerA)
  (hY:∀(w:World) (h:Heap),YP w h->(K w.params).In h)
  (F:∀(w:World) (mg:Str->Option Value) (fa:Addr) (h:Heap),(K w.params).In h->h.Ns mainGlobals mg->mg d.name=some (.ref fa) ->
   ∃ fd:FuncData,(∀(s:Shared) (u:Value),BindsTo s fd ⟨[u],[]⟩ [(x,u)]) /\
    ∀ base:Heap,(K w.params).In base->base.Ns mainGlobals mg->bD l.prog w (K w.params) mg base (CX w) k fa fd [x] (sp w))
  (hsp:∀(w:World) (H:Hp) (a:Addr) (ns:List Int),ns.length<=n->True->bz (K w.params) H a (ns.map V.int)->sp w [.ref a] H (fun v _=>v=.bl true) fun _ _ _=>False)
  (hCX:∀(w:World) (H:Hp) (s:Shared) (e:Value) (s':Shared),CX w [] H s (fun _ _ _=>False) e s'->False) (hL:∀(w:World) (h:Heap),(K w.params).In h->gL q (K w.params)) :
  PySem.W.WalkO q loose XP YP l.row.toRowW d [] (fun f vs=>PySem.call f vs):=by
 refine Att.oE hn hdf fun w s₀ s₁ mg mb fa o pm cd doc a vs ns G Y ho hd hcd hmg hobj hints hlen hg=>?_;have KX:=hY w _ Y;obtain⟨fd,hb,hF⟩:=F w mg fa _ KX G.T.g hmg;have L:=hL w _ KX;exact xV KX G.T.g G.T.b G.T.builtins G.T.nolimit G.T.bmain (L.at G.T KX) L hg hobj hints (KG hlen hn2) hr hF hb (fun H hO hS=>hsp w H a ns hlen hO hS) fun H e s'=>hCX w H s₁ e s'
noncomputable def inClass(s:Stmt)(j:Nat):Stmt:=match s with
 |.ClassDef _ _ _ body _ _ _ _ _ _ _=>body.getD j (.Pass ⟨0,0,0,0⟩)
 |_=>.Pass ⟨0,0,0,0⟩
noncomputable def bt(s:Stmt):Arguments:=match s with
 |.FunctionDef _ a _ _ _ _ _ _ _ _=>a
 |_=>{posonlyargs:=[],args:=[],vararg:=none,kwonlyargs:=[],kw_defaults:=[],kwarg:=none,defaults:=[]}
noncomputable def aC(s:Stmt):List Stmt:=match s with
 |.FunctionDef _ _ b _ _ _ _ _ _ _=>b
 |_=>[]
noncomputable def aa(s:Stmt):Scope:=match s with
 |.FunctionDef _ _ _ _ _ _ sc _ _ _=>sc
 |_=>{kind:=.function,names:=[],isGenerator:=false,isCoroutine:=false}
abbrev aV:m_:=fun _ _ _ _ _ _=>False
abbrev E0:XK:=fun _ _ _=>False
theorem au:Passes aV X E0:=fun _ _ _ _ _ _ _ h=>h.elim
structure iM (K:Pq) (x qual:Str) (st:Stmt) (f:Addr) (fd:FuncData):Prop where
 ex:∃(oc:Value) (od:Option Addr) (kV doc pm:Value) (an:Option Addr) (cdv ct:Value) (osl:Array (Option Value)),
  fd=PySem.W.fnOf x qual (bt st) (aC st) (aa st) .none kV doc pm an cdv ct/\K.lookup f=some ⟨oc,od,.func fd,osl⟩/\PySem.W.codeIn K cdv qual=true
 kp:PySem.W.keepIn K (.ref f)=true
section
variable {P:Program} {w:World} {K:Pq} {mg:Str->Option Value} {base:Heap}
theorem iM.ok{f:Addr}{ps:List Str}(F:iM K x qual st f fd)(S:ar N ps (aa st))(len:∀ vs H Q E,sp vs H Q E->vs.length=ps.length)
  (hbody:∀(cdv:Value) (A:Around) (outer:List Env) (s:Shared) (H:Hp) (vs:List V) (Q:VK) (E:XK),ba k (A.deeper (envOfC qual (aa st) s.heap.objs.size f cdv))->sp vs H Q E ->
   ∃ t,pC (eE aV P w K mg base N qual (aa st) f cdv A outer s H E).mD (aC st) t/\t {nx:=fun _ H'=>Q .aM H',rt:=Q} (start N vs) H):bD P w K mg base aV (k+1) f fd ps sp:=by
 obtain⟨oc,od,kV,doc,pm,an,cdv,ct,osl,rfl,lk,hcd⟩:=F.ex;refine Cr lk hcd S len fun A outer s H vs Q E hr hsp=>?_;obtain⟨t,h,q⟩:=hbody cdv A outer s H vs Q E hr hsp;exact⟨t,h.mD,q⟩
theorem iM.binds{f:Addr}{ps:List Str}(F:iM K x qual st f fd)
  (h:∀(kV doc pm:Value) (an:Option Addr) (cdv ct:Value) (us:List Value),us.length=ps.length->bindArgs (PySem.W.fnOf x qual (bt st) (aC st) (aa st) .none kV doc pm an cdv ct) ⟨us,[]⟩=pure (ps.zip us)):Binds K fd ps []:=by
 obtain⟨oc,od,kV,doc,pm,an,cdv,ct,osl,rfl,lk,hcd⟩:=F.ex;exact .all (h kV doc pm an cdv ct)
theorem bM{f:Addr}{oc:Value}{od an:Option Addr}{osl:Array (Option Value)}{kV doc pm cdv ct:Value}(l:K.lookup f=some ⟨oc,od,.func (PySem.W.fnOf x qual (bt st) (aC st) (aa st) .none kV doc pm an cdv ct),osl⟩)
  (c:PySem.W.codeIn K cdv qual=true) (k:PySem.W.keepIn K (.ref f)=true):iM K x qual st f (PySem.W.fnOf x qual (bt st) (aC st) (aa st) .none kV doc pm an cdv ct):=⟨⟨oc,od,kV,doc,pm,an,cdv,ct,osl,rfl,l,c⟩,k⟩
end
theorem aR{A:Around}(hr:ba k A):A.units+1<cLine:=Lc (Nat.add_le_add_left (by decide:1<=64) _) hr.units
section
variable {X:Cx}
theorem pv(i:Nat)(hN:autoParam (X.N[i]?=some x) ℜ0)(hv:autoParam (Dm X.env.scope x) ℜ4)(hd:autoParam ((x ==("__debug__":Str))=false) ℜ1)
  (hcd:autoParam ((x ==("__classdict__":Str))=false) ℜ1):PE X (.Name x pos) (uH i):=E7 hN hv hd hcd
end
noncomputable def bQ(H H':Hp):Prop:=∀ b o,H b=some o->H' b=some o
theorem bQ.refl(H:Hp):bQ H H:=fun _ _ h=>h
theorem bQ.seq(e:bQ H H')(h:bz K H a xs):bz K H' a xs:=by
 rcases h with (h|⟨o,h⟩)|h
 ·exact .inl (.inl (e _ _ h))
 ·exact .inl (.inr ⟨o,e _ _ h⟩)
 ·exact .inr h
section
variable {κ:Type} [DecidableEq κ]
theorem Ak{kvs:List (κ×V)}{k:κ}{v:V}(h:gr kvs k=some v):k∈kvs.map (·.1):=by
 have q:(kvs.any fun kv=>decide (kv.1=k))=true:=by
  rw[gE,h]
  all_goals rfl
 obtain⟨p,hp,e⟩:=List.any_eq_true.mp q;exact Lm.mpr ⟨p,hp,Oj e⟩
end
noncomputable def dH(cells:List (Str×Addr)):List (Str×NameKind)->List (Str×Addr)->List (Str×Addr)
 |[],acc=>acc
 | (n,k)::r,acc=>if k=.free then dH cells r ((n,(cells.lookup n).getD 0)::acc) else dH cells r acc
theorem f_(h:∀ x∈scope.names,x.2=.free->∃ c,env.cells.lookup x.1=some c):closureFor scope env=pure (dH env.cells scope.names []):=by
 have all:∀(l:List (Str×NameKind)) (acc:List (Str×Addr)),(∀ x∈l,x.2=.free->∃ c,env.cells.lookup x.1=some c) ->
   (forIn l acc fun (x:Str×NameKind) (cs:List (Str×Addr))=>(match x with | (name,kind)=>if (kind == NameKind.free)=true then (do let c <- cellOf env name;pure (ForInStep.yield ((name,c)::cs))) else pure (ForInStep.yield cs):Sem (ForInStep (List (Str×Addr)))))=(pure (dH env.cells l acc):Sem (List (Str×Addr))):=by
  intro l
  induction l with
  |nil=>intro acc _;rfl
  |cons x r ih =>
   intro acc hl;obtain⟨n,k⟩:=x;rw[Nb];by_cases hk:k=.free
   ·subst hk;obtain⟨c,hc⟩:=hl (n,.free) KD rfl;have e:cellOf env n=pure c:=by unfold cellOf;rw[hc]
    simp only[Mm,Mg,e,dH,pure_bind];rw[ih _ fun y hy=>hl y (K9 _ hy),hc];rfl
   ·have hb:(k == NameKind.free)=false:=by simpa using hk
    simp only[hb,Lw,LY,dH,hk,pure_bind];exact ih _ fun y hy=>hl y (K9 _ hy)
 unfold closureFor;simp only[bind_pure];exact all scope.names [] h
theorem hG:∀{l:List (Str×NameKind)} {acc:List (Str×Addr)},(∀ x∈l,x.2=.free->∃ c,cells.lookup x.1=some c)->(∀ x c,acc.lookup x=some c->cells.lookup x=some c) ->
  ∀ x c,(dH cells l acc).lookup x=some c->cells.lookup x=some c
 |[],_,_,h,x,c,e=>h x c e
 | (n,k)::r,acc,hl,h,x,c,e=>by
  unfold dH at e;have hr:∀ y∈r,y.2=.free->∃ c,cells.lookup y.1=some c:=fun y hy=>hl y (K9 _ hy)
  split at e
  ·rename_i hk;refine hG hr (fun y d q=>?_) x c e;rw[LI] at q
   split at q
   ·rename_i hy;obtain⟨c',hc'⟩:=hl (n,k) KD hk;have hy':y=n:=by simpa using hy
    subst hy';simp only[] at hc';rw[hc'] at q ⊢;exact q
   ·exact h y d q
  ·exact hG hr h x c e
theorem hW:∀{l:List (Str×NameKind)} {acc:List (Str×Addr)},(∃ c,acc.lookup x=some c)->∃ c,(dH cells l acc).lookup x=some c
 |[],_,h=>h
 | (n,k)::r,acc,h=>by
  unfold dH;split
  ·refine hW ?_;rw[LI];split
   ·exact⟨_,rfl⟩
   ·exact h
  ·exact hW h
theorem fL:∀{l:List (Str×NameKind)} {acc:List (Str×Addr)},(x,NameKind.free)∈l->∃ c,(dH cells l acc).lookup x=some c
 |[],_,h=>by simp at h
 | (n,k)::r,acc,h=>by
  unfold dH;rcases K4.mp h with e|h
  ·cases e;rw[Kz rfl];exact hW ⟨(cells.lookup x).getD 0,by rw[LI];simp⟩
  ·split
   ·exact fL h
   ·exact fL h
noncomputable def aE(X:Cx)(scope:Scope)(N:List Str)(C:Addr)(s:Shared)(H:Hp)(fp:List Addr):Cx where
 prog:=X.prog
 w:=X.w
 K:=X.K
 mg:=X.mg
 base:=X.base
 A:=X.A
 N:=N
 s₀:=s
 H₀:=H
 env:=compEnvC scope (dH X.env.cells scope.names []) C X.env
 outer:=X.stack
 stack:=X.stack
 ex:=fp
 calm:=X.calm
 fn:=fun _=>false
 pn:=[]
 xe:=fun _ _=>False
structure bT (osc:Scope) (ON:List Str) (scope:Scope) (own N:List Str):Prop where
 kind:scope.kind=.function
 nd:N.Nodup
 len:N.length=own.length+ON.length
 j8:∀ y∈scope.names,y.2≠.cell
 loc:∀ y∈scope.names,y.2=.local->scope.names.lookup y.1=some .local
 free:∀ y∈scope.names,y.2=.free->osc.names.lookup y.1=some .cell\/osc.names.lookup y.1=some .free
 out:∀ p∈ON.zip (N.drop own.length),p.1=p.2\/scope.names.lookup p.2=none
 own:∀ x∈N.drop own.length,scope.names.lookup x≠some .local
theorem cw(x:Str)(hn:∀ y∈scope.names,y.2≠.cell):((relabel scope env).names.lookup x=some .local->scope.names.lookup x=some .local) /\
  ((relabel scope env).names.lookup x=some .cell\/(relabel scope env).names.lookup x=some .free->scope.names.lookup x=some .free):=by
 unfold relabel;simp only;revert hn;generalize scope.names=l;intro hn
 induction l with
 |nil=>simp
 |cons y r ih =>
  obtain⟨n,k⟩:=y;have ih:=ih fun y hy=>hn y (K9 _ hy);have hk:k≠.cell:=hn (n,k) KD;rw[KN];simp only;by_cases hc:(k == NameKind.free && env.scope.kind == ScopeKind.function && env.kindOf n == some NameKind.cell)=true
  ·rw[Kz hc,LI,LI];have hf:k=.free:=by
    simp only[L7] at hc
    simpa using hc.1.1
   split
   ·subst hf;simp
   ·exact ih
  ·rw[Kx hc,LI,LI];split
   ·constructor
    ·exact fun h=>h
    ·rintro (h|h)
     ·exact absurd (Option.some.inj h) hk
     ·exact h
   ·exact ih
noncomputable def Fs(X:Cx)(ifs:List Expr)(t:TT):Prop:=
 ∀(pins:List (Addr×Obj)) (s:Shared) (σ:St) (H:Hp) (Q:Bool->Hp->Prop),Inv X pins σ H s->t σ H Q ->
  wpAny (model X.prog X.w) X.A (forIn ifs true fun c r=>if r=true then do let ok <- isTrue c X.env (eval c X.env);pure (ForInStep.yield ok) else pure (ForInStep.yield r)) (TP X pins σ Q) X.xe s
noncomputable def kN:TT:=fun _ H Q=>Q true H
theorem BM:Fs X [] kN:=fun _ _ _ H _ I h=>wpAny_tests_nil ⟨H,I,h⟩
theorem A8{c:Expr}{t:TT}(h:PT X c t):Fs X [c] t:=fun pins s σ H Q I hw=>wpAny_tests_one (h pins s σ H Q I hw)
theorem m6{A:Around}{R:Result->Shared->Prop}{target:Expr}{it acc:Value}(I:Nat->Shared->Prop)
  (turn:∀ n s,I n s->wpAny (model prog w) A (pyNext it) (fun r s₁=>match r with
   |none=>R (.ok .next) s₁
   |some v=>wpAny (model prog w) A (letOwnedTupleGo target it v) (fun _ s₁'=>wpAny (model prog w) A (assign target env v) (fun _ s₂ =>
     wpAny (model prog w) A (forIn ifs true fun c r=>if r=true then do let ok <- isTrue c env (eval c env);pure (ForInStep.yield ok) else pure (ForInStep.yield r)) (fun ok s₃ =>
      if ok=true then wpAny (model prog w) A (eval elt env) (fun x s₄ =>
       wpAny (model prog w) A (call (.builtin "list.append") [acc,x]) (fun _ s₅=>∃ m,m<n/\I m s₅) (fun _ _=>False) s₄) (fun _ _=>False) s₃
      else ∃ m,m<n/\I m s₃) (fun _ _=>False) s₂) (fun _ _=>False) s₁') (fun _ _=>False) s₁) (fun _ _=>False) s)
  (n:Nat) (h:I n s):codeAny (model prog w) A (.compLoop (.ListComp elt [⟨target,iter,ifs,0⟩] scope pos) 0 it acc env) R s:=by
 refine codeAny_loop rfl I (fun n s hI=>?_) n h;show wpAny _ A ((compTurn (.ListComp elt [⟨target,iter,ifs,0⟩] scope pos) 0 it acc env).onRaise (fun x=>do noteFrame x env;theTreesLotGoes x)) _ _ s
 refine wpAny_noted ?_;rw[compTurn_list];refine Ku (Nt (Ku (L5 (turn n s hI) (fun r s₁ h₁=>?_) fun _ _ h'=>h'.elim)))
 cases r with
 |none=>exact K1 h₁
 |some v =>
  refine Ku (L5 h₁ (fun _ s₁' h₁'=>?_) fun _ _ h'=>h'.elim);refine Ku (L5 h₁' (fun _ s₂ h₂=>Ku (L5 h₂ (fun ok s₃ h₃=>?_) fun _ _ h'=>h'.elim)) fun _ _ h'=>h'.elim)
  cases ok with
  |false=>exact K1 ⟨rfl,h₃⟩
  |true =>
   exact Ku (Ku (L5 h₃ (fun x s₄ h₄=>Ku (L5 h₄ (fun _ s₅ h₅=>K1 (K1 ⟨rfl,h₅⟩)) fun _ _ h'=>h'.elim)) fun _ _ h'=>h'.elim))
noncomputable def j4(wi:TI)(k:Nat)(g:TG)(tc:TT)(te:TE):TE:=fun σ H Q=>wi σ H fun J H1=>∀ D,H1 D=none ->
 ∃ W:Nat->Nat->List V->St->Hp->Prop,(∃ m,W 0 m [] (List.replicate k none++σ) (upd H1 D (.lst [])))/\∀ i m ys σ' H',W i m ys σ' H'->H' D=some (.lst ys) /\
  ((J.stop i H'/\Q (.ref D) H')\/(J.go i H'/\ys.length<sizeLine/\∀ x H2,J.BZ i H' x H2->g x σ' H2 fun σ3 H3=>tc σ3 H3 fun b H4 =>
   if b=true then te σ3 H4 fun v H5=>H5 D=some (.lst ys)/\∃ m',m'<m/\W (i+1) m' (ys++[v]) σ3 (upd H5 D (.lst (ys++[v])))
   else ∃ m',m'<m/\W (i+1) m' ys σ3 H4))
theorem lq{own:List Str}{wi:TI}{g:TG}(S:bT osc ON scope own N)(hosc:X.env.scope=osc)(hON:X.N=ON)(hc:X.calm=true)(hi:PI X tg iter wi)
  (hg:∀ C s H fp,PG (aE X scope N C s H fp) tg g) (ht:∀ C s H fp,Fs (aE X scope N C s H fp) ifs tc) (he:∀ C s H fp,PE (aE X scope N C s H fp) elt te)
      {Q:VK} (I:Inv X pins σ H s) (h:j4 wi own.length g tc te σ H Q) {RR:Value->Addr->Result->Shared->Prop}
  (fin:∀(D C:Addr) (H':Hp) (s':Shared) (m:Str->Option Value),Inv X pins σ H' s'->Q (.ref D) H'->H' C=none->X.s₀.heap.objs.size<=C->C≠X.env.locals->(∀ x c,X.env.cells.lookup x=some c->c≠C)->(∀ p∈X.pn++pins,p.1≠C) ->
   s'.heap.Ns C m->RR (.ref D) C (.ok .next) s') :
  wpAny (model X.prog X.w) X.A (eval iter X.env) (fun x s₁=>wpAny (model X.prog X.w) X.A (pyIter x) (fun it s₂=>wpAny (model X.prog X.w) X.A (newList []) (fun acc s₃ =>
   wpAny (model X.prog X.w) X.A (newFunctionEnv scope X.env.globals (dH X.env.cells scope.names []) [] X.env.qual none .none (some X.env)) (fun cenv s₄ =>
    codeAny (model X.prog X.w) X.A (.compStart (.ListComp elt [⟨tg,iter,ifs,0⟩] scope pos) 0 it acc {cenv with scope:=relabel scope X.env}) (RR acc cenv.locals) s₄) X.xe s₃) X.xe s₂) X.xe s₁) X.xe s:=by
 refine bo (hi pins s σ H _ I h) fun v s1 h1=>bo h1 fun itv s2 h2=>?_;obtain⟨it,fp,tn,J,H2,e,I2,T,vv,f2,q⟩:=h2;subst e;refine LN (wpAny_newFunctionEnv S.j8 (by intro y hy;simp at hy) (fun h₁ hns₁ hsb₁=>?_) S.kind)
 dsimp only at hns₁ hsb₁ ⊢;have I3:Inv X pins σ (upd H2 s2.heap.objs.size (.lst [])) {s2 with heap:=s2.heap.push {cls:=.type "list",data:=.seq ([]:List Value).toArray},toks:=s2.toks}:=I2.CS (t':=s2.toks) .nil (Nat.zero_le _)
 have hD2:H2 s2.heap.objs.size=none:=I2.fresh;obtain⟨W,⟨m0,w0⟩,turn⟩:=q _ hD2;generalize hs3:({s2 with heap:=s2.heap.push {cls:=.type "list",data:=.seq ([]:List Value).toArray},toks:=s2.toks}:Shared)=s3 at I3
 have eh3:s3.heap=s2.heap.push {cls:=.type "list",data:=.seq ([]:List Value).toArray}:=by rw[<- hs3]
 generalize hD:s2.heap.objs.size=D at I3 turn w0 hD2 ⊢;generalize hH3:upd H2 D (.lst [])=H3 at I3 w0;rw[<- eh3] at hns₁ hsb₁ ⊢;have hC3:H3 s3.heap.objs.size=none:=I3.fresh;have hsz3:s3.heap.objs.size=D+1:=by rw[eh3,L3,hD]
 have fp2:∀ b∈fp,b<s2.heap.objs.size:=fun b hb=>by
  obtain⟨o,e,_⟩:=T.obj _ _ vv b hb;exact KA e
 have f3:∀ b∈fp,ke X pins H3 b:=fun b hb=>by
  obtain⟨g0,g1⟩:=f2 b hb;refine⟨?_,g1⟩;rw[<- hH3,ab (by rw[<- hD];exact KJ (fp2 b hb))]
  exact g0
 have neC:∀ b o,s3.heap.get? b=some o->b≠s3.heap.objs.size:=fun b o e=>KJ (KA e);have old:∀ b o,s3.heap.get? b=some o->h₁.get? b=some o:=fun b o e=>hsb₁.extBut b o (neC b o e) (Kv _ e);have hk:=S.kind;have hfr:∀ y∈scope.names,y.2=.free->∃ c,X.env.cells.lookup y.1=some c:=fun y hy hf=>I3.ok.has _ (by subst hosc;exact S.free y hy hf)
 have sub:=hG (acc:=[]) hfr (by intro x c e;simp at e)
 have JB:∀ tk,Inv (aE X scope N s3.heap.objs.size s3 H3 fp) [] (List.replicate own.length none++σ) H3 {s3 with heap:=h₁,toks:=tk}:=fun tk=>by
  refine⟨⟨I3.ok.mod,S.kind,I3.ok.glob,I3.ok.blt,K2 _,fun x y c e1 e2=>I3.ok.inj x y c (sub x c e1) (sub y c e2),fun x hx=>?_,fun x c hf _=>(by cases hf),I3.ok.hd,I3.ok.frames,.inl rfl,fun b hb=>?_,I3.bs,KG I3.ok.zy I3.sz,fun b o e hb=>?_,fun b hb hf=>?_,I3.stack,I3.lT,I3.ok.tabs.un I3.base⟩,
   rfl,I3.bare,Un.kept old,⟨_,hns₁,fun i x v e1 e2 e3=>?_⟩,fun x c e=>?_,hC3,fun x c e=>I3.eS x c (sub x c e),fun p hp=>absurd (show p∈([]:List (Addr×Obj)) from hp) (by simp),I3.aD.kept old,?_⟩
  ·have q:=(cw (env:=X.env) x S.j8).2 hx;exact fL (PySem.mem_of_lookup q)
  ·have hb:b∈fp:=hb;obtain⟨_,g1,g2,g3,g4,g5⟩:=f3 b hb;refine⟨?_,fun x c e=>g4 x c (sub x c e)⟩;have:=fp2 b hb;show b≠s3.heap.objs.size;rw[hsz3,<- hD];exact KJ (Mv this)
  ·have hb:b∈fp:=hb;obtain⟨_,g1,g2,g3,g4,g5⟩:=f3 b hb;rcases g3 with g3|g3
   ·exact I3.ok.wQ b o e g3
   ·exact absurd (KU (KA e) (KG I3.ok.zy g3)) (L9 _)
  ·have hb:b∈fp:=hb;obtain⟨_,g1,g2,g3,g4,g5⟩:=f3 b hb;rcases K4.mp (I3.lQ b hf) with z|z
   ·exact g1 z
   ·exact g2 z
  ·have hi:own.length<=i:=by
    rcases LJ i own.length with hlt|hge
    ·rw[LD (by simpa using hlt),MG] at e2
     split at e2<;>cases e2
    ·exact hge
   rw[Lu (by simpa using hi),Lo] at e2
   have e1:N[own.length+(i-own.length)]?=some x:=by rw[NR hi];exact e1
   have e1d:(N.drop own.length)[i-own.length]?=some x:=by rw[L_];exact e1
   have nl:scope.names.lookup x≠some .local:=S.own x (L6 e1d);have vis:scope.names.lookup x=some .free:=by
    rcases e3 with z|z
    ·exact absurd ((cw (env:=X.env) x S.j8).1 z) nl
    ·exact (cw (env:=X.env) x S.j8).2 z
   have hlen:=I3.len;have hlt:i-own.length<X.N.length:=by
    rw[<- hlen];exact (K8.mp e2).1
   have hxN:X.N[i-own.length]?=some x:=by
    rw[Kw hlt];have mz:(X.N[i-own.length],x)∈ON.zip (N.drop own.length):=by
     rw[<- hON];refine L6 (i:=i-own.length) ?_;rw[List.getElem?_zip_eq_some];exact⟨Kw hlt,e1d⟩
    rcases S.out _ mz with z|z
    ·exact Le some z
    ·exact absurd z (by rw[vis];simp)
   have hko:X.env.scope.names.lookup x=some .cell\/X.env.scope.names.lookup x=some .free:=by subst hosc;exact S.free _ (PySem.mem_of_lookup vis) rfl
   obtain⟨m,hn,hl⟩:=I3.loc;have hv:Dm X.env.scope x:=by
    rcases hko with z|z
    ·exact .inr (.inl z)
    ·exact .inr (.inr z)
   obtain⟨u,ru,lk⟩:=hl _ x v hxN e2 hv;refine⟨u,ru,.inr ⟨?_,?_⟩⟩
   ·rcases e3 with z|z
    ·exact absurd ((cw (env:=X.env) x S.j8).1 z) nl
    ·exact z
   ·rcases lk with ⟨k,_⟩|⟨_,c,ec,hcell⟩
    ·exfalso
     have k':X.env.scope.names.lookup x=some .local:=k;rcases hko with z|z
     ·rw[k'] at z;cases z
     ·rw[k'] at z;cases z
    ·obtain⟨c',ec'⟩:=fL (cells:=X.env.cells) (acc:=[]) (PySem.mem_of_lookup vis);have:=sub x c' ec';rw[ec] at this;cases this;obtain⟨o,ho,hd⟩:=hcell;exact⟨c,ec',o,old c o ho,hd⟩
  ·obtain⟨v,o,ho,hd⟩:=I3.cell x c (sub x c e);exact⟨v,o,old c o ho,hd⟩
  ·show (List.replicate own.length none++σ).length=N.length;rw[S.len,K0,Lo,I3.len,hON]
 have stat:∀{H':Hp},(∀ b∈fp,H' b=none)->∀ b∈fp,ke (aE X scope N s3.heap.objs.size s3 H3 fp) [] H' b:=fun {H'} hn b hb=>by
  obtain⟨_,g1,g2,g3,g4,g5⟩:=f3 b hb;refine⟨hn b hb,?_,fun hf=>?_,.inl hb,fun x c e=>g4 x c (sub x c e),fun p hp=>absurd (show p∈([]:List (Addr×Obj)) from hp) (by simp)⟩
  ·have:=fp2 b hb;show b≠s3.heap.objs.size;rw[hsz3,<- hD];exact KJ (Mv this)
  ·rcases K4.mp (I3.lQ b hf) with z|z
   ·exact g1 z
   ·exact g2 z
 have st4:tn 0 h₁:=T.keep _ _ _ vv fun b hb o e=>old b o (by rw[eh3];exact Kv _ e)
 have loop:∀ s4:Shared,s4={s3 with heap:=h₁,toks:=s2.toks+([]:List (Str×Value)).length} ->
   codeAny (model X.prog X.w) X.A (.compLoop (.ListComp elt [⟨tg,iter,ifs,0⟩] scope pos) 0 (.ref it) (.ref D) (aE X scope N s3.heap.objs.size s3 H3 fp).env) (RR (.ref D) s3.heap.objs.size) s4:=by
  rintro s4 rfl;refine m6 (fun n s'=>∃ i ys σ' H',Inv (aE X scope N s3.heap.objs.size s3 H3 fp) [] σ' H' s'/\tn i s'.heap/\(∀ b∈fp,H' b=none)/\W i n ys σ' H') ?_ m0 ⟨0,[],_,H3,JB _,st4,fun b hb=>(f3 b hb).1,w0⟩;rintro n s5 ⟨i,ys,σ5,H5,I5,st5,fr5,w5⟩;obtain⟨hD5,ways⟩:=turn i n ys σ5 H5 w5;rcases ways with ⟨stop,qn⟩|⟨go,hys,step⟩
  ·refine bo (T.done (aE X scope N s3.heap.objs.size s3 H3 fp) rfl rfl rfl hc i [] s5 σ5 H5 _ I5 (stat fr5) st5 stop) fun r s6 ⟨hr,I6⟩=>?_;subst hr;obtain⟨m,hn,_⟩:=I6.loc;refine fin D _ H5 s6 m ?_ qn I6.free (KG I3.sz (K2 _)) ?_ (fun x c e z=>?_) (fun p hp z=>?_) hn
   ·refine I3.Gf (ch:=fp) I6.os I6.base I6.aD I6.bare fun b hb=>?_;obtain⟨_,g1,g2,g3,g4,g5⟩:=f3 b hb;exact⟨g3,g1,g4,g5⟩
   ·exact Mo I3.lt
   ·obtain⟨v,o,ho,_⟩:=I3.cell x c e;exact absurd (KA ho) (by rw[z];exact L9 _)
   ·exact absurd (KA (I3.pin p hp).1) (by rw[z];exact L9 _)
  ·refine bo (T.item (aE X scope N s3.heap.objs.size s3 H3 fp) rfl rfl rfl hc i [] s5 σ5 H5 _ I5 (stat fr5) st5 go) fun r s6 ⟨u,hr,h6⟩=>?_;subst hr;refine bo h6 fun _ s7 ⟨x,H7,I7,r7,y7,st7,fr7⟩=>?_;have I7':=I7.pinned (stat fr7) (T.obj _ _ st7);have back:∀{σ8:St} {H8:Hp} {s8:Shared},Inv (aE X scope N s3.heap.objs.size s3 H3 fp) ([]++j6 fp s7.heap) σ8 H8 s8->tn (i+1) s8.heap/\∀ b∈fp,H8 b=none:=fun {σ8 H8 s8} I8=>by
    refine⟨T.keep _ _ _ st7 fun b hb o e=>(I8.pin (b,o) (KQ _ (KQ _ (eA hb e)))).1,fun b hb=>?_⟩;obtain⟨o,e,d⟩:=T.obj _ _ st7 b hb;exact (I8.pin (b,o) (KQ _ (KQ _ (eA hb e)))).2.1
   refine bo (hg _ _ _ _ _ s7 σ5 H7 x u _ I7' r7 (step x H7 y7)) fun _ s8 ⟨σ8,H8,I8,q8⟩=>?_;refine bo (ht _ _ _ _ _ s8 σ8 H8 _ I8 q8) fun ok s9 ⟨H9,I9,q9⟩=>?_
   cases ok with
   |false =>
    rw[Kx (by simp)] at q9 ⊢
    obtain⟨m',hm,w9⟩:=q9;exact⟨m',hm,i+1,ys,σ8,H9,I9.fk,(back I9).1,(back I9).2,w9⟩
   |true =>
    rw[Kz rfl] at q9 ⊢;refine bo (he _ _ _ _ _ s9 σ8 H9 _ I9 q9) fun y s10 ⟨v10,H10,I10,r10,hD10,m',hm,w10⟩=>?_;refine bo (fD _ s10 σ8 H10 (.ref D) [v10] (.ref D) [y] (fun r H11=>r=.aM/\H11=upd H10 D (.lst (ys++[v10]))) I10 rfl (.cons r10 .nil) ⟨D,ys,v10,rfl,rfl,hD10,hys,rfl,rfl⟩) fun _ s11 ⟨_,H11,I11,_,_,e11⟩=>?_;subst e11;exact⟨m',hm,i+1,_,σ8,_,I11.fk,(back I11).1,(back I11).2,w10⟩
 have start:=codeAny_compStart_list (R:=RR (.ref D) s3.heap.objs.size) (loop _ rfl) (T.self X.A 0 _ _ _ st4 (loop _ rfl));subst hs3;exact start
theorem BE{own:List Str}{wi:TI}{g:TG}(S:bT osc ON scope own N)(hosc:X.env.scope=osc)(hON:X.N=ON)(hc:X.calm=true)(hi:PI X tg iter wi)
  (hg:∀ C s H fp,PG (aE X scope N C s H fp) tg g) (ht:∀ C s H fp,Fs (aE X scope N C s H fp) ifs tc) (he:∀ C s H fp,PE (aE X scope N C s H fp) elt te)
  (hs:autoParam (∀ x,foldedSetIterable iter X.env x=pure x) ℜ3) :
  PE X (.ListComp elt [⟨tg,iter,ifs,0⟩] scope pos) (j4 wi own.length g tc te):=by
 intro pins s σ H Q I h;have hfr:∀ y∈scope.names,y.2=.free->∃ c,X.env.cells.lookup y.1=some c:=fun y hy hf=>I.ok.has _ (by subst hosc;exact S.free y hy hf)
 rw[eval_ListComp];refine Oy (use:=none) rfl hs (f_ hfr) S.kind S.loc ?_;refine lq S hosc hON hc hi hg ht he I h (RR:=fun acc C=>compPost (model X.prog X.w) X.A X.xe none (EP X pins σ Q) acc C) ?_;intro D C H' s' m I' q h1 h2 h3 h4 h5 hn;exact⟨m,hn,fun h'' hs''=>⟨.ref D,H',I'.turned (t':=s'.toks) (fun b o hb e=>(hs''.2 b hb).trans e) h1 h3 (.inr h2) h4 h5,rfl,q⟩⟩
theorem qm{own:List Str}{spos py:Pos}{wi:TI}{g:TG}{y:Str}(hN:X.N.Nodup)(hj:X.N[j]?=some y)(hx:Loc X.env.scope y)(S:bT osc ON scope own N)(hosc:X.env.scope=osc)(hON:X.N=ON)(hc:X.calm=true)(hi:PI X tg iter wi)
  (hg:∀ C s H fp,PG (aE X scope N C s H fp) tg g) (ht:∀ C s H fp,Fs (aE X scope N C s H fp) ifs tc) (he:∀ C s H fp,PE (aE X scope N C s H fp) elt te)
  (hsw:autoParam (swapsWith (.ListComp elt [⟨tg,iter,ifs,0⟩] scope pos) (some (.Name y py)) spos.line X.env=pure true) ℜ0)
  (hf:autoParam (X.fn y=true\/X.env.scope.names.lookup y=some .local) ℜ2)
  (hs:autoParam (∀ x,foldedSetIterable iter X.env x=pure x) ℜ3) :
  PS X (.Assign [.Name y py] (.ListComp elt [⟨tg,iter,ifs,0⟩] scope pos) spos) (kh (j4 wi own.length g tc te) (bJ j)):=by
 intro pins s σ H Dn I h;have hfr:∀ y∈scope.names,y.2=.free->∃ c,X.env.cells.lookup y.1=some c:=fun y hy hf=>I.ok.has _ (by subst hosc;exact S.free y hy hf)
 rw[exec_Assign_Name_used _ _ _ _ hsw];refine Ku (Nt (Ku ?_));show wpAny _ X.A (do let _ <- comprehension (.ListComp elt [⟨tg,iter,ifs,0⟩] scope pos) scope X.env _ (newList []) false (eval iter X.env) (some (assign (.Name y py) X.env))) _ _ s
 refine Ku (L5 (Oy (use:=some (assign (.Name y py) X.env)) (Q:=fun _ s'=>SP X pins Dn .next s') rfl hs (f_ hfr) S.kind S.loc ?_) (fun _ s' hq=>K1 (K1 hq)) fun _ _ e=>e);refine lq S hosc hON hc hi hg ht he I h (RR:=fun acc C=>compPost (model X.prog X.w) X.A X.xe (some (assign (.Name y py) X.env)) (fun _ s'=>SP X pins Dn .next s') acc C) ?_;intro D C H' s' m I' q h1 h2 h3 h4 h5 hn;show wpAny _ X.A (assign (.Name y py) X.env (.ref D)) _ _ _;refine wpAny_assign_Name (lz I' hN hj hx (v:=.ref D) rfl (fun s'' I'' hsb=>?_) hf);obtain⟨a,sb,ha⟩:=hsb;have nC:C≠a:=by
  rcases ha with ha|ha
  ·rw[ha];exact h3
  ·exact (h4 y a ha).symm
 exact⟨m,hn.sameBut sb nC,fun h'' hs''=>⟨_,H',I''.turned (t':=s''.toks) (fun b o hb e=>(hs''.2 b hb).trans e) h1 h3 (.inr h2) h4 h5,q⟩⟩
noncomputable def cK(e:Expr):Bool:=match e with
 |.Starred ..=>false
 |_=>true
theorem cf(h:cK e=true):starEach (e::es) env=(false,eval e env)::starEach es env:=by
 cases e<;>first|rfl|cases h
theorem plain_any:∀{es:List Expr},es.all cK=true->(backTo pos (starEach es env)).any (·.1)=false
 |[],_=>rfl
 |e::es,h=>by
  rw[LW,L7] at h;rw[cf h.1];show (false || (backTo pos (starEach es env)).any (·.1))=false;rw[plain_any h.2];rfl
theorem plain_all:∀{es:List Expr},es.all cK=true->(backTo pos (starEach es env)).all (fun x=>!x.1)=true
 |[],_=>rfl
 |e::es,h=>by
  rw[LW,L7] at h;rw[cf h.1];show (true && (backTo pos (starEach es env)).all (fun x=>!x.1))=true;rw[plain_all h.2];rfl
theorem Ej(h:(e::es).all cK=true)(hl:(e::es).length<30):
  ((backTo cpos (starEach (e::es) env)).all (fun x=>!x.1) && (backToKw cpos (keywordEach [] env)).all (fun x=>x.1.isSome) && decide ((e::es).length+([]:List Keyword).length+(if ([]:List Keyword).isEmpty then 0 else 1)<30))=true:=by
 rw[plain_all h];have e2:(backToKw cpos (keywordEach [] env)).all (fun x=>x.1.isSome)=true:=rfl;rw[e2];have e3:(e::es).length+([]:List Keyword).length+(if ([]:List Keyword).isEmpty then 0 else 1)<30:=hl
 rw[L4 e3];rfl
section
variable {X:Cx} {e:Expr} {es:List Expr} {te:TE} {t:TA}
theorem Jq(ha:PE X e te)(hr:PA X es t)(h:autoParam (cK e=true) ℜ0):PA X (e::es) (fY te t):=sy ha hr (cf h)
theorem Gq{id:String}{p:Pos}(hc:aH X (.builtin id) r)(hg:Gl X x)(hm:X.mg x=none)(hv:bootBuiltins x=some (.builtin id))(ha:PA X (e::es) t)(h1:autoParam (cK e=true) ℜ0)(h2:autoParam (es.all cK=true) ℜ0)(hn:autoParam (x≠"__name__") ℜ1)(hdb:autoParam ((x ==("__debug__":Str))=false) ℜ1):
  PE X (.Call (.Name x p) (e::es) [] pos) (vf r t):=zk hc hg hm hv ha hn hdb (cf h1) (plain_any h2)
theorem Gp{T:String}{p:Pos}(hc:aH X (.type T) r)(hg:Gl X x)(hm:X.mg x=none)(hv:bootBuiltins x=some (.type T))(ha:PA X (e::es) t)(h1:autoParam (cK e=true) ℜ0)(h2:autoParam (es.all cK=true) ℜ0)(hn:autoParam (x≠"__name__") ℜ1)(hdb:autoParam ((x ==("__debug__":Str))=false) ℜ1):
  PE X (.Call (.Name x p) (e::es) [] pos) (vf r t):=tJ hc hg hm hv ha hn hdb (cf h1) (plain_any h2)
theorem Ex{o:Expr}{to:TE}{T id:String}{r:V->List V->Hp->VK->Prop}(pa:PlainAttrs T)(slot:Slot T name id)(hty:typeOf (.builtin id)=pure (.type "method_descriptor"))(hm:zz X id r)(ho:PE X o to)(ha:PA X (e::es) t)
  (hbase:attributeBase o name X.env (eval o X.env)=eval o X.env) (hline:(apos.endLine == cpos.line)=true) (h:(e::es).all cK=true) (hl:(e::es).length<30):PE X (.Call (.Attribute o name apos) (e::es) [] cpos) (Fh X.K T r to t):=by
 have h':=h;rw[LW,L7] at h';exact Gm pa slot hty hm ho ha hbase (Ej h hl) hline (cf h'.1) (plain_any h'.2)
theorem p7{a:Expr}{p:Pos}(hg:Gl X "range")(hm:X.mg "range"=none)(ha:PA X [a] ta)(h:autoParam (cK a=true) ℜ0):PI X tg (.Call (.Name "range" p) [a] [] pos) (yf ta):=uW hg hm ha (cf h)
theorem qT{a b:Expr}{p:Pos}(hg:Gl X "range")(hm:X.mg "range"=none)(ha:PA X [a,b] ta)(h:autoParam (cK a=true) ℜ0)(h2:autoParam (cK b=true) ℜ0):PI X tg (.Call (.Name "range" p) [a,b] [] pos) (xv ta):=u_ hg hm ha (by rw[cf h,cf h2];rfl) (cf h2)
end
structure HasFn (K:Pq) (mg:Str->Option Value) (x:Str) (st:Stmt) (ps:List Str):Prop where
 ex:∃(f:Addr) (fd:FuncData),iM K x x st f fd/\Binds K fd ps []/\mg x=some (.ref f)
structure aj (P:Program) (w:World) (K:Pq) (mg:Str->Option Value) (base:Heap) (CX:m_) (k:Nat) (x:Str) (ps:List Str) (sp:Sp):Prop where
 ex:∃(f:Addr) (fd:FuncData),mg x=some (.ref f)/\PySem.W.keepIn K (.ref f)=true/\Binds K fd ps []/\bD P w K mg base CX k f fd ps sp
section
variable {P:Program} {w:World} {K:Pq} {mg:Str->Option Value} {base:Heap}
theorem HasFn.ok{ps:List Str}(F:HasFn K mg x st ps)(S:ar N ps (aa st))(len:∀ vs H Q E,sp vs H Q E->vs.length=ps.length)
  (hbody:∀(f:Addr) (cdv:Value) (A:Around) (outer:List Env) (s:Shared) (H:Hp) (vs:List V) (Q:VK) (E:XK),ba k (A.deeper (envOfC x (aa st) s.heap.objs.size f cdv))->sp vs H Q E ->
   ∃ t,pC (eE aV P w K mg base N x (aa st) f cdv A outer s H E).mD (aC st) t/\t {nx:=fun _ H'=>Q .aM H',rt:=Q} (start N vs) H):aj P w K mg base aV (k+1) x ps sp:=by
 obtain⟨f,fd,F1,b,m⟩:=F.ex;exact⟨f,fd,m,F1.kp,b,F1.ok S len fun cdv A outer s H vs Q E hr h=>hbody f cdv A outer s H vs Q E hr h⟩
end
section
variable {X:Cx} {CX:m_} {k:Nat} {ps:List Str} {sp:Sp} {E:XK} {x:Str} {p pos:Pos} {e:Expr} {es:List Expr} {t:TA}
theorem Hy(F:aj X.prog X.w X.K X.mg X.base CX k x ps sp)(hr:ba k X.A)(hg:Gl X x)(hx:Passes CX X E)(ha:PA X (e::es) t)(h1:autoParam (cK e=true) ℜ0)(h2:autoParam (es.all cK=true) ℜ0)(hdb:autoParam ((x ==("__debug__":Str))=false) ℜ1):
  PE X (.Call (.Name x p) (e::es) [] pos) (j1 sp [] E t):=by
 obtain⟨f,fd,m,kp,b,G⟩:=F.ex;exact AO G hr hg m kp b .nil hx ha hdb (cf h1) (plain_any h2)
end
noncomputable def Er:Expr->Option V
 |.Constant (.int i) _ _=>some (.int i)
 |.Constant (.str x) _ _=>some (.str x)
 |.Constant (.bool b) _ _=>some (.bl b)
 |.Constant .none _ _=>some .aM
 |_=>none
noncomputable def kL:List Expr->Option (List V)
 |[]=>some []
 |e::es=>match Er e,kL es with
  |some v,some vs=>some (v::vs)
  |_,_=>none
noncomputable def tK(vs:List V):TA:=fun _ H Q=>Q vs H
theorem E2{v:V}(h:Er e=some v):PE X e (tC v)/\∀ es,starEach (e::es) X.env=(false,eval e X.env)::starEach es X.env:=by
 unfold Er at h
 split at h
 ·cases h;exact⟨jL,fun _=>rfl⟩
 ·cases h;exact⟨xP,fun _=>rfl⟩
 ·cases h;exact⟨yW,fun _=>rfl⟩
 ·cases h;exact⟨vy,fun _=>rfl⟩
 ·cases h
theorem kn{X:Cx}:∀{es:List Expr} {vs:List V},kL es=some vs->PA X es (tK vs)
 |[],vs,h=>by cases h;exact vK
 |e::es,vs,h=>by
  unfold kL at h
  split at h
  ·rename_i v ws e1 e2;cases h;have p:=E2 (X:=X) e1;exact sy (te:=tC v) (t:=tK ws) p.1 (kn e2) (p.2 es)
  ·cases h
noncomputable def sq(H:Hp)(p:Addr):Option (Bool×List V):=match H p with
 |some (.lst xs)=>some (true,xs)
 |some (.tup xs)=>some (false,xs)
 |some (.ib _ (.lst xs))=>some (true,xs)
 |some (.ib _ (.tup xs))=>some (false,xs)
 |_=>none
theorem iU(h:sq H p=some (true,xs)):bz K H p xs:=by
 unfold sq at h
 split at h
 ·rename_i e;cases h;exact .inl (.inl e)
 ·cases h
 ·rename_i e;cases h;exact .inl (.inr ⟨_,e⟩)
 ·cases h
 ·cases h
theorem gH(h:sq H p=some (false,xs)):aW K H p xs:=by
 unfold sq at h
 split at h
 ·cases h
 ·rename_i e;cases h;exact .inl (.inl e)
 ·cases h
 ·rename_i e;cases h;exact .inl (.inr ⟨_,e⟩)
 ·cases h
theorem dQ(h:H p=some (.lst xs)):sq H p=some (true,xs):=by unfold sq;rw[h]
theorem eI(h:H p=some (.tup xs)):sq H p=some (false,xs):=by unfold sq;rw[h]
section
variable {X:Cx}
noncomputable def gJ(K:Pq):R2:=fun x y H Q=>match x,y with
 |.int i,.int j=>Q (.int (i+j)) H
 |.str i,.str j=>i.length+j.length<=sizeLine/\Q (.str (i++j)) H
 |.ref a,.ref b=>match H a,H b with
  |some (.lst xs),some (.lst ys)=>xs.length+ys.length<=sizeLine/\∀ p,H p=none->Q (.ref p) (upd H p (.lst (xs++ys)))
  |some (.tup xs),some (.tup ys)=>xs≠[]/\ys≠[]/\xs.length+ys.length<=sizeLine/\∀ p,H p=none->Q (.ref p) (upd H p (.tup (xs++ys)))
  |_,_=>False
 |_,_=>False
theorem Be:cW X (binaryOp .Add) (gJ X.K):=by
 intro pins s σ H x y v u Q I rx ry h
 cases x with
 |int i=>cases y with
  |int j=>exact vM pins s σ H _ _ v u Q I rx ry ⟨i,j,rfl,rfl,h⟩
  |_=>exact (show False from h).elim
 |str i=>cases y with
  |str j=>exact jc pins s σ H _ _ v u Q I rx ry ⟨i,j,rfl,rfl,h.1,h.2⟩
  |_=>exact (show False from h).elim
 |ref a=>cases y with
  |ref b =>
   unfold gJ at h;simp only at h
   split at h
   ·rename_i xs ys e1 e2;exact xC pins s σ H _ _ v u Q I rx ry ⟨a,b,xs,ys,rfl,rfl,e1,e2,h.1,h.2⟩
   ·rename_i xs ys e1 e2;obtain⟨h1,h2,h3,h4⟩:=h;exact sx pins s σ H _ _ v u Q I rx ry ⟨a,b,xs,ys,rfl,rfl,aW.of e1,aW.of e2,h1,h3,fun z=>absurd z h2,fun _=>h4⟩
   ·exact h.elim
  |_=>exact (show False from h).elim
 |_=>exact (show False from h).elim
noncomputable def Di:R2:=fun x y H Q=>match x,y with
 |.int i,.int j=>mO i j/\Q (.int (i*j)) H
 |.ref a,.int j=>FW (.ref a) (.int j) H Q
 |_,_=>False
theorem rj:cW X (binaryOp .Mult) Di:=by
 intro pins s σ H x y v u Q I rx ry h
 cases x with
 |int i=>cases y with
  |int j=>exact D3 pins s σ H _ _ v u Q I rx ry ⟨i,j,rfl,rfl,h.1,h.2⟩
  |_=>exact (show False from h).elim
 |ref a=>cases y with
  |int j=>exact DY pins s σ H _ _ v u Q I rx ry h
  |_=>exact (show False from h).elim
 |_=>exact (show False from h).elim
theorem eC:cW X (compareOp .Eq) CK:=Cm
theorem Ey:cW X (compareOp .NotEq) Gz:=Ca
noncomputable def Fp(K:Pq):R2:=fun x y H Q=>match x,y with
 |.str z,.int i=>z.length<=sizeLine/\(match bC z.cps.toList i with|some c=>Q (.str ⟨#[c]⟩) H|none=>False)
 |.ref p,.int i=>match sq H p with
  |some (_,xs)=>(match bC xs i with|some v=>Q v H|none=>False)
  |none=>∃ xs v,aW K H p xs/\bC xs i=some v/\Q v H
 |_,_=>False
theorem Kg(hu:k<cLine):rF X (Fp X.K):=by
 intro value slice pins s σ H x y v u Q I rx ry h hs;refine xa value slice pins s σ H x y v u Q I rx ry ?_ hs
 cases x with
 |str z=>cases y with
  |int i =>
   obtain⟨hz,h⟩:=h
   split at h
   ·rename_i c e;exact .inr (.inr ⟨z,i,c,rfl,rfl,hz,e,h⟩)
   ·exact h.elim
  |_=>exact (show False from h).elim
 |ref p=>cases y with
  |int i =>
   unfold Fp at h;simp only at h
   split at h
   ·rename_i b xs e
    split at h
    ·rename_i w' e'
     cases b with
     |true=>exact .inl ⟨p,xs,i,w',rfl,rfl,iU e,e',h⟩
     |false=>exact .inr (.inl ⟨p,xs,i,w',rfl,rfl,gH e,e',h⟩)
    ·exact h.elim
   ·obtain⟨xs,w',hq,e',h⟩:=h;exact .inr (.inl ⟨p,xs,i,w',rfl,rfl,hq,e',h⟩)
  |_=>exact (show False from h).elim
 |_=>exact (show False from h).elim
noncomputable def IG(K:Pq):V->Option Int->Option Int->Hp->VK->Prop:=fun x lo hi H Q=>match x with
 |.ref p=>match sq H p with
  |some (true,xs)=>∀ q,H q=none->Q (.ref q) (upd H q (.lst (l_ xs lo hi)))
  |some (false,xs)=>Ba K (.ref p) lo hi H Q
  |none=>Ba K (.ref p) lo hi H Q
 |_=>False
noncomputable def vJ:V->V->V->Hp->(Hp->Prop)->Prop:=fun o i v H Q=>match o,i with
 |.ref p,.int k=>match H p with
  |some (.lst xs)=>(match jT xs.length k with|some j=>Q (upd H p (.lst (xs.set j v)))|none=>False)
  |_=>False
 |_,_=>False
theorem uset:ED X vJ:=by
 intro pins s σ H o i v ov iv u Q I ro ri rv h
 cases o with
 |ref p=>cases i with
  |int k =>
   unfold vJ at h;simp only at h
   split at h
   ·rename_i xs e
    split at h
    ·rename_i j e';exact set_list pins s σ H _ _ v ov iv u Q I ro ri rv ⟨p,xs,k,j,rfl,rfl,e,e',h⟩
    ·exact h.elim
   ·exact h.elim
  |_=>exact (show False from h).elim
 |_=>exact (show False from h).elim
noncomputable def AD(K:Pq):List V->Hp->VK->Prop:=fun xs H Q=>match xs with
 |[.str y]=>y.length<=sizeLine/\Q (.int y.length) H
 |[.ref p]=>match sq H p with
  |some (_,ys)=>Q (.int ys.length) H
  |none=>∃ ys,aW K H p ys/\Q (.int ys.length) H
 |_=>False
theorem ur:aH X (.builtin "len") (AD X.K):=by
 intro pins s σ H xs us Q I r h;rcases xs with _|⟨x,_|⟨y,xs⟩⟩
 ·exact (show False from h).elim
 rotate_left
 ·cases x<;>exact (show False from h).elim
 cases x with
 |str y=>exact jF pins s σ H _ us Q I r ⟨.str y,_,rfl,⟨h.1,rfl⟩,h.2⟩
 |ref p =>
  unfold AD at h;simp only at h
  split at h
  ·rename_i b ys e;refine jF pins s σ H _ us Q I r ⟨.ref p,ys.length,rfl,?_,h⟩
   cases b with
   |true=>exact .inl ⟨ys,iU e,rfl⟩
   |false=>exact .inr ⟨ys,gH e,rfl⟩
  ·obtain⟨ys,hq,h⟩:=h;exact jF pins s σ H _ us Q I r ⟨.ref p,ys.length,rfl,.inr ⟨ys,hq,rfl⟩,h⟩
 |_=>exact (show False from h).elim
noncomputable def FC:List V->Hp->VK->Prop:=fun xs H Q=>match xs with
 |[.int i,.int j]=>Q (.int (if j<i then j else i)) H
 |_=>False
theorem fI(hc:X.calm=true):aH X (.builtin "min") FC:=by
 intro pins s σ H xs us Q I r h;rcases xs with _|⟨x,_|⟨y,_|⟨z,xs⟩⟩⟩
 ·exact (show False from h).elim
 ·cases x<;>exact (show False from h).elim
 ·cases x with
  |int i=>cases y with
   |int j=>exact vc hc pins s σ H _ us Q I r ⟨i,j,rfl,h⟩
   |_=>exact (show False from h).elim
  |_=>exact (show False from h).elim
 ·cases x with
  |int i=>cases y<;>exact (show False from h).elim
  |_=>exact (show False from h).elim
noncomputable def E5:List V->Hp->VK->Prop:=fun xs H Q=>match xs with
 |[.int i,.int j]=>Q (.int (if j > i then j else i)) H
 |_=>False
theorem g_(hc:X.calm=true):aH X (.builtin "max") E5:=by
 intro pins s σ H xs us Q I r h;rcases xs with _|⟨x,_|⟨y,_|⟨z,zs⟩⟩⟩
 ·exact (show False from h).elim
 ·cases x<;>exact (show False from h).elim
 ·cases x with
  |int i=>cases y with
   |int j=>exact uO hc pins s σ H _ us Q I r ⟨i,j,rfl,h⟩
   |_=>exact (show False from h).elim
  |_=>exact (show False from h).elim
 ·cases x<;>first|exact (show False from h).elim | (cases y<;>exact (show False from h).elim)
noncomputable def dP(K:Pq):List V->Hp->VK->Prop:=fun xs H Q=>match xs with
 |[.ref p]=>match sq H p with
  |some (true,ys)=>∀ l,H l=none->Q (.ref l) (upd H l (.tup ys))
  |some (false,_)=>Q (.ref p) H
  |none=>∃ ys,aW K H p ys/\Q (.ref p) H
 |_=>False
theorem nk:aH X (.type "tuple") (dP X.K):=by
 intro pins s σ H xs us Q I r h;rcases xs with _|⟨x,_|⟨y,xs⟩⟩
 ·exact (show False from h).elim
 rotate_left
 ·cases x<;>exact (show False from h).elim
 cases x with
 |ref p =>
  unfold dP at h;simp only at h
  split at h
  ·rename_i ys e;exact cQ pins s σ H _ us Q I r ⟨p,ys,rfl,.inl ⟨iU e,h⟩⟩
  ·rename_i ys e;exact cQ pins s σ H _ us Q I r ⟨p,ys,rfl,.inr ⟨gH e,h⟩⟩
  ·obtain⟨ys,hq,h⟩:=h;exact cQ pins s σ H _ us Q I r ⟨p,ys,rfl,.inr ⟨hq,h⟩⟩
 |_=>exact (show False from h).elim
noncomputable def GU:List V->Hp->VK->Prop:=fun xs H Q=>match xs with
 |[.int i]=>Q (.int i) H
 |[.bl k]=>Q (.int (if k=true then 1 else 0)) H
 |_=>False
theorem tY:aH X (.type "int") GU:=by
 intro pins s σ H xs us Q I r h;rcases xs with _|⟨x,_|⟨y,ys⟩⟩
 ·exact (show False from h).elim
 ·cases x with
  |int i=>exact kF pins s σ H _ us Q I r (.inl ⟨i,rfl,h⟩)
  |bl k=>exact kF pins s σ H _ us Q I r (.inr ⟨k,rfl,h⟩)
  |_=>exact (show False from h).elim
 ·cases x<;>exact (show False from h).elim
theorem vg(hc:X.calm=true):aH X (.builtin "sum") (fun xs H Q=>∃(p:Addr) (ns:List Int),xs=[.ref p]/\bz X.K H p (ns.map V.int)/\Q (.int ns.sum) H):=by
 intro pins s σ H xs us Q I r h;obtain⟨p,ns,rfl,hq,q⟩:=h;obtain⟨u,rfl,ru⟩:=vals1 r;cases ru;obtain⟨its,rv,pl,hz⟩:=I.list hq;have hi:=intsAre_of rv;obtain⟨xs,hx⟩:=hi.allInts.items;have hl':s.heap.IsList p (intItems xs):=by rw[<- hx];exact pl.isList
 refine sum_intListG (I.ok.hd hc) hl' fun h' tk t' hk=>?_;have e1:ns=xs.toList.map (·.1):=by rw[<- nums_intItems,<- hx];exact hi.numsOf.symm
 have e2:preSum (numAt xs) xs.size=ns.sum:=by rw[preSum_eq,LU (by simp),e1]
 rw[e2];exact⟨.int ns.sum,H,I.kept hk,⟨_,rfl⟩,q⟩
noncomputable def C1(H:Hp):V->Option String
 |.aM=>some "NoneType"
 |.bl _=>some "bool"
 |.int _=>some "int"
 |.str _=>some "str"
 |.ref a=>match H a with
  |some (.lst _)=>some "list"
  |some (.tup _)=>some "tuple"
  |some (.dK _)=>some "dict"
  |_=>none
 |_=>none
theorem Du{x:V}{t:String}(h:C1 H x=some t):gQ K H x (.type t):=by
 unfold C1 at h
 split at h
 ·cases h;exact .aM
 ·cases h;exact .bl _
 ·cases h;exact .int _
 ·cases h;exact .str _
 ·split at h
  ·rename_i e;cases h;exact .lst e
  ·rename_i e;cases h;exact .tup e
  ·rename_i e;cases h;exact .dK e
  ·cases h
 ·cases h
noncomputable def fO(t c:String):Bool:=decide (t=c) || (t == "bool" && c == "int")
theorem wM{t c:String}(ht:t∈["NoneType","bool","int","str","list","tuple","dict"])(hc:c∈["bool","int","str","list","tuple","dict"]):PySem.W.kitOne K (.type t) (.type c)=some (fO t c):=by
 simp only[K4,KZ,LO] at ht hc;rcases ht with rfl|rfl|rfl|rfl|rfl|rfl|rfl<;>rcases hc with rfl|rfl|rfl|rfl|rfl|rfl<;>rfl
theorem E3{x:V}{t:String}(h:C1 H x=some t):t∈["NoneType","bool","int","str","list","tuple","dict"]:=by
 unfold C1 at h
 split at h
 ·cases h;decide
 ·cases h;decide
 ·cases h;decide
 ·cases h;decide
 ·split at h
  ·cases h;decide
  ·cases h;decide
  ·cases h;decide
  ·cases h
 ·cases h
noncomputable def o8(K:Pq):List V->Hp->VK->Prop:=fun xs H Q=>match xs with
 |[x,.ty T]=>T∈["bool","int","str","list","tuple","dict"]/\match C1 H x with
  |some t=>Q (.bl (fO t T)) H
  |none=>∃ t b,gQ K H x t/\PySem.W.kitOne K t (.type T)=some b/\Q (.bl b) H
 |_=>False
theorem uZ:aH X (.builtin "isinstance") (o8 X.K):=by
 intro pins s σ H xs us Q I r h;rcases xs with _|⟨x,_|⟨y,_|⟨z,xs⟩⟩⟩
 ·exact (show False from h).elim
 ·exact (show False from h).elim
 rotate_left
 ·cases y<;>exact (show False from h).elim
 cases y with
 |ty T =>
  obtain⟨u,w',rfl,r1,r2⟩:=vals2 r;cases r2;obtain⟨hT,h⟩:=h
  split at h
  ·rename_i t e;exact kX I r1 (Du e) (wM (E3 e) hT) fun tk=>⟨.bl _,H,I.tok _,rfl,h⟩
  ·obtain⟨t,b,ty,k,q⟩:=h;exact kX I r1 ty k fun tk=>⟨.bl b,H,I.tok _,rfl,q⟩
 |_=>exact (show False from h).elim
theorem D_{T:String}(hg:Gl X x)(hm:X.mg x=none)(hv:bootBuiltins x=some (.type T))(hn:autoParam (x≠"__name__") ℜ1)(hd:autoParam ((x ==("__debug__":Str))=false) ℜ1):PE X (.Name x pos) (tC (.ty T)):=Am hg hm hv rfl hn hd
end
open AutoSeq1 (wpAny_loadPart')
section
variable {prog:Program} {w:World} {A:Around} {E:Value->Shared->Prop} {s:Shared}
theorem iH{x:Value}(hit:s.heap.IsTupleIter it l i)(hl:s.heap.IsTuple l items)(hx:items[i]?=some x)
  (hQ:∀ h',h'.IsTupleIter it l (i+1)->Heap.SameBut it s.heap h'->Q x {s with heap:=h'}):wpAny (model prog w) A (Builtin.SmallTypes.nextOf (.ref it)) Q E s:=by
 obtain⟨o,ho,hc,hd⟩:=id hit;obtain⟨ol,hol,_,nl,hdl⟩:=hl;unfold Builtin.SmallTypes.nextOf;refine Ku (Ls (name:=Str.ofString "__next__") hit.typeIs Mt (L8 Mt hit.typeIs NZ ?_ (NT _)));show wpAny _ _ (field (.ref it) 0 >>= _) _ _ s;refine Ku (LV ho hd (x:=.ref l) rfl ?_);show wpAny _ _ (if (Value.ref l == Value.none)=true then _ else _) _ _ s
 rw[Kx (show ¬ ((Value.ref l == Value.none)=true) from K5)];show wpAny _ _ (field (.ref it) 1 >>= _) _ _ s;refine Ku (LV ho hd (x:=.int i 0) rfl ?_);show wpAny _ _ (seqItems? (.ref l) >>= _) _ _ s;refine Ku (Ma hol hdl ?_);simp only[Lr,hx];refine Ku (NU ho hd (by simp) (K1 ⟨x,rfl,K1 (hQ _ ?_ (LQ ..))⟩))
 exact⟨_,N3 _ ho (Obj.isFreed_of_fields (Ng hd _)),(Obj.cls_mapFields ..).trans hc,by rw[Ng hd];simp[rawInt]⟩
theorem jk(hh:A.handled=none)(hit:s.heap.IsTupleIter it l i)(hl:s.heap.IsTuple l items)(hx:items[i]?=none)
  (hE:∀ h' e,Heap.ExtBut it s.heap h'->(∃ o,h'.get? e=some o/\o.cls=.type "StopIteration")->E (.ref e) {s with heap:=h'}):wpAny (model prog w) A (Builtin.SmallTypes.nextOf (.ref it)) Q E s:=by
 obtain⟨o,ho,hc,hd⟩:=id hit;obtain⟨ol,hol,_,nl,hdl⟩:=hl;unfold Builtin.SmallTypes.nextOf;refine Ku (Ls (name:=Str.ofString "__next__") hit.typeIs Mt (L8 Mt hit.typeIs NZ ?_ (NT _)));show wpAny _ _ (field (.ref it) 0 >>= _) _ _ s;refine Ku (LV ho hd (x:=.ref l) rfl ?_);show wpAny _ _ (if (Value.ref l == Value.none)=true then _ else _) _ _ s
 rw[Kx (show ¬ ((Value.ref l == Value.none)=true) from K5)];show wpAny _ _ (field (.ref it) 1 >>= _) _ _ s;refine Ku (LV ho hd (x:=.int i 0) rfl ?_);show wpAny _ _ (seqItems? (.ref l) >>= _) _ _ s;refine Ku (Ma hol hdl ?_);simp only[Lr,hx];refine Ku (NC (Ku (NU ho hd (by simp) ?_)))
 show wpAny _ _ (newExc (.type "StopIteration") [] >>= _) _ _ _;refine Ku ?_;simp only[newExc,newTuple];refine Ku (LN ?_ (by size_fits))
 refine Ku (m:=firstArgMember _ _) (wpAny_of_eq (a:=Value.none) (by first|rfl | (simp only[firstArgMember];rfl)) ?_)
 refine LN ?_ (by size_fits)
 simp only[raiseNew];refine Ku (wpAny_handled ?_)
 first|rw[show A.in1.handled=none from hh]|rw[hh]
 refine Ku (K1 (wpAny_throw ?_));exact hE _ _ (((LQ ..).extBut.push _).push _) ⟨_,K7 _ rfl,rfl⟩
theorem ik(hh:A.handled=none)(it l:Addr)(hne:l≠it)(items:Array Value):
  Draws prog w A it [it,l] items.size (fun i v=>items[i]?=some v) (fun i h=>h.IsTupleIter it l i/\h.IsTuple l items) where
 live:=fun _ _ st=>let ⟨o,ho,_⟩:=st.1;⟨o,ho⟩
 frame:=fun _ _ _ st hk=>⟨let ⟨o,e,r⟩:=st.1;⟨o,hk it (by simp) o e,r⟩,let ⟨o,e,r⟩:=st.2;⟨o,hk l (by simp) o e,r⟩⟩
 item:=fun i s Q E hi st hQ=>by
  refine iH st.1 st.2 (x:=items[i]) (by simp[hi]) fun h' hit' hs'=>?_
  exact hQ _ h' s.toks (by simp[hi]) ⟨hit',st.2.extBut hs'.extBut hne⟩ hs'
 done:=fun s Q E st hE=>jk hh st.1 st.2 (by simp) hE
theorem jI(l:Addr)(items:Array Value)(n:Nat)(dct:Option Addr)(sl:Array (Option Value)):
  Meets (Builtin.«enumerate.__new__» ⟨[.type "enumerate",.ref l],[]⟩) (fun _ R s=>s.heap.get? l=some {cls:=.type "tuple",dict:=dct,data:=.seq items n,slots:=sl} /\
   R (.ok (.ret (.ref (s.heap.push {cls:=.type "tuple_iterator",data:=.fields #[.ref l,.int 0 0]}).objs.size)))
    {s with heap:=(s.heap.push {cls:=.type "tuple_iterator",data:=.fields #[.ref l,.int 0 0]}).push {cls:=.type "enumerate",data:=.fields #[.none,.bool false,.ref s.heap.objs.size,rawInt 0,.none,.none]}}):=
 .of_wp fun prog w A R s h=>by
  obtain⟨hp,g,d,tk,os⟩:=s;obtain⟨hl,h⟩:=h;have hsub:=sub_enumerate;have hL:Heap.IsTuple (Shared.heap ⟨hp,g,d,tk,os⟩) l items:=⟨_,hl,rfl,n,rfl⟩;wp_walk using ND hl;refine wpAny_stack_any fun st=>K1 ?_;split
  ·rename_i c _ _ _ _ _
   cases (c == Value.type "enumerate")<;>(wp_walk using ND hl,Lx hL;exact⟨_,rfl,h⟩)
  ·wp_walk using ND hl,Lx hL;exact⟨_,rfl,h⟩
theorem j_(hL:s.heap.IsTuple l items)
  (h:∀ h',IsEnum h' (s.heap.objs.size+1) s.heap.objs.size 0 .none->h'.IsTupleIter s.heap.objs.size l 0->h'.objs.size=s.heap.objs.size+2 ->
   (∀ b o,s.heap.get? b=some o->h'.get? b=some o)->Q (.ref (s.heap.objs.size+1)) {s with heap:=h'}) :
  wpAny (model prog w) A (call (.type "enumerate") [.ref l]) Q E s:=by
 obtain⟨⟨c,dct,dt,sl⟩,hl,hc,n,hd⟩:=hL
 replace hc:c=.type "tuple":=hc
 replace hd:dt=.seq items n:=hd
 subst hc hd;refine callType_new F.called_enumerate (by decide) (F.typeCall_enumerate_1 _) (F.newCall_enumerate_1 _) (fun obj=>F.args_object_init_2 obj _) F.entry_enumerate_new (jI l items n dct sl) ⟨hl,?_⟩
 have hz:(s.heap.push {cls:=.type "tuple_iterator",data:=.fields #[.ref l,.int 0 0]}).objs.size=s.heap.objs.size+1:=L3 ..;show _/\_;rw[hz];have he:IsEnum ((s.heap.push {cls:=.type "tuple_iterator",data:=.fields #[.ref l,.int 0 0]}).push {cls:=.type "enumerate",data:=.fields #[.none,.bool false,.ref s.heap.objs.size,rawInt 0,.none,.none]}) (s.heap.objs.size+1) s.heap.objs.size 0 .none:=by
  have:=K7 (s.heap.push {cls:=.type "tuple_iterator",data:=.fields #[.ref l,.int 0 0]}) (o:={cls:=.type "enumerate",data:=.fields #[.none,.bool false,.ref s.heap.objs.size,rawInt 0,.none,.none]}) rfl;rw[hz] at this;exact this
 refine⟨⟨_,he,rfl⟩,h _ he ⟨_,Kv _ (K7 _ rfl),rfl,rfl⟩ (by rw[L3,hz]) fun b o x=>Kv _ (Kv _ x)⟩
end
section
variable {X:Cx} {pins:List (Addr×Obj)} {σ:St} {H:Hp} {s:Shared} {h':Heap}
theorem Inv.turns{t':Nat}(I:Inv X pins σ H s)(hf:∀ b∈fp,ke X pins H b)(k:∀ b o,b∉fp->s.heap.get? b=some o->h'.get? b=some o):Inv X pins σ H {s with heap:=h',toks:=t'}:=by
 have nf:∀ b u,H b=some u->b∉fp:=fun b u e z=>by rw[(hf b z).1] at e;cases e
 refine I.step (g':=s.gens) (d':=s.drawn) (ch:=fp) (fun b hb=>?_) (fun b o _ _ hc e _=>k b o hc e) (fun b o _ _ hc e _=>⟨o.slots,k b o hc e⟩) (fun _ _ _ _ n=>n)
  (fun b o hc e=>⟨o,k b o hc e⟩) (fun _ _ e=>e) (fun _ _ _ e=>e) (fun b ps e=>⟨#[],by rw[e];simp⟩) (fun m hm=>?_) (fun b u e=>?_) I.bare
 ·obtain⟨_,g1,g2,g3,g4,g5⟩:=hf b hb;exact⟨g3,g1,g4,g5⟩
 ·obtain⟨o,es,ep,ho,r⟩:=hm;exact⟨o,es,ep,k _ o (fun z=>(hf _ z).2.1 rfl) ho,r⟩
 ·refine (I.aD b u e).m3 (fun c v hc q=>k c v ?_ q) (fun _ q=>q) (fun _ _ q=>q) fun _ _ _ q=>q;rcases hc with z|z
  ·rw[z];exact nf b u e
  ·exact nf c _ z
theorem Inv.rV{t':Nat}(I:Inv X pins σ H s)(hf:∀ b∈fp,ke X pins H b)(hp:s.heap.objs.size<=p)(k:∀ b o,b∉fp->s.heap.get? b=some o->h'.get? b=some o)
  (new:aP X.prog X.w (upd H p o) h' p o):Inv X pins σ (upd H p o) {s with heap:=h',toks:=t'}:=by
 have nf:∀ b u,H b=some u->b∉fp:=fun b u e z=>by rw[(hf b z).1] at e;cases e
 have fr:H p=none:=I.aD.fresh hp;have np:∀ b u,H b=some u->b≠p:=fun b u e=>ah e fr;have ne:∀ b o,s.heap.get? b=some o->b≠p:=fun b o e z=>by rw[z] at e;exact absurd (KU (KA e) hp) (L9 _)
 refine I.step (g':=s.gens) (d':=s.drawn) (ch:=fp) (fun b hb=>?_) (fun b o _ _ hc e _=>k b o hc e) (fun b o _ _ hc e _=>⟨o.slots,k b o hc e⟩) (fun b o _ e n=>by rw[ab (ne b o e)];exact n)
  (fun b o hc e=>⟨o,k b o hc e⟩) (fun b xs e=>by rw[ab (np b _ e)];exact e) (fun b o u e=>by rw[ab (np b _ e)];exact e) (fun b ps e=>⟨#[],by rw[ab (np b _ e),e];simp⟩) (fun m hm=>?_) (fun b u e=>?_) I.bare
 ·obtain⟨_,g1,g2,g3,g4,g5⟩:=hf b hb;exact⟨g3,g1,g4,g5⟩
 ·obtain⟨o,es,ep,ho,r⟩:=hm;exact⟨o,es,ep,k _ o (fun z=>(hf _ z).2.1 rfl) ho,r⟩
 ·by_cases hb:b=p
  ·subst hb;rw[ae] at e;cases e;exact new
  ·rw[ab hb] at e;refine (I.aD b u e).m3 (fun c v hc q=>k c v ?_ q) (fun c q=>by rw[ab (np c _ q)];exact q) (fun c xs q=>by rw[ab (np c _ q)];exact q) fun c _ _ q=>by rw[ab (np c _ q)];exact q
   rcases hc with z|z
   ·rw[z];exact nf b u e
   ·exact nf c _ z
end
noncomputable def JA(K:Pq)(a:Addr):Nat->Hp->V->Prop:=fun i H x=>∃ xs,aW K H a xs/\xs[i]?=some x
noncomputable def IC(K:Pq)(a:Addr):Nat->Hp->Prop:=fun i H=>∃ xs,aW K H a xs/\xs.length=i
noncomputable def Bm(K:Pq)(a:Addr):It:=
 ⟨fun i H=>∃ x,JA K a i H x,fun i H x H'=>∃ p y,(∀ xs,aW K H a xs->xs[i]?=some y)/\H p=none/\x=.ref p/\H'=upd H p (.tup [.int i,y]),IC K a⟩
theorem qV{tk:Nat}(a it e:Addr)(hne:e≠it):Turn P w K (.Tuple es tk tp) (Bm K a) [e,it] e (fun i h=>(∃ old,IsEnum h e it i old)/\h.IsTupleIter it a i) where
 mem:=by simp
 obj:=fun i h st b hb=>by
  obtain⟨⟨old,he⟩,o,eo,c,d⟩:=st;rcases K4.mp hb with z|z
  ·subst z;exact⟨_,he,fun v z=>by cases z⟩
  ·have z:b=it:=by simpa using z
   subst z;exact⟨o,eo,fun v z=>by rw[d] at z;cases z⟩
 keep:=fun i h h' st k=>by
  obtain⟨⟨old,he⟩,o,eo,r⟩:=st;exact⟨⟨old,k e (by simp) _ he⟩,o,k it (by simp) o eo,r⟩
 item:=by
  intro X hP hw hK hc i pins s σ H E I hf st hg;subst hP hw hK;obtain⟨x,xs,hq,hx⟩:=hg;obtain⟨⟨old,he⟩,hit⟩:=st;obtain⟨its,rv,p,hz⟩:=I.tuple hq;obtain⟨u,hu,ru⟩:=rv.get hx;obtain⟨g0,g1,g2,g3,g4,g5⟩:=hf e (by simp)
  obtain⟨f0,f1,f2,f3,f4,f5⟩:=hf it (by simp)
  have ht:s.heap.IsTuple a its.toArray:=p;have ha:a≠it:=by
   rintro rfl;obtain⟨o,e1,c1,_⟩:=hit;obtain⟨o',e2,c2,_⟩:=ht;rw[e1] at e2;cases e2;rw[c1] at c2;exact absurd (Value.type.inj c2) (by decide)
  have hea:e≠a:=by
   rintro rfl;obtain⟨o',e2,c2,_⟩:=ht;have e1:s.heap.get? e=some _:=he;rw[e1] at e2;cases e2;exact absurd (Value.type.inj c2) (by decide)
  have hi:i<its.toArray.size:=by
   have:=(K8.mp hu).1
   simpa using this
  refine wpAny_pyNext_enum_itemD (ik (A:=X.A.in1) (I.ok.hd hc) it a ha its.toArray) he ⟨hit,ht⟩ hi hne (by simp[hne,hea]) fun x' h' tk' hP ho hs' hT hsz hk=>?_
  have ex:x'=u:=by
   have hP':its.toArray[i]?=some x':=hP;rw[La,hu] at hP';exact (Option.some.inj hP').symm
  subst ex;refine⟨.ref s.heap.objs.size,rfl,wpAny_letOwnedTupleGo_enum ho fun h2 he2 hs2=>?_⟩;have fr:H s.heap.objs.size=none:=I.aD.fresh (K2 _);have hle:e≠s.heap.objs.size:=KJ (KA he);have hT2:h2.get? s.heap.objs.size=some {cls:=.type "tuple",data:=.seq #[.int i tk',x']}:=(hs2.2 _ (Ne.symm hle)).trans hT;have I2:Inv X pins σ (upd H s.heap.objs.size (.tup [.int i,x])) {s with heap:=h2,toks:=tk'+1}:=by
   refine I.rV (fp:=[e,it]) hf (K2 _) (fun b o hb eb=>?_) ⟨by show 2<=sizeLine;decide,[.int i tk',x'],.cons ⟨_,rfl⟩ (.cons ru .nil),⟨_,hT2,rfl,_,rfl,rfl⟩⟩
   have n1:b≠e:=fun z=>hb (by simp[z])
   have n2:b≠it:=fun z=>hb (by simp[z])
   exact (hs2.2 b n1).trans (hk b o n1 n2 eb)
  refine⟨.ref s.heap.objs.size,_,I2,rfl,⟨s.heap.objs.size,x,fun ys hy=>by rw[I.ie hy hq];exact hx,fr,rfl,rfl⟩,⟨⟨x',?_⟩,?_⟩,fun b hb=>?_⟩
  ·have e:(((i+1:Nat)):Int)=(i:Int)+1:=by lia
   rw[e];exact he2
  ·obtain⟨o,e1,r⟩:=hs'.1;exact⟨o,(hs2.2 it (Ne.symm hne)).trans e1,r⟩
  ·have n:b≠s.heap.objs.size:=by
    rcases K4.mp hb with z|z
    ·subst z;exact hle
    ·have z:b=it:=by simpa using z
     subst z;obtain⟨o,e1,_⟩:=hit;exact KJ (KA e1)
   rw[ab n];exact (hf b hb).1
 done:=by
  intro X hP hw hK hc i pins s σ H E I hf st hg;subst hP hw hK;obtain⟨xs,hq,hx⟩:=hg;obtain⟨⟨old,he⟩,hit⟩:=st;obtain⟨its,rv,p,hz⟩:=I.tuple hq;have ht:s.heap.IsTuple a its.toArray:=p;have ha:a≠it:=by
   rintro rfl;obtain⟨o,e1,c1,_⟩:=hit;obtain⟨o',e2,c2,_⟩:=ht;rw[e1] at e2;cases e2;rw[c1] at c2;exact absurd (Value.type.inj c2) (by decide)
  have hl:=rv.length;have hsz:its.toArray.size=i:=by simp;lia
  refine wpAny_pyNext_enum_endD (ik (A:=X.A.in1) (I.ok.hd hc) it a ha its.toArray) he (by rw[hsz];exact⟨hit,ht⟩) fun h' eb=>⟨rfl,?_⟩
  exact I.turns (t':=s.toks) hf fun b o hb e1=>eb b o (fun z=>hb (by simp[z])) e1
 self:=fun A i s Q E st h=>by
  obtain⟨⟨old,he⟩,_⟩:=st;exact wpAny_pyIter_enum he h
section
variable {X:Cx} {es:List Expr} {tk:Nat} {tp:Pos}
noncomputable def CA(K:Pq)(ta:TA):TI:=fun σ H R=>ta σ H fun vs H1=>∃ a,vs=[.ref a]/\(∃ xs,aW K H1 a xs)/\R (Bm K a) H1
theorem AF{p:Pos}(hg:Gl X "enumerate")(hm:X.mg "enumerate"=none)(ha:PA X [e] ta)(h1:autoParam (cK e=true) ℜ0)(hv:autoParam (bootBuiltins "enumerate"=some (.type "enumerate")) ℜ6):
  PI X (.Tuple es tk tp) (.Call (.Name "enumerate" p) [e] [] pos) (CA X.K ta):=by
 intro pins s σ H R I h;refine Call_ (eR I hg hm hv (LP (bo (ha pos pins s σ H _ I h) fun us s1 ⟨vs,H1,I1,r1,q1⟩=>?_) (cf h1) rfl));obtain⟨a,e,⟨xs,hq⟩,q⟩:=q1;subst e;obtain⟨u,rfl,ru⟩:=vals1 r1;cases ru;obtain⟨its,rv,pt,hz⟩:=I1.tuple hq;refine j_ (show s1.heap.IsTuple a its.toArray from pt) fun h' he hit hsz hk=>?_;refine wpAny_pyIter_enum he ?_;have I2:Inv X pins σ H1 {s1 with heap:=h'}:=I1.kept (t':=s1.toks) hk
 refine⟨s1.heap.objs.size+1,[s1.heap.objs.size+1,s1.heap.objs.size],_,_,H1,rfl,I2,qV a s1.heap.objs.size (s1.heap.objs.size+1) (Mo (M6 _)),⟨⟨_,he⟩,hit⟩,fun b hb=>?_,q⟩;have hb':s1.heap.objs.size<=b:=by
  rcases K4.mp hb with z|z
  ·rw[z];exact Ly _
  ·have z:b=s1.heap.objs.size:=by simpa using z
   rw[z];exact K2 _
 exact I1.pj hb' (I1.aD.fresh hb')
noncomputable def u9(K:Pq)(tl:TE):TI:=fun σ H R=>tl σ H fun x H1=>match x with
 |.ref a=>match sq H1 a with
  |some (true,_)=>R (qZ K a) H1
  |some (false,_)=>R (vq K a) H1
  |none=>(∃ xs,aW K H1 a xs)/\R (vq K a) H1
 |_=>False
theorem Eu{l:Expr}(hl:PE X l tl):PI X tg l (u9 X.K tl):=by
 intro pins s σ H R I h;refine bo (hl pins s σ H _ I h) fun v s1 ⟨x,H1,I1,r1,q1⟩=>?_;obtain⟨a,rfl,q⟩:∃ a,x=V.ref a/\(((∃ xs,bz X.K H1 a xs)/\R (qZ X.K a) H1)\/((∃ xs,aW X.K H1 a xs)/\R (vq X.K a) H1)):=by
  match x,q1 with
  |.ref a,q1 =>
   simp only at q1
   split at q1
   ·rename_i xs e;exact⟨a,rfl,.inl ⟨⟨xs,iU e⟩,q1⟩⟩
   ·rename_i xs e;exact⟨a,rfl,.inr ⟨⟨xs,gH e⟩,q1⟩⟩
   ·exact⟨a,rfl,.inr q1⟩
 cases r1;rcases q with ⟨⟨xs,hq⟩,q⟩|⟨⟨xs,hq⟩,q⟩
 ·obtain⟨its,rv,p,hz⟩:=I1.list hq;refine LC p.isList ?_;refine⟨s1.heap.objs.size,[s1.heap.objs.size],_,_,H1,rfl,I1.kept (t':=s1.toks) fun b o e=>Kv _ e,lA a _,⟨_,K7 _ rfl,rfl,rfl⟩,fun b hb=>?_,q⟩;have e:b=s1.heap.objs.size:=by simpa using hb
  subst e;exact I1.pj (K2 _) (I1.aD.fresh (K2 _))
 ·obtain⟨its,rv,p,hz⟩:=I1.tuple hq;refine Lx (show s1.heap.IsTuple a its.toArray from p) ?_;refine⟨s1.heap.objs.size,[s1.heap.objs.size],_,_,H1,rfl,I1.kept (t':=s1.toks) fun b o e=>Kv _ e,jo a _,⟨_,K7 _ rfl,rfl,rfl⟩,fun b hb=>?_,q⟩;have e:b=s1.heap.objs.size:=by simpa using hb
  subst e;exact I1.pj (K2 _) (I1.aD.fresh (K2 _))
end
noncomputable def Es(J:It)(g:TG)(tb:TS)(D:Ends)(σ:St)(H:Hp):Prop:=∃ W:Nat->Nat->St->Hp->Prop,(∃ m,W 0 m σ H)/\∀ i m σ H,W i m σ H ->
 (J.stop i H/\D.nx σ H)\/(J.go i H/\∃ N:St->Hp->Prop,(∀ σ' H',N σ' H'->∃ m',m'<m/\W (i+1) m' σ' H')/\∀ x H',J.BZ i H x H'->g x σ H' fun σ2 H2=>tb {D with nx:=N,ct:=N,bk:=D.nx} σ2 H2)
theorem BO(wi:TI)(g:TG)(tb:TS)(D:Ends)(σ:St)(H:Hp):EL wi g tb D σ H=wi σ H fun J H1=>Es J g tb D σ H1:=rfl
noncomputable def vY(J:It)(k:Nat)(g:TG)(tc:TT)(te:TE)(Q:VK)(σ:St)(H1:Hp):Prop:=∀ D,H1 D=none ->
 ∃ W:Nat->Nat->List V->St->Hp->Prop,(∃ m,W 0 m [] (List.replicate k none++σ) (upd H1 D (.lst [])))/\∀ i m ys σ' H',W i m ys σ' H'->H' D=some (.lst ys) /\
  ((J.stop i H'/\Q (.ref D) H')\/(J.go i H'/\ys.length<sizeLine/\∀ x H2,J.BZ i H' x H2->g x σ' H2 fun σ3 H3=>tc σ3 H3 fun b H4 =>
   if b=true then te σ3 H4 fun v H5=>H5 D=some (.lst ys)/\∃ m',m'<m/\W (i+1) m' (ys++[v]) σ3 (upd H5 D (.lst (ys++[v])))
   else ∃ m',m'<m/\W (i+1) m' ys σ3 H4))
theorem xZ(wi:TI)(k:Nat)(g:TG)(tc:TT)(te:TE)(σ:St)(H:Hp)(Q:VK):j4 wi k g tc te σ H Q=wi σ H fun J H1=>vY J k g tc te Q σ H1:=rfl
section
variable {K:Pq} {g:TG} {tb:TS} {D:Ends} {σ:St} {H:Hp} {te:TE} {Q:VK}
theorem tU(Pv:Nat->St->Hp->Prop)(h0:Pv 0 σ H)(hl:∀ i σ H,i<=xs.length->Pv i σ H->bz K H a xs)
  (hs:∀ i x σ H,xs[i]?=some x->Pv i σ H->g x σ H fun σ2 H2=>tb {D with nx:=Pv (i+1),ct:=Pv (i+1),bk:=D.nx} σ2 H2) (hd:∀ σ H,Pv xs.length σ H->D.nx σ H):Es (qZ K a) g tb D σ H:=xc Pv h0 hl hs hd
theorem fG(hn:xs.length<=sizeLine)(Pv:Addr->Nat->List V->Hp->Prop)(h0:∀ D,H D=none->Pv D 0 [] (upd H D (.lst [])))(hD:∀ D i ys H',Pv D i ys H'->H' D=some (.lst ys)/\ys.length=i)
  (hl:∀ D i ys H',Pv D i ys H'->aW K H' a xs)
  (hs:∀ D i ys H' x (R:VK),xs[i]?=some x->Pv D i ys H'->(∀ v H5,H5 D=some (.lst ys)->Pv D (i+1) (ys++[v]) (upd H5 D (.lst (ys++[v])))->R v H5)->te (some x::σ) H' R) (hd:∀ D ys H',Pv D xs.length ys H'->Q (.ref D) H') :
  vY (vq K a) 1 (bJ 0) kN te Q σ H:=by
 intro D hD0;refine⟨fun i m ys σ' H'=>m=xs.length-i/\i<=xs.length/\Pv D i ys H'/\∃ o,σ'=o::σ,⟨xs.length,by simp,KY _,h0 D hD0,none,rfl⟩,?_⟩
 rintro i m ys σ' H' ⟨rfl,hi,p,o,rfl⟩;obtain⟨hDi,hly⟩:=hD _ _ _ _ p;have q:=hl _ _ _ _ p;refine⟨hDi,?_⟩;by_cases hlt:i<xs.length
 ·refine .inr ⟨⟨xs,xs[i],q,by simp[hlt]⟩,by lia,fun x H2 y=>?_⟩
  obtain⟨rfl,y⟩:=y;unfold bJ kN;dsimp only;rw[if_pos rfl];exact hs D i ys H2 x _ (y xs q) p fun v H5 q1 q2=>⟨q1,xs.length-(i+1),by lia,rfl,hlt,q2,_,rfl⟩
 ·have e:i=xs.length:=by lia
  subst e;exact .inl ⟨⟨xs,q,K2 _⟩,hd D ys H' p⟩
end
namespace Ap
theorem uH(i:Nat)(σ:St)(H:Hp)(Q:VK):L2.uH i σ H Q=∃ v,σ[i]?=some (some v)/\Q v H:=rfl
theorem tC(v:V)(σ:St)(H:Hp)(Q:VK):L2.tC v σ H Q=Q v H:=rfl
theorem vt(r:R2)(ta tb:TE)(σ:St)(H:Hp)(Q:VK):L2.vt r ta tb σ H Q=ta σ H fun x H1=>tb σ H1 fun y H2=>r x y H2 Q:=rfl
theorem kA(t:TE)(σ:St)(H:Hp)(Q:Bool->Hp->Prop):L2.kA t σ H Q=t σ H fun x H'=>∃ k,x=.bl k/\Q k H':=rfl
theorem G9(t:TT)(ta tb:TE)(σ:St)(H:Hp)(Q:VK):L2.G9 t ta tb σ H Q=t σ H fun c H1=>if c=true then ta σ H1 Q else tb σ H1 Q:=rfl
theorem uq(t u:TT)(σ:St)(H:Hp)(Q:Bool->Hp->Prop):L2.uq t u σ H Q=t σ H fun c H1=>if c=true then u σ H1 Q else Q false H1:=rfl
theorem iX(σ:St)(H:Hp)(Q:List V->Hp->Prop):L2.iX σ H Q=Q [] H:=rfl
theorem fY(ta:TE)(tr:TA)(σ:St)(H:Hp)(Q:List V->Hp->Prop):L2.fY ta tr σ H Q=ta σ H fun x H1=>tr σ H1 fun xs H2=>Q (x::xs) H2:=rfl
theorem zg(t:TA)(σ:St)(H:Hp)(Q:VK):L2.zg t σ H Q=t σ H fun xs H1=>xs.length<=sizeLine/\∀ p,H1 p=none->Q (.ref p) (upd H1 p (.tup xs)):=rfl
theorem wy(t:TA)(σ:St)(H:Hp)(Q:VK):L2.wy t σ H Q=t σ H fun xs H1=>xs.length<=sizeLine/\∀ p,H1 p=none->Q (.ref p) (upd H1 p (.lst xs)):=rfl
theorem j1(sp:Sp)(dvs:List V)(E:XK)(t:TA)(σ:St)(H:Hp)(Q:VK):L2.j1 sp dvs E t σ H Q=t σ H fun vs H1=>sp (vs++dvs) H1 Q E:=rfl
theorem vf(r:List V->Hp->VK->Prop)(t:TA)(σ:St)(H:Hp)(Q:VK):L2.vf r t σ H Q=t σ H fun vs H1=>r vs H1 Q:=rfl
theorem Fh(K:Pq)(T:String)(r:V->List V->Hp->VK->Prop)(to:TE)(t:TA)(σ:St)(H:Hp)(Q:VK):L2.Fh K T r to t σ H Q=to σ H fun x H1=>Ih K T x H1/\t σ H1 fun xs H2=>r x xs H2 Q:=rfl
theorem uS(t u:TS)(D:Ends)(σ:St)(H:Hp):L2.uS t u D σ H=t {D with nx:=u D} σ H:=rfl
theorem kh(te:TE)(g:TG)(D:Ends)(σ:St)(H:Hp):L2.kh te g D σ H=te σ H fun x H1=>g x σ H1 D.nx:=rfl
theorem bJ(i:Nat)(v:V)(σ:St)(H:Hp)(Q:St->Hp->Prop):L2.bJ i v σ H Q=Q (σ.set i (some v)) H:=rfl
theorem zt(to ti:TE)(t:Bd)(v:V)(σ:St)(H:Hp)(Q:St->Hp->Prop):L2.zt to ti t v σ H Q=to σ H fun o H1=>ti σ H1 fun i H2=>t o i v H2 fun H3=>Q σ H3:=rfl
theorem nJ(K:Pq)(n:Nat)(t:pA)(v:V)(σ:St)(H:Hp)(Q:St->Hp->Prop):L2.nJ K n t v σ H Q=∃ a xs,v=.ref a/\aW K H a xs/\xs.length=n/\t xs σ H Q:=rfl
theorem eY(t:TG)(u:pA)(v:V)(vs:List V)(σ:St)(H:Hp)(Q:St->Hp->Prop):L2.eY t u (v::vs) σ H Q=t v σ H fun σ' H'=>u vs σ' H' Q:=by
 refine propext ⟨fun⟨a,b,e,h⟩=>?_,fun h=>⟨v,vs,rfl,h⟩⟩
 cases e;exact h
theorem mU(σ:St)(H:Hp)(Q:St->Hp->Prop):L2.mU [] σ H Q=Q σ H:=propext ⟨fun h=>h.2,fun h=>⟨rfl,h⟩⟩
theorem xI(te:TE)(D:Ends)(σ:St)(H:Hp):L2.xI te D σ H=te σ H D.rt:=rfl
theorem nj(te:TE)(D:Ends)(σ:St)(H:Hp):L2.nj te D σ H=te σ H fun _ H1=>D.nx σ H1:=rfl
theorem xG(c:TT)(t u:TS)(D:Ends)(σ:St)(H:Hp):L2.xG c t u D σ H=c σ H fun b H1=>if b=true then t D σ H1 else u D σ H1:=rfl
theorem nr(D:Ends)(σ:St)(H:Hp):L2.nr D σ H=D.nx σ H:=rfl
theorem u9(K:Pq)(tl:TE)(σ:St)(H:Hp)(R:It->Hp->Prop):L2.u9 K tl σ H R=tl σ H fun x H1=>match x with
 |.ref a=>match sq H1 a with
  |some (true,_)=>R (qZ K a) H1
  |some (false,_)=>R (vq K a) H1
  |none=>(∃ xs,aW K H1 a xs)/\R (vq K a) H1
 |_=>False:=rfl
theorem rI(C:Int->Int->Prop)(g:Int->Int->V)(i j:Int)(H:Hp)(Q:VK):L2.rI C g (.int i) (.int j) H Q=(C i j/\Q (g i j) H):=by
 refine propext ⟨fun⟨a,b,e1,e2,h⟩=>?_,fun h=>⟨i,j,rfl,rfl,h⟩⟩
 cases e1;cases e2;exact h
theorem tE(g:Int->Int->V)(i j:Int)(H:Hp)(Q:VK):L2.tE g (.int i) (.int j) H Q=Q (g i j) H:=by
 refine propext ⟨fun⟨a,b,e1,e2,h⟩=>?_,fun h=>⟨i,j,rfl,rfl,h⟩⟩
 cases e1;cases e2;exact h
theorem wW(K:Pq)(i j:Int)(H:Hp)(Q:VK):gJ K (.int i) (.int j) H Q=Q (.int (i+j)) H:=rfl
theorem IW(i j:Int)(H:Hp)(Q:VK):CK (.int i) (.int j) H Q=Q (.bl (decide (i=j))) H:=by
 have e:decide (V.int i=V.int j)=decide (i=j):=by rw[M7];constructor<;>intro h<;>(try cases h)<;>(try rw[h])<;>rfl
 unfold CK;rw[e];exact propext ⟨fun h=>h.2,fun h=>⟨rfl,h⟩⟩
theorem Dd(i j:Str)(H:Hp)(Q:VK):CK (.str i) (.str j) H Q=Q (.bl (decide (i=j))) H:=by
 have e:decide (V.str i=V.str j)=decide (i=j):=by rw[M7];constructor<;>intro h<;>(try cases h)<;>(try rw[h])<;>rfl
 unfold CK;rw[e];exact propext ⟨fun h=>h.2,fun h=>⟨rfl,h⟩⟩
theorem Iz(i j:Str)(H:Hp)(Q:VK):Gz (.str i) (.str j) H Q=Q (.bl (!decide (i=j))) H:=by
 have e:decide (V.str i=V.str j)=decide (i=j):=by rw[M7];constructor<;>intro h<;>(try cases h)<;>(try rw[h])<;>rfl
 unfold Gz;rw[e];exact propext ⟨fun h=>h.2,fun h=>⟨rfl,h⟩⟩
theorem HR(K:Pq)(b:Bool)(H:Hp)(k:Bool):uM K (.bl b) H k=(k=b):=rfl
theorem Jw(K:Pq)(i:Int)(H:Hp)(k:Bool):uM K (.int i) H k=(k=(i != 0)):=rfl
end Ap
noncomputable def KB(ex:List Addr)(H H':Hp):Prop:=∀ b o,H b=some o->b∉ex->H' b=some o
theorem KB.refl(ex:List Addr)(H:Hp):KB ex H H:=fun _ _ e _=>e
theorem KB.trans{H2:Hp}(a:KB ex H H1)(b:KB ex H1 H2):KB ex H H2:=fun c o e n=>b c o (a c o e n) n
theorem KB.mono{ex':List Addr}(h:KB ex H H')(s:∀ b∈ex,b∈ex'):KB ex' H H':=fun b o e n=>h b o e fun z=>n (s b z)
theorem KB.all(h:KB [] H H'):KB ex H H':=h.mono (by simp)
theorem KB.new(h:H p=none):KB ex H (upd H p o):=fun b u e _=>by rw[ab (ah e h)];exact e
theorem KB.set(h:p∈ex):KB ex H (upd H p o):=fun b u e n=>by rw[ab (fun (z:b=p)=>n (by rw[z];exact h))];exact e
theorem KB.free(h:KB ex H H')(n:b∉ex)(e:H' b=none):H b=none:=by
 cases q:H b with
 |none=>rfl
 |some o=>rw[h b o q n] at e;cases e
theorem Hz(x:α)(r:List α):bC (x::r) 0=some x:=bZ (j:=0) rfl
theorem DM(a x:α)(r:List α):bC (a::x::r) 1=some x:=bZ (j:=1) rfl
theorem Ht(a b x:α)(r:List α):bC (a::b::x::r) 2=some x:=bZ (j:=2) rfl
theorem HN(a b c x:α)(r:List α):bC (a::b::c::x::r) 3=some x:=bZ (j:=3) rfl
theorem v7{i:Int}(h0:0<=i)(h:i<n):jT n i=some i.toNat:=by unfold jT;rw[Kz h0,Kz h]
namespace Ap
theorem ft(K:Pq)(p:Addr)(i:Int)(H:Hp)(Q:VK):Fp K (.ref p) (.int i) H Q=(match sq H p with
  |some (_,xs)=>(match bC xs i with|some v=>Q v H|none=>False)
  |none=>∃ xs v,aW K H p xs/\bC xs i=some v/\Q v H):=rfl
theorem setRef(p:Addr)(k:Int)(v:V)(H:Hp)(Q:Hp->Prop):vJ (.ref p) (.int k) v H Q=(match H p with
  |some (.lst xs)=>(match jT xs.length k with|some j=>Q (upd H p (.lst (xs.set j v)))|none=>False)
  |_=>False):=rfl
theorem mr(K:Pq)(p:Addr)(H:Hp)(Q:VK):AD K [.ref p] H Q=(match sq H p with
  |some (_,ys)=>Q (.int ys.length) H
  |none=>∃ ys,aW K H p ys/\Q (.int ys.length) H):=rfl
theorem mx(K:Pq)(p:Addr)(H:Hp)(Q:VK):dP K [.ref p] H Q=(match sq H p with
  |some (true,ys)=>∀ l,H l=none->Q (.ref l) (upd H l (.tup ys))
  |some (false,_)=>Q (.ref p) H
  |none=>∃ ys,aW K H p ys/\Q (.ref p) H):=rfl
end Ap
theorem b9{t u:TS}(h:∀ N,N=u D->t {D with nx:=N} σ H):uS t u D σ H:=h _ rfl
structure QE (X:Cx) (e:Expr) (t:TE):Prop where h:PE X e t
structure QT (X:Cx) (e:Expr) (t:TT):Prop where h:PT X e t
structure QW (X:Cx) (e:Expr) (t:TT):Prop where h:PW X e t
structure QA (X:Cx) (es:List Expr) (t:TA):Prop where h:PA X es t
structure QS (X:Cx) (st:Stmt) (t:TS):Prop where h:PS X st t
structure QB (X:Cx) (sts:List Stmt) (t:TS):Prop where h:pC X sts t
structure QI (X:Cx) (tg it:Expr) (t:TI):Prop where h:PI X tg it t
structure QG (X:Cx) (e:Expr) (t:TG):Prop where h:PG X e t
structure HJ (X:Cx) (es:List Expr) (t:pA):Prop where h:Fb X es t
structure QO (X:Cx) (e:Option Expr) (t:TO):Prop where h:PO X e t
structure Fu (X:Cx) (es:List Expr) (t:TT):Prop where h:Fs X es t
namespace Z
noncomputable def sim(b:Expr):Bool:=match b with
 |.Name .. |.Constant .. |.Call .. |.BinOp .. |.Subscript .. |.Attribute .. |.UnaryOp .. |.Compare .. |.IfExp ..=>true
 |_=>false
theorem JT{b:Expr}(h:sim b=true):sY b:=by
 cases b<;>first | (intro _ _;rfl)|cases h
noncomputable def Ia(b:Expr):Bool:=match b with
 |.Name .. |.Call .. |.Subscript .. |.Attribute ..=>true
 |_=>false
theorem ptr{b:Expr}(h:Ia b=true):∀ whole,isTrue b env whole=(do let v <- whole;standAt b.pos;holding [v] (truthy v)):=by
 cases b<;>first | (intro _;rfl)|cases h
noncomputable def Fq(b:Expr):Bool:=match b with
 |.ListComp .. |.SetComp .. |.DictComp ..=>false
 |_=>true
theorem Ic{b:Expr}{tg:Option Expr}{l:Nat}(h:Fq b=true):swapsWith b tg l env=pure false:=by
 cases b<;>first|rfl|cases h
section
variable {X:Cx}
theorem lh(K:Pq)(hK:X.K=K):cW X (binaryOp .Add) (gJ K):=by subst hK;exact Be
theorem gq(K:Pq)(hK:X.K=K)(hu:k<cLine):rF X (Fp K):=by subst hK;exact Kg hu
theorem rd(K:Pq)(hK:X.K=K):aH X (.builtin "len") (AD K):=by subst hK;exact ur
theorem Hn(K:Pq)(hK:X.K=K):aH X (.builtin "isinstance") (o8 K):=by subst hK;exact uZ
theorem gA(K:Pq)(hK:X.K=K):aH X (.type "tuple") (dP K):=by subst hK;exact nk
end
section
variable {X:Cx} {a b c e o:Expr} {es:List Expr} {ta tb tc te to:TE} {t:TA} {pos p p2:Pos} {tA tB':TT} {rest:List Expr} {x:Str}
theorem int{i:Int}:QE X (.Constant (.int i) j pos) (tC (.int i)):=⟨jL⟩
theorem bl{i:Bool}:QE X (.Constant (.bool i) j pos) (tC (.bl i)):=⟨yW⟩
theorem aM:QE X (.Constant .none j pos) (tC .aM):=⟨vy⟩
theorem str{i:Str}:QE X (.Constant (.str i) j pos) (tC (.str i)):=⟨xP⟩
theorem v(i:Nat)(hN:autoParam (X.N[i]?=some x) ℜ0)(hv:autoParam (Dm X.env.scope x) ℜ4)(hd:autoParam ((x ==("__debug__":Str))=false) ℜ1)
  (hcd:autoParam ((x ==("__classdict__":Str))=false) ℜ1):QE X (.Name x pos) (uH i):=⟨pv i hN hv hd hcd⟩
theorem glob{w:V}{u:Value}(hg:Gl X x)(hm:X.mg x=some u)(r:RelV w u)(hd:autoParam ((x ==("__debug__":Str))=false) ℜ1):QE X (.Name x pos) (tC w):=⟨lS hg hm r hd⟩
theorem op{o:Operator}{r:R2}(ho:cW X (binaryOp o) r)(ha:QE X a ta)(hb:QE X b tb):QE X (.BinOp a o b pos) (vt r ta tb):=⟨Hk ho ha.h hb.h⟩
theorem un{o:UnaryOp}{r:V->Hp->VK->Prop}(ho:Il X (unaryOp o) r)(ha:QE X a ta):QE X (.UnaryOp o a pos) (JK r ta):=⟨GK ho ha.h⟩
theorem cmp{o:CmpOp}{r:R2}(ho:cW X (compareOp o) r)(ha:QE X a ta)(hb:QE X b tb)(hm:autoParam (behindInMarks o b=false) ℜ0):QE X (.Compare a [o] [b] pos) (vt r ta tb):=⟨Ai ho ha.h hb.h hm⟩
theorem and(ha:QE X a ta)(hb:QE X (.BoolOp .And (b::rest) pos) tb):QE X (.BoolOp .And (a::b::rest) pos) (Ct ta tb):=⟨EK ha.h hb.h⟩
theorem one{o:BoolOp}(ha:QE X a ta):QE X (.BoolOp o [a] pos) ta:=⟨Dj ha.h⟩
theorem not(ha:QE X a ta):QE X (.UnaryOp .Not a pos) (BY ta):=⟨EM ha.h⟩
theorem GB(hc:QT X c tA)(ha:QE X a ta)(hb:QE X b tb):QE X (.IfExp c a b pos) (G9 tA ta tb):=⟨wO hc.h ha.h hb.h⟩
theorem slice{r:V->Option Int->Option Int->Hp->VK->Prop}{tl th:TO}(hr:vn X r)(he:QE X e te)(hl:QO X lo tl)(hu:QO X hi th):QE X (.Subscript e (.Slice lo hi none p2) pos) (JV r te tl th):=⟨vU hr he.h hl.h hu.h⟩
theorem zC:QO X none sk:=⟨q_⟩
theorem zB(he:QE X e te):QO X (some e) (C9 te):=⟨lL he.h⟩
theorem ix{r:R2}(hr:rF X r)(ha:QE X a ta)(hb:QE X b tb)(hs:autoParam (sim b=true) ℜ0):QE X (.Subscript a b pos) (vt r ta tb):=⟨Co hr ha.h hb.h (JT hs)⟩
theorem tup(h:QA X es t):QE X (.Tuple es k pos) (zg t):=⟨CN h.h⟩
theorem lst(h:QA X es t):QE X (.List es pos) (wy t):=⟨DJ h.h⟩
theorem nil:QA X [] iX:=⟨vK⟩
theorem cons(ha:QE X e te)(hr:QA X es t)(h:autoParam (cK e=true) ℜ0):QA X (e::es) (fY te t):=⟨Jq ha.h hr.h h⟩
theorem consts{vs:List V}(h:kL es=some vs):QA X es (tK vs):=⟨kn h⟩
theorem cb{id:String}(hc:aH X (.builtin id) r)(hg:Gl X x)(hm:X.mg x=none)(hv:bootBuiltins x=some (.builtin id))(ha:QA X (e::es) t)(h1:autoParam (cK e=true) ℜ0)(h2:autoParam (es.all cK=true) ℜ0)(hn:autoParam (x≠"__name__") ℜ1)(hdb:autoParam ((x ==("__debug__":Str))=false) ℜ1):
  QE X (.Call (.Name x p) (e::es) [] pos) (vf r t):=⟨Gq hc hg hm hv ha.h h1 h2 hn hdb⟩
theorem ct{T:String}(hc:aH X (.type T) r)(hg:Gl X x)(hm:X.mg x=none)(hv:bootBuiltins x=some (.type T))(ha:QA X (e::es) t)(h1:autoParam (cK e=true) ℜ0)(h2:autoParam (es.all cK=true) ℜ0)(hn:autoParam (x≠"__name__") ℜ1)(hdb:autoParam ((x ==("__debug__":Str))=false) ℜ1):
  QE X (.Call (.Name x p) (e::es) [] pos) (vf r t):=⟨Gp hc hg hm hv ha.h h1 h2 hn hdb⟩
theorem Kb{T:String}(hg:Gl X x)(hm:X.mg x=none)(hv:bootBuiltins x=some (.type T))(hn:autoParam (x≠"__name__") ℜ1)(hd:autoParam ((x ==("__debug__":Str))=false) ℜ1):QE X (.Name x pos) (tC (.ty T)):=⟨D_ hg hm hv hn hd⟩
theorem fn{CX:m_}{ps:List Str}{E:XK}(F:aj X.prog X.w X.K X.mg X.base CX k x ps sp)(hr:ba k X.A)(hg:Gl X x)(hx:Passes CX X E)(ha:QA X (e::es) t)(h1:autoParam (cK e=true) ℜ0)(h2:autoParam (es.all cK=true) ℜ0)(hdb:autoParam ((x ==("__debug__":Str))=false) ℜ1):
  QE X (.Call (.Name x p) (e::es) [] pos) (j1 sp [] E t):=⟨Hy F hr hg hx ha.h h1 h2 hdb⟩
theorem bm(K:Pq)(hK:X.K=K){T id:String}{r:V->List V->Hp->VK->Prop}(pa:PlainAttrs T)(slot:Slot T name id)(hty:typeOf (.builtin id)=pure (.type "method_descriptor"))(hm:zz X id r)(ho:QE X o to)(ha:QA X (e::es) t)
  (hbase:autoParam (attributeBase o name X.env (eval o X.env)=eval o X.env) ℜ0) (hline:autoParam ((apos.endLine == pos.line)=true) ℜ0) (h:autoParam ((e::es).all cK=true) ℜ0) (hl:autoParam ((e::es).length<30) ℜ1):QE X (.Call (.Attribute o name apos) (e::es) [] pos) (Fh K T r to t):=by
 subst hK;exact⟨Ex pa slot hty hm ho.h ha.h hbase hline h hl⟩
theorem comp{own:List Str}{wi:TI}{g:TG}{tc:TT}(S:bT osc ON scope own N)(hosc:X.env.scope=osc)(hON:X.N=ON)(hc:X.calm=true)(hi:QI X tg iter wi)
  (hg:∀ C s H fp,QG (aE X scope N C s H fp) tg g) (ht:∀ C s H fp,Fu (aE X scope N C s H fp) ifs tc) (he:∀ C s H fp,QE (aE X scope N C s H fp) elt te) (hs:autoParam (∀ x,foldedSetIterable iter X.env x=pure x) ℜ3) :
  QE X (.ListComp elt [⟨tg,iter,ifs,0⟩] scope pos) (j4 wi own.length g tc te):=⟨BE S hosc hON hc hi.h (fun C s H fp=>(hg C s H fp).h) (fun C s H fp=>(ht C s H fp).h) (fun C s H fp=>(he C s H fp).h) hs⟩
theorem aZ{o:CmpOp}{r:R2}(ho:cW X (compareOp o) r)(ha:QE X a ta)(hb:QE X b tb)(hm:autoParam (behindInMarks o b=false) ℜ0):QT X (.Compare a [o] [b] pos) (kA (vt r ta tb)):=⟨zH ho ha.h hb.h hm⟩
theorem tw(h:QW X e tA):QT X e tA:=⟨h.h.pt⟩
theorem lP(ha:QT X a tA):QT X (.UnaryOp .Not a pos) (Hr tA):=⟨El ha.h⟩
noncomputable def Bi(K:Pq)(ta:TE):TT:=fun σ H Q=>ta σ H fun x H'=>∃ k,uM K x H' k/\Q k H'
theorem Ae(K:Pq)(hK:X.K=K)(ha:QE X a ta)(he:autoParam (Ia a=true) ℜ0):QT X a (Bi K ta):=by subst hK;exact⟨yo ha.h (ptr he)⟩
theorem mJ(ha:QT X a tA):QW X (.BoolOp .And [a] pos) tA:=⟨AS ha.h⟩
theorem u3(ha:QT X a tA):QW X (.BoolOp .Or [a] pos) tA:=⟨Dh ha.h⟩
theorem wA(ha:QT X a tA)(hb:QW X (.BoolOp .And (b::rest) pos) tB'):QW X (.BoolOp .And (a::b::rest) pos) (uq tA tB'):=⟨DE ha.h hb.h⟩
theorem CC(ha:QT X a tA)(hb:QW X (.BoolOp .Or (b::rest) pos) tB'):QW X (.BoolOp .Or (a::b::rest) pos) (Iv tA tB'):=⟨GQ ha.h hb.h⟩
theorem aO(hN:X.N.Nodup)(hi:X.N[i]?=some x)(hx:Loc X.env.scope x)(hf:autoParam (X.fn x=true\/X.env.scope.names.lookup x=some .local) ℜ2):QG X (.Name x pos) (bJ i):=⟨Bu hN hi hx hf⟩
theorem qd(K:Pq)(hK:X.K=K){tg:pA}(hc:X.calm=true)(h:HJ X es tg)(hn:autoParam ((assignEach es X.env).length=n) ℜ0)(hst:autoParam ((assignEach es X.env).findIdx? (·.1)=none) ℜ0):QG X (.Tuple es k pos) (nJ K n tg):=by subst hK;exact⟨w_ hc h.h hn hst⟩
theorem gb:HJ X [] mU:=⟨Aq⟩
theorem bH{g:TG}{u:pA}(h1:QG X e g)(h2:HJ X es u)(hs:autoParam ((assignEach (e::es) X.env).map (·.2)=assign e X.env::(assignEach es X.env).map (·.2)) ℜ0):HJ X (e::es) (eY g u):=⟨yc h1.h h2.h hs⟩
theorem oI{i:Expr}{ti:TE}(ho:QE X o to)(hi:QE X i ti)
  (ha:autoParam (∀ v,assign (.Subscript o i pos) X.env v=(do
   let ov <- holding [v] (eval o X.env)
   let iv <- holding [v,ov] (eval i X.env)
   standAt pos
   holding [v,ov,iv] (setItem ov iv v)
   release [v,ov,iv] [])) ℜ3):QG X (.Subscript o i pos) (zt to ti vJ):=⟨Et ho.h hi.h uset ha⟩
theorem pS{ta:TA}(hg:Gl X "range")(hm:X.mg "range"=none)(ha:QA X [a] ta)(h:autoParam (cK a=true) ℜ0):QI X tg (.Call (.Name "range" p) [a] [] pos) (yf ta):=⟨p7 hg hm ha.h h⟩
theorem Ez{ta:TA}(hg:Gl X "range")(hm:X.mg "range"=none)(ha:QA X [a,b] ta)(h:autoParam (cK a=true) ℜ0)(h2:autoParam (cK b=true) ℜ0):QI X tg (.Call (.Name "range" p) [a,b] [] pos) (xv ta):=⟨qT hg hm ha.h h h2⟩
theorem enum(K:Pq)(hK:X.K=K){ta:TA}(hg:Gl X "enumerate")(hm:X.mg "enumerate"=none)(ha:QA X [e] ta)(h1:autoParam (cK e=true) ℜ0):QI X (.Tuple es k tp) (.Call (.Name "enumerate" p) [e] [] pos) (CA K ta):=by subst hK;exact⟨AF hg hm ha.h h1⟩
theorem any(K:Pq)(hK:X.K=K){l:Expr}(hl:QE X l tl):QI X tg l (u9 K tl):=by subst hK;exact⟨Eu hl.h⟩
theorem nY:Fu X [] kN:=⟨BM⟩
theorem Jr(h:QT X c tA):Fu X [c] tA:=⟨A8 h.h⟩
end
section
variable {X:Cx} {e o tg:Expr} {te to:TE} {st:Stmt} {sts xs ys:List Stmt} {t u:TS} {pos pos':Pos} {x:Str}
theorem bG:QB X [] nr:=⟨AX⟩
theorem az(h:QS X st t):QB X [st] t:=⟨AG h.h⟩
theorem af(h:QS X st t)(h2:QB X sts u):QB X (st::sts) (uS t u):=⟨yF h.h h2.h⟩
theorem set(hN:X.N.Nodup)(hi:X.N[i]?=some x)(hx:Loc X.env.scope x)(he:QE X e te)(hs:autoParam (Fq e=true) ℜ0)(hf:autoParam (X.fn x=true\/X.env.scope.names.lookup x=some .local) ℜ2):
  QS X (.Assign [.Name x pos'] e pos) (kh te (bJ i)):=⟨DK hN hi hx he.h (Ic hs) hf⟩
theorem setC{own:List Str}{p2:Pos}{wi:TI}{g:TG}(hN:X.N.Nodup)(hj:X.N[j]?=some x)(hx:Loc X.env.scope x)(S:bT osc ON scope own N)(hosc:X.env.scope=osc)(hON:X.N=ON)(hc:X.calm=true)(hi:QI X tg iter wi)
  (hg:∀ C s H fp,QG (aE X scope N C s H fp) tg g) (ht:∀ C s H fp,Fu (aE X scope N C s H fp) ifs tc) (he:∀ C s H fp,QE (aE X scope N C s H fp) elt te)
  (hsw:autoParam (swapsWith (.ListComp elt [⟨tg,iter,ifs,0⟩] scope p2) (some (.Name x pos')) pos.line X.env=pure true) ℜ0)
  (hf:autoParam (X.fn x=true\/X.env.scope.names.lookup x=some .local) ℜ2) (hs:autoParam (∀ x,foldedSetIterable iter X.env x=pure x) ℜ3) :
  QS X (.Assign [.Name x pos'] (.ListComp elt [⟨tg,iter,ifs,0⟩] scope p2) pos) (kh (j4 wi own.length g tc te) (bJ j)):=⟨qm hN hj hx S hosc hON hc hi.h (fun C s H fp=>(hg C s H fp).h) (fun C s H fp=>(ht C s H fp).h) (fun C s H fp=>(he C s H fp).h) hsw hf hs⟩
theorem asg{g:TG}(he:QE X e te)(hg:QG X tg g)(hs:autoParam (swapsWithSole [tg] e pos.line X.env=pure false) ℜ0)(hw:autoParam (swappedStores [tg] e X.env=pure none) ℜ0)
  (h1:autoParam ((assignEach [tg] X.env).map (·.2)=[assign tg X.env]) ℜ0):QS X (.Assign [tg] e pos) (kh te g):=⟨ER he.h hg.h hs hw h1⟩
theorem ret(he:QE X e te):QS X (.Return (some e) pos) (xI te):=⟨DF he.h⟩
theorem expr(he:QE X e te)(hs:autoParam (Fq e=true) ℜ0):QS X (.Expr e pos) (nj te):=⟨AR he.h (Ic hs)⟩
theorem e9{c:Expr}(hc:QT X c tc)(ha:QB X xs t)(hb:QB X ys u):QS X (.If c xs ys pos) (xG tc t u):=⟨Hu hc.h ha.h hb.h⟩
theorem h_{wi:TI}{g:TG}(hp:PassesOwn (model X.prog X.w) X.A X.env X.xe)(hc:X.calm=true)(hi:QI X tg iter wi)(hg:QG X tg g)(hb:QB X xs t)(hs:autoParam (∀ x,foldedSetIterable iter X.env x=pure x) ℜ3):QS X (.For tg iter xs [] pos) (EL wi g t):=⟨Ea hp hc hi.h hg.h hb.h hs⟩
theorem ic{c:Expr}(hp:PassesOwn (model X.prog X.w) X.A X.env X.xe)(hc:QT X c tc)(hb:QB X xs t):QS X (.While c xs [] pos) (wY tc t):=⟨ye hp hc.h hb.h⟩
end
end Z
namespace Ap
theorem Bi(K:Pq)(ta:TE)(σ:St)(H:Hp)(Q:Bool->Hp->Prop):L2.Z.Bi K ta σ H Q=ta σ H fun x H'=>∃ k,uM K x H' k/\Q k H':=rfl
end Ap
theorem HasFn.JY{ps:List Str}(F:HasFn K mg x st ps)(S:ar N ps (aa st))(len:∀ vs H Q E,sp vs H Q E->vs.length=ps.length)
  (hbody:∀(f:Addr) (cdv:Value) (A:Around) (outer:List Env) (s:Shared) (H:Hp) (vs:List V) (Q:VK) (E:XK),ba k (A.deeper (envOfC x (aa st) s.heap.objs.size f cdv))->sp vs H Q E ->
   ∃ t,QB (eE aV P w K mg base N x (aa st) f cdv A outer s H E).mD (aC st) t/\t {nx:=fun _ H'=>Q .aM H',rt:=Q} (start N vs) H):aj P w K mg base aV (k+1) x ps sp:=
 F.ok S len fun f cdv A outer s H vs Q E hr h=>let ⟨t,q,r⟩:=hbody f cdv A outer s H vs Q E hr h;⟨t,q.h,r⟩
noncomputable def Ir(e:Addr)(cls:Value)(d:Option Addr)(h:Heap):Prop:=∃ o vs,h.get? e=some o/\o.cls=cls/\o.dict=d/\o.data=.fields vs
noncomputable def GX(c:Addr)(n:Nat)(h:Heap):Prop:=∃(its:List Value) (m:Nat),h.get? c=some {cls:=.type "list",data:=.seq its.toArray m}/\its.length=n/\∀ v∈its,∃(i:Int) (t:Tok),v=.int i t/\0<=i
inductive T where
 |il (n:Nat)|aM|bl (b:Bool)|int (i:Int)|str (x:Str)|tup (ts:List T)|lst (ts:List T)|dW (ts:List T)|gw (lo hi:Int)|dN (ts:List T)|mH (ks:List Key) (ts:List T)|exc (c:Value) (f:Option (Str×Int))
variable{c:T}{ts us:List T}
abbrev aL:=Addr->Prop
variable{B B':aL}
noncomputable def zA(K:Pq)(a:Addr)(xs:List V):Prop:=∃(o:Obj) (its:Array Value) (n:Nat),K.lookup a=some o/\o.cls=.type "tuple"/\o.data=.seq its n/\its.size<=sizeLine/\Vals xs its.toList
noncomputable def Ki(K:Pq)(a:Addr)(xs:List V):Prop:=∃(o:Obj) (its:Array Value) (n:Nat),K.lookup a=some o/\o.cls=.type "list"/\o.dict=none/\o.data=.seq its n/\its.size<=sizeLine/\Vals xs its.toList
noncomputable def LB(K:Pq)(H:Hp)(B:aL)(a:Addr)(xs:List V):Prop:=(¬ B a/\Rd H a (.lst xs))\/Ki K a xs
mutual
inductive Rep (K:Pq) (H:Hp) (B:aL):V->T->Prop
 |aM:Rep K H B .aM .aM
 |bl (b:Bool):Rep K H B (.bl b) (.bl b)
 |int (i:Int):Rep K H B (.int i) (.int i)
 |str (x:Str):Rep K H B (.str x) (.str x)
 |tup {a:Addr} {vs:List V} {ts:List T} (n:¬ B a) (h:H a=some (.tup vs)) (r:ai K H B vs ts):Rep K H B (.ref a) (.tup ts)
 |dN {a:Addr} {vs:List V} {ts:List T} (h:zA K a vs) (r:ai K H B vs ts):Rep K H B (.ref a) (.dN ts)
 |lst {a:Addr} {vs:List V} {ts:List T} (n:¬ B a) (h:H a=some (.lst vs)) (r:ai K H B vs ts):Rep K H B (.ref a) (.lst ts)
 |dW {a:Addr} {vs:List V} {ts:List T} (h:LB K H B a vs) (r:ai K H B vs ts):Rep K H B (.ref a) (.dW ts)
 |gw {a:Addr} {lo hi:Int} (n:¬ B a) (h:H a=some (.gw lo hi)):Rep K H B (.ref a) (.gw lo hi)
 |mH {a:Addr} {ks:List Key} {vs:List V} {ts:List T} (n:¬ B a) (h:Rd H a (.dK (ks.zip vs))) (l:ks.length=vs.length) (r:ai K H B vs ts):Rep K H B (.ref a) (.mH ks ts)
 |exc {a:Addr} {c:Value} (n:¬ B a) (h:H a=some (.ext (Ir a c none))):Rep K H B (.ref a) (.exc c none)
 |Au {a d:Addr} {c:Value} {x:Str} {i:Int} (n:¬ B a) (h:H a=some (.ext (Ir a c (some d)))) (m:¬ B d) (g:H d=some (.xd [(x,.int i)])):Rep K H B (.ref a) (.exc c (some (x,i)))
 |il {a:Addr} {n:Nat} (m:¬ B a) (h:H a=some (.ext (GX a n))):Rep K H B (.ref a) (.il n)
inductive ai (K:Pq) (H:Hp) (B:aL):List V->List T->Prop
 |nil:ai K H B [] []
 |cons {v:V} {t:T} {vs:List V} {ts:List T} (h:Rep K H B v t) (r:ai K H B vs ts):ai K H B (v::vs) (t::ts)
end
noncomputable def Fr(B:aL)(H:Hp)(B':aL)(H':Hp):Prop:=∀ b o,H b=some o->¬ B b->H' b=some o/\¬ B' b
theorem Fr.refl:Fr B H B H:=fun _ _ h n=>⟨h,n⟩
theorem Fr.trans{B1 B2:aL}{H2:Hp}(a:Fr B H B1 H1)(b:Fr B1 H1 B2 H2):Fr B H B2 H2:=fun c o h n=>let ⟨h1,n1⟩:=a c o h n;b c o h1 n1
theorem Fr.same(s:bQ H H'):Fr B H B H':=fun b o h n=>⟨s b o h,n⟩
theorem Fr.less(s:∀ b,B' b->B b):Fr B H B' H:=fun b o h n=>⟨h,fun z=>n (s b z)⟩
theorem Fr.set(h:B a):Fr B H B (upd H a o):=fun b u e n=>⟨by rw[ab (by rintro rfl;exact n h)];exact e,n⟩
theorem bQ.new(h:H p=none):bQ H (upd H p o):=fun b u e=>by rw[ab (ah e h)];exact e
theorem Fr.more(h:H p=none):Fr B H (fun b=>b=p\/B b) (upd H p o):=fun b u e n=>⟨bQ.new h b u e,fun z=>z.elim (ah e h) n⟩
theorem Rd.fr{u:HO}(f:Fr B H B' H')(n:¬ B a)(h:Rd H a u):¬ B' a/\Rd H' a u:=by
 rcases h with h|⟨o,h⟩
 ·exact⟨(f a _ h n).2,.inl (f a _ h n).1⟩
 ·exact⟨(f a _ h n).2,.inr ⟨o,(f a _ h n).1⟩⟩
section
variable {K:Pq} {H H':Hp} {B B':aL}
theorem LB.fr(f:Fr B H B' H')(h:LB K H B a xs):LB K H' B' a xs:=h.elim (fun z=>.inl (z.2.fr f z.1)) .inr
theorem LB.sq(h:LB K H B a xs):bz K H a xs:=h.elim (fun z=>.inl z.2) .inr
mutual
theorem Rep.fr(f:Fr B H B' H'):∀{v:V} {t:T},Rep K H B v t->Rep K H' B' v t
 |_,_,.aM=>.aM
 |_,_,.bl b=>.bl b
 |_,_,.int i=>.int i
 |_,_,.str x=>.str x
 |_,_,.tup n h r=>.tup (f _ _ h n).2 (f _ _ h n).1 (ai.fr f r)
 |_,_,.dN h r=>.dN h (ai.fr f r)
 |_,_,.lst n h r=>.lst (f _ _ h n).2 (f _ _ h n).1 (ai.fr f r)
 |_,_,.dW h r=>.dW (h.fr f) (ai.fr f r)
 |_,_,.gw n h=>.gw (f _ _ h n).2 (f _ _ h n).1
 |_,_,.mH n h l r=>.mH (Rd.fr f n h).1 (Rd.fr f n h).2 l (ai.fr f r)
 |_,_,.exc n h=>.exc (f _ _ h n).2 (f _ _ h n).1
 |_,_,.Au n h m g=>.Au (f _ _ h n).2 (f _ _ h n).1 (f _ _ g m).2 (f _ _ g m).1
 |_,_,.il n h=>.il (f _ _ h n).2 (f _ _ h n).1
theorem ai.fr(f:Fr B H B' H'):∀{vs:List V} {ts:List T},ai K H B vs ts->ai K H' B' vs ts
 |_,_,.nil=>.nil
 |_,_,.cons h r=>.cons (Rep.fr f h) (ai.fr f r)
end
theorem ai.length:∀{vs:List V} {ts:List T},ai K H B vs ts->vs.length=ts.length
 |_,_,.nil=>rfl
 |_,_,.cons _ r=>Le (·+1) (ai.length r)
theorem ai.get:∀{vs:List V} {ts:List T} {i:Nat} {t:T},ai K H B vs ts->ts[i]?=some t->∃ v,vs[i]?=some v/\Rep K H B v t
 |_,_,_,_,.nil,e=>by simp at e
 |_,_,0,_,.cons h _,e=>by simp at e;subst e;exact⟨_,rfl,h⟩
 |_,_,i+1,_,.cons _ r,e=>by
  obtain⟨v,e1,h⟩:=ai.get r (by simpa using e)
  exact⟨v,by simpa using e1,h⟩
theorem ai.append:∀{vs ws:List V} {ts us:List T},ai K H B vs ts->ai K H B ws us->ai K H B (vs++ws) (ts++us)
 |_,_,_,_,.nil,s=>s
 |_,_,_,_,.cons h r,s=>.cons h (ai.append r s)
theorem ai.take:∀{vs:List V} {ts:List T} (n:Nat),ai K H B vs ts->ai K H B (vs.take n) (ts.take n)
 |_,_,0,_=>.nil
 |_,_,_+1,.nil=>.nil
 |_,_,n+1,.cons h r=>.cons h (ai.take n r)
theorem ai.drop:∀{vs:List V} {ts:List T} (n:Nat),ai K H B vs ts->ai K H B (vs.drop n) (ts.drop n)
 |_,_,0,r=>r
 |_,_,_+1,.nil=>.nil
 |_,_,n+1,.cons _ r=>ai.drop n r
theorem ai.set:∀{vs:List V} {ts:List T} {v:V} {t:T} (i:Nat),Rep K H B v t->ai K H B vs ts->ai K H B (vs.set i v) (ts.set i t)
 |_,_,_,_,_,_,.nil=>.nil
 |_,_,_,_,0,h,.cons _ r=>.cons h r
 |_,_,_,_,i+1,h,.cons q r=>.cons q (ai.set i h r)
theorem ai.rep{vs:List V}(r:ai K H B vs ts):∀ n:Nat,ai K H B (List.replicate n vs).flatten (List.replicate n ts).flatten
 |0=>.nil
 |n+1=>by rw[Li,Li,LA,LA];exact r.append (ai.rep r n)
theorem ai.erase:∀{vs:List V} {ts:List T} (i:Nat),ai K H B vs ts->ai K H B (vs.eraseIdx i) (ts.eraseIdx i)
 |_,_,_,.nil=>.nil
 |_,_,0,.cons _ r=>r
 |_,_,i+1,.cons h r=>.cons h (ai.erase i r)
theorem ai.bC{vs:List V}{i:Int}{t:T}(r:ai K H B vs ts)(e:L2.bC ts i=some t):∃ v,L2.bC vs i=some v/\Rep K H B v t:=by
 unfold L2.bC at e ⊢;rw[r.length]
 cases q:jT ts.length i with
 |none=>rw[q] at e;cases e
 |some j=>rw[q] at e;exact r.get e
end
noncomputable def aK:T->Bool
 |.aM|.bl _|.int _|.str _=>true
 |_=>false
theorem Rep.flat{v:V}{t:T}(h:Rep K H B v t)(f:aK t=true):Rep K H' B' v t:=by
 cases h with
 |aM=>exact .aM
 |bl b=>exact .bl b
 |int i=>exact .int i
 |str x=>exact .str x
 |tup=>cases f
 |dN=>cases f
 |lst=>cases f
 |dW=>cases f
 |gw=>cases f
 |mH=>cases f
 |exc=>cases f
 |Au=>cases f
 |il=>cases f
theorem ai.flat:∀{vs:List V} {ts:List T},ai K H B vs ts->ts.all aK=true->ai K H' B' vs ts
 |_,_,.nil,_=>.nil
 |_,_,.cons h r,f=>by
  rw[LW,L7] at f;exact .cons (h.flat f.1) (ai.flat r f.2)
noncomputable def Bx(K:Pq)(H:Hp)(B:aL)(a:Addr)(c:T):Prop:=match c with
 |.lst ts=>∃ vs,H a=some (.lst vs)/\ai K H B vs ts
 |.mH ks ts=>∃ vs,H a=some (.dK (ks.zip vs))/\ks.length=vs.length/\ai K H B vs ts
 |_=>False
theorem Bx.gj(h:Bx K H B a c):∃ o,H a=some o:=by
 unfold Bx at h
 split at h
 ·obtain⟨vs,e,_⟩:=h;exact⟨_,e⟩
 ·obtain⟨vs,e,_⟩:=h;exact⟨_,e⟩
 ·exact h.elim
theorem Bx.of(h:Bx K H B a c)(e:H' a=H a)(f:Fr B H B' H'):Bx K H' B' a c:=by
 unfold Bx at h ⊢
 split at h
 ·obtain⟨vs,q,r⟩:=h;exact⟨vs,e.trans q,r.fr f⟩
 ·obtain⟨vs,q,l,r⟩:=h;exact⟨vs,e.trans q,l,r.fr f⟩
 ·exact h.elim
theorem Bx.is(h:Bx K H B a c):(∃ ts vs,c=.lst ts/\H a=some (.lst vs)/\ai K H B vs ts)\/∃ ks ts vs,c=.mH ks ts/\H a=some (.dK (ks.zip vs))/\ks.length=vs.length/\ai K H B vs ts:=by
 unfold Bx at h
 split at h
 ·obtain⟨vs,q,r⟩:=h;exact .inl ⟨_,vs,rfl,q,r⟩
 ·obtain⟨vs,q,l,r⟩:=h;exact .inr ⟨_,_,vs,rfl,q,l,r⟩
 ·exact h.elim
theorem Bx.rep(h:Bx K H B a c)(n:¬ B a):Rep K H B (.ref a) c:=by
 rcases h.is with ⟨ts,vs,rfl,e,r⟩|⟨ks,ts,vs,rfl,e,l,r⟩
 ·exact .lst n e r
 ·exact .mH n (.inl e) l r
inductive Sl where
 |un|tr (t:T)|bx (c:T)|pb (c:T)
abbrev Mu:=List Sl
variable{μ μ':Mu}{dr:Mu->Mu}
inductive R where
 |tr (t:T)|br (i:Nat)|fr (c:T)
structure Fx where
 K:Pq
 H0:Hp
 P:Nat->Option Addr
 Bc:aL
 bh:∀ b,Bc b->∃ o,H0 b=some o
 G:Addr->Option (List V)
variable{F:Fx}
noncomputable def iE(F:Fx)(ad:Nat->Addr)(B:aL)(H:Hp)(i:Nat)(s:Sl)(x:Option (Option V)):Prop:=match s with
 |.un=>True
 |.tr t=>∃ v,x=some (some v)/\Rep F.K H B v t
 |.bx c=>x=some (some (.ref (ad i)))/\B (ad i)/\F.H0 (ad i)=none/\F.P i=none/\Bx F.K H B (ad i) c
 |.pb c=>x=some (some (.ref (ad i)))/\B (ad i)/\F.P i=some (ad i)/\Bx F.K H B (ad i) c
noncomputable def Sl.box:Sl->Option T
 |.bx c=>some c
 |.pb c=>some c
 |_=>none
structure Rl (F:Fx) (ad:Nat->Addr) (B:aL) (σ:St) (H:Hp) (μ:Mu):Prop where
 len:μ.length=σ.length
 slot:∀ i s,μ[i]?=some s->iE F ad B H i s σ[i]?
 inj:∀ i j s u c d,μ[i]?=some s->μ[j]?=some u->s.box=some c->u.box=some d->ad i=ad j->i=j
 par:∀ i a,F.P i=some a->(∃ c,μ[i]?=some (.pb c))/\ad i=a
 bc:∀ b,F.Bc b->B b
 gj:∀ b,B b->∃ o,H b=some o
 old:∀ b o,F.H0 b=some o->(∀ i,F.P i≠some b)->H b=some o
 gh:∀ a vs,F.G a=some vs->H a=some (.lst vs)/\B a/\∀(i:Nat) (s:Sl) (c:T),μ[i]?=some s->s.box=some c->ad i≠a
theorem iE.boxed{s:Sl}{x:Option (Option V)}(h:iE F ad B H i s x)(e:s.box=some c):x=some (some (.ref (ad i)))/\B (ad i)/\Bx F.K H B (ad i) c/\(F.P i=some (ad i)\/F.H0 (ad i)=none):=by
 unfold iE at h
 split at h
 ·cases e
 ·cases e
 ·cases e;exact⟨h.1,h.2.1,h.2.2.2.2,.inr h.2.2.1⟩
 ·cases e;exact⟨h.1,h.2.1,h.2.2.2,.inl h.2.2.1⟩
noncomputable def Hv(F:Fx)(ad:Nat->Addr)(B:aL)(H:Hp)(μ:Mu)(v:V)(r:R):Prop:=match r with
 |.tr t=>Rep F.K H B v t
 |.br i=>v=.ref (ad i)/\∃ s c,μ[i]?=some s/\s.box=some c
 |.fr _=>False
noncomputable def more(B:aL)(a:Addr):aL:=fun b=>b=a\/B b
noncomputable def Vr(F:Fx)(ad:Nat->Addr)(B:aL)(σ:St)(H:Hp)(μ:Mu)(v:V)(r:R):Prop:=match r with
 |.fr c=>Rl F ad B σ H μ/\∃ a,v=.ref a/\¬ B a/\F.H0 a=none/\Rl F ad (more B a) σ H μ/\Bx F.K H (more B a) a c
 |r=>Rl F ad B σ H μ/\Hv F ad B H μ v r
noncomputable def R.d:R->R
 |.fr c=>.tr c
 |r=>r
section
variable {F:Fx} {ad:Nat->Addr} {B B':aL} {σ:St} {H H':Hp} {μ:Mu} {v:V} {r:R}
theorem Rl.E1(h:Rl F ad B σ H μ)(e:H p=none):F.H0 p=none:=by
 cases q:F.H0 p with
 |none=>rfl
 |some o =>
  by_cases z:∃ i,F.P i=some p
  ·obtain⟨i,z⟩:=z;obtain⟨⟨c,hc⟩,ha⟩:=h.par i p z;have:=(h.slot i _ hc).boxed (c:=c) rfl;obtain⟨o',e'⟩:=h.gj _ this.2.1;rw[ha,e] at e';cases e'
  ·have:=h.old p o q fun i zi=>z ⟨i,zi⟩;rw[e] at this;cases this
theorem Rl.v9(h:Rl F ad B σ H μ)(e:H p=none):¬ B p:=fun z=>by
 obtain⟨o,q⟩:=h.gj p z;rw[e] at q;cases q
theorem Rl.fr(h:Rl F ad B σ H μ)(s:bQ H H')(hB:∀ b,B b->B' b)(hT:∀ b,B' b->∃ o,H' b=some o)(f:Fr B H B' H'):Rl F ad B' σ H' μ:=by
 refine⟨h.len,fun i s' e=>?_,h.inj,h.par,fun b z=>hB b (h.bc b z),hT,fun b o e n=>s b o (h.old b o e n),fun a vs e=>let ⟨g1,g2,g3⟩:=h.gh a vs e;⟨s a _ g1,hB a g2,g3⟩⟩
 have k:=h.slot i s' e;unfold iE at k ⊢
 split at k
 ·trivial
 ·obtain⟨v,e1,r⟩:=k;exact⟨v,e1,r.fr f⟩
 ·obtain⟨e1,b,z,p,x⟩:=k;obtain⟨o,q⟩:=x.gj;exact⟨e1,hB _ b,z,p,x.of ((s _ _ q).trans q.symm) f⟩
 ·obtain⟨e1,b,p,x⟩:=k;obtain⟨o,q⟩:=x.gj;exact⟨e1,hB _ b,p,x.of ((s _ _ q).trans q.symm) f⟩
theorem Rl.same(h:Rl F ad B σ H μ)(s:bQ H H'):Rl F ad B σ H' μ:=h.fr s (fun _ z=>z) (fun b z=>let ⟨o,e⟩:=h.gj b z;⟨o,s b o e⟩) (Fr.same s)
theorem Rl.new(h:Rl F ad B σ H μ)(e:H p=none):Rl F ad (more B p) σ (upd H p o) μ:=
 h.fr (bQ.new e) (fun _ z=>.inr z) (fun b z=>z.elim (fun q=>by subst q;exact⟨o,ae⟩) fun q=>let ⟨u,w⟩:=h.gj b q;⟨u,bQ.new e b u w⟩) (Fr.more e)
theorem Rl.less(h:Rl F ad B σ H μ)(s:∀ b,B' b->B b)(hb:∀ b,F.Bc b->B' b)(own:∀ i s' c,μ[i]?=some s'->s'.box=some c->B' (ad i))(hg:∀ a vs,F.G a=some vs->B' a):Rl F ad B' σ H μ:=by
 refine⟨h.len,fun i s' e=>?_,h.inj,h.par,hb,fun b z=>h.gj b (s b z),h.old,fun a vs e=>let ⟨g1,g2,g3⟩:=h.gh a vs e;⟨g1,hg a vs e,g3⟩⟩
 have k:=h.slot i s' e;unfold iE at k ⊢
 split at k
 ·trivial
 ·obtain⟨v,e1,r⟩:=k;exact⟨v,e1,r.fr (Fr.less s)⟩
 ·obtain⟨e1,b,z,p,x⟩:=k;exact⟨e1,own i _ _ e rfl,z,p,x.of rfl (Fr.less s)⟩
 ·obtain⟨e1,b,p,x⟩:=k;exact⟨e1,own i _ _ e rfl,p,x.of rfl (Fr.less s)⟩
theorem Vr.rl(h:Vr F ad B σ H μ v r):Rl F ad B σ H μ:=by
 cases r with
 |tr t=>exact h.1
 |br i=>exact h.1
 |fr c=>exact h.1
theorem Vr.hv(h:Vr F ad B σ H μ v r):Hv F ad B H μ v r.d:=by
 cases r with
 |tr t=>exact h.2
 |br i=>exact h.2
 |fr c =>
  obtain⟨_,a,rfl,n,_,_,x⟩:=h;exact (x.of rfl (Fr.less fun _ z=>.inr z)).rep n
noncomputable def Kp(μ μ':Mu):Prop:=∀ i:Nat,((μ[i]?).bind Sl.box).isSome=((μ'[i]?).bind Sl.box).isSome
theorem Kp.refl(μ:Mu):Kp μ μ:=fun i=>rfl
theorem Kp.trans{μ1 μ2:Mu}(a:Kp μ μ1)(b:Kp μ1 μ2):Kp μ μ2:=fun i=>(a i).trans (b i)
theorem Kp.symm{μ1:Mu}(a:Kp μ μ1):Kp μ1 μ:=fun i=>(a i).symm
theorem Kp.fwd(k:Kp μ μ'):∀(i:Nat) (s:Sl) (c:T),μ[i]?=some s->s.box=some c->∃(s':Sl) (c':T),μ'[i]?=some s'/\s'.box=some c':=fun i s c e b=>by
 have h:=k i;rw[e] at h;have h1:(s.box).isSome=((μ'[i]?).bind Sl.box).isSome:=h;rw[b] at h1
 cases q:μ'[i]? with
 |none=>rw[q] at h1;cases h1
 |some s' =>
  rw[q] at h1;have h2:true=(s'.box).isSome:=h1
  cases q2:s'.box with
  |none=>rw[q2] at h2;cases h2
  |some c'=>exact⟨s',c',rfl,q2⟩
theorem Kp.set{s s':Sl}{d:T}(e:μ[i]?=some s)(b:s.box=some c)(b':s'.box=some d):Kp μ (μ.set i s'):=fun j=>by
 have hi:i<μ.length:=(K8.mp e).1;by_cases z:i=j
 ·subst z;rw[LR hi,e];show (s.box).isSome=(s'.box).isSome;rw[b,b'];rfl
 ·rw[Me z]
theorem Hv.fr(h:Hv F ad B H μ v r)(f:Fr B H B' H')(k:Kp μ μ'):Hv F ad B' H' μ' v r:=by
 cases r with
 |tr t=>exact Rep.fr f h
 |br i=>obtain⟨e,s,c,h1,h2⟩:=h;exact⟨e,k.fwd i s c h1 h2⟩
 |fr c=>exact h.elim
noncomputable def cont(μ:Mu):R->Option T
 |.tr t=>some t
 |.br i=>(μ[i]?).bind Sl.box
 |.fr c=>some c
inductive Vw (K:Pq) (H:Hp) (B:aL):V->T->Prop
 |aM:Vw K H B .aM .aM
 |bl (b:Bool):Vw K H B (.bl b) (.bl b)
 |int (i:Int):Vw K H B (.int i) (.int i)
 |str (x:Str):Vw K H B (.str x) (.str x)
 |tup {a:Addr} {vs:List V} {ts:List T} (h:H a=some (.tup vs)) (r:ai K H B vs ts):Vw K H B (.ref a) (.tup ts)
 |dN {a:Addr} {vs:List V} {ts:List T} (h:zA K a vs) (r:ai K H B vs ts):Vw K H B (.ref a) (.dN ts)
 |lst {a:Addr} {vs:List V} {ts:List T} (h:H a=some (.lst vs)) (r:ai K H B vs ts):Vw K H B (.ref a) (.lst ts)
 |dW {a:Addr} {vs:List V} {ts:List T} (h:bz K H a vs) (r:ai K H B vs ts):Vw K H B (.ref a) (.dW ts)
 |gw {a:Addr} {lo hi:Int} (h:H a=some (.gw lo hi)):Vw K H B (.ref a) (.gw lo hi)
 |mH {a:Addr} {ks:List Key} {vs:List V} {ts:List T} (h:Rd H a (.dK (ks.zip vs))) (l:ks.length=vs.length) (r:ai K H B vs ts):Vw K H B (.ref a) (.mH ks ts)
 |exc {a:Addr} {c:Value} (h:H a=some (.ext (Ir a c none))):Vw K H B (.ref a) (.exc c none)
 |Au {a d:Addr} {c:Value} {x:Str} {i:Int} (h:H a=some (.ext (Ir a c (some d)))) (g:H d=some (.xd [(x,.int i)])):Vw K H B (.ref a) (.exc c (some (x,i)))
 |il {a:Addr} {n:Nat} (h:H a=some (.ext (GX a n))):Vw K H B (.ref a) (.il n)
theorem Rep.vw{t:T}(h:Rep K H B v t):Vw K H B v t:=by
 cases h with
 |aM=>exact .aM
 |bl b=>exact .bl b
 |int i=>exact .int i
 |str x=>exact .str x
 |tup n h r=>exact .tup h r
 |dN h r=>exact .dN h r
 |lst n h r=>exact .lst h r
 |dW h r=>exact .dW h.sq r
 |gw n h=>exact .gw h
 |mH n h l r=>exact .mH h l r
 |exc n h=>exact .exc h
 |Au n h m g=>exact .Au h g
 |il n h=>exact .il h
theorem Hv.vw{t:T}(l:Rl F ad B σ H μ)(h:Hv F ad B H μ v r)(e:cont μ r=some t):Vw F.K H B v t:=by
 cases r with
 |tr u=>cases e;exact Rep.vw h
 |br i =>
  obtain⟨rfl,s,c,h1,h2⟩:=h;have e2:(μ[i]?).bind Sl.box=some t:=e;rw[h1] at e2;have e':s.box=some t:=e2;rcases ((l.slot i s h1).boxed e').2.2.1.is with ⟨ts,vs,rfl,q,rr⟩|⟨ks,ts,vs,rfl,q,ll,rr⟩
  ·exact .lst q rr
  ·exact .mH (.inl q) ll rr
 |fr c=>exact h.elim
noncomputable def Sl.put:Sl->T->Sl
 |.bx _,c=>.bx c
 |.pb _,c=>.pb c
 |s,_=>s
theorem Sl.iO{s:Sl}{d:T}(e:s.box=some c):(s.put d).box=some d:=by
 cases s<;>first|rfl|cases e
theorem Rl.put{s:Sl}{vs:List V}(l:Rl F ad B σ H μ)(e:μ[i]?=some s)(hb:s.box=some c)(r:ai F.K H B vs ts):Rl F ad B σ (upd H (ad i) (.lst vs)) (μ.set i (s.put (.lst ts))):=by
 have k0:=(l.slot i s e).boxed hb;have hi:i<μ.length:=(K8.mp e).1;have f:Fr B H B (upd H (ad i) (.lst vs)):=Fr.set k0.2.1;have get:∀ j,(μ.set i (s.put (.lst ts)))[j]?=if j=i then some (s.put (.lst ts)) else μ[j]?:=fun j=>by
  rw[Nn];by_cases z:i=j
  ·subst z;simp[hi]
  ·rw[Kx z,Kx (fun q=>z q.symm)]
 refine⟨by rw[Lp];exact l.len,fun j s' e'=>?_,fun j k s1 s2 c1 c2 e1 e2 b1 b2 q=>?_,fun j a p=>?_,l.bc,fun b z=>?_,fun b o e' n=>?_,fun a ws ga=>?_⟩
 ·rw[get] at e';by_cases z:j=i
  ·subst z;rw[Kz rfl] at e';cases e';have k:=l.slot j s e
   cases s with
   |un=>cases hb
   |tr t=>cases hb
   |bx d=>exact⟨k.1,k.2.1,k.2.2.1,k.2.2.2.1,vs,ae,r.fr f⟩
   |pb d=>exact⟨k.1,k.2.1,k.2.2.1,vs,ae,r.fr f⟩
  ·rw[Kx z] at e';have k:=l.slot j s' e';have ne:∀ d,s'.box=some d->ad j≠ad i:=fun d hd q=>z (l.inj j i s' s d c e' e hd hb q);unfold iE at k ⊢
   split at k
   ·trivial
   ·obtain⟨v,e1,r1⟩:=k;exact⟨v,e1,r1.fr f⟩
   ·obtain⟨e1,b,z0,p,x⟩:=k;exact⟨e1,b,z0,p,x.of (ab (ne _ rfl)) f⟩
   ·obtain⟨e1,b,p,x⟩:=k;exact⟨e1,b,p,x.of (ab (ne _ rfl)) f⟩
 ·rw[get] at e1 e2;have h1:∃ u d,μ[j]?=some u/\u.box=some d:=by
   by_cases z:j=i
   ·subst z;exact⟨s,c,e,hb⟩
   ·rw[Kx z] at e1;exact⟨_,_,e1,b1⟩
  have h2:∃ u d,μ[k]?=some u/\u.box=some d:=by
   by_cases z:k=i
   ·subst z;exact⟨s,c,e,hb⟩
   ·rw[Kx z] at e2;exact⟨_,_,e2,b2⟩
  obtain⟨u1,d1,g1,g2⟩:=h1;obtain⟨u2,d2,g3,g4⟩:=h2;exact l.inj j k u1 u2 d1 d2 g1 g3 g2 g4 q
 ·obtain⟨⟨d,hd⟩,ha⟩:=l.par j a p;refine⟨?_,ha⟩;rw[get];by_cases z:j=i
  ·subst z;rw[e] at hd;cases hd;rw[Kz rfl];exact⟨_,rfl⟩
  ·rw[Kx z];exact⟨d,hd⟩
 ·by_cases z':b=ad i
  ·subst z';exact⟨_,ae⟩
  ·rw[ab z'];exact l.gj b z
 ·have ne:b≠ad i:=by
   rintro rfl;rcases k0.2.2.2 with z|z
   ·exact n i z
   ·rw[z] at e';cases e'
  rw[ab ne];exact l.old b o e' n
 ·obtain⟨g1,g2,g3⟩:=l.gh a ws ga;refine⟨by rw[ab (fun z=>g3 i s c e hb z.symm)];exact g1,g2,fun j s' d e' b'=>?_⟩
  rw[get] at e';by_cases z:j=i
  ·subst z;exact g3 j s c e hb
  ·rw[Kx z] at e';exact g3 j s' d e' b'
theorem Rl.EJ{t:T}(l:Rl F ad B σ H μ)(hp:∀ c,μ[i]?≠some (.pb c))(h:Rep F.K H B v t):Rl F ad B (σ.set i (some v)) H (μ.set i (.tr t)):=by
 have get:∀ j,i<μ.length->(μ.set i (.tr t))[j]?=if j=i then some (.tr t) else μ[j]?:=fun j hi=>by
  rw[Nn];by_cases z:i=j
  ·subst z;simp[hi]
  ·rw[Kx z,Kx (fun q=>z q.symm)]
 by_cases hi:i<μ.length
 ·refine⟨by rw[Lp,Lp];exact l.len,fun j s' e'=>?_,fun j k s1 s2 c1 c2 e1 e2 b1 b2 q=>?_,fun j a p=>?_,l.bc,l.gj,l.old,fun a ws ga=>?_⟩
  ·rw[get j hi] at e';by_cases z:j=i
   ·subst z;rw[Kz rfl] at e';cases e';exact⟨v,by rw[LR (by rw[<- l.len];exact hi)],h⟩
   ·rw[Kx z] at e';rw[Me (Ne.symm z)];exact l.slot j s' e'
  ·rw[get j hi] at e1;rw[get k hi] at e2;by_cases z:j=i
   ·rw[Kz z] at e1;cases e1;cases b1
   ·by_cases z2:k=i
    ·rw[Kz z2] at e2;cases e2;cases b2
    ·rw[Kx z] at e1;rw[Kx z2] at e2;exact l.inj j k _ _ _ _ e1 e2 b1 b2 q
  ·obtain⟨⟨d,hd⟩,ha⟩:=l.par j a p;refine⟨⟨d,?_⟩,ha⟩;rw[get j hi];by_cases z:j=i
   ·subst z;exact absurd hd (hp d)
   ·rw[Kx z];exact hd
  ·obtain⟨g1,g2,g3⟩:=l.gh a ws ga;refine⟨g1,g2,fun j s' d e' b'=>?_⟩;rw[get j hi] at e';by_cases z:j=i
   ·rw[Kz z] at e';cases e';cases b'
   ·rw[Kx z] at e';exact g3 j s' d e' b'
 ·have hs:σ.length<=i:=by rw[<- l.len];lia
  rw[M8 (show μ.length<=i by lia),M8 hs]
  exact l
theorem Rl.setB(l:Rl F ad (more B a) σ H μ)(hp:∀ c,μ[i]?≠some (.pb c))(h0:F.H0 a=none)(n:¬ B a)(own:∀ j s c,μ[j]?=some s->s.box=some c->B (ad j))(gB:∀ b vs,F.G b=some vs->B b)(x:Bx F.K H (more B a) a c):
  Rl F (fun j=>if j=i then a else ad j) (more B a) (σ.set i (some (.ref a))) H (μ.set i (.bx c)):=by
 have get:∀ j,i<μ.length->(μ.set i (.bx c))[j]?=if j=i then some (.bx c) else μ[j]?:=fun j hi=>by
  rw[Nn];by_cases z:i=j
  ·subst z;simp[hi]
  ·rw[Kx z,Kx (fun q=>z q.symm)]
 have pi:F.P i=none:=by
  cases q:F.P i with
  |none=>rfl
  |some b =>
   obtain⟨⟨d,hd⟩,_⟩:=l.par i b q;exact absurd hd (hp d)
 by_cases hi:i<μ.length
 ·refine⟨by rw[Lp,Lp];exact l.len,fun j s' e'=>?_,fun j k s1 s2 c1 c2 e1 e2 b1 b2 q=>?_,fun j a' p=>?_,l.bc,l.gj,l.old,fun b ws ga=>?_⟩
  ·rw[get j hi] at e';by_cases z:j=i
   ·subst z;rw[Kz rfl] at e';cases e';show _/\_;simp only[Kz];exact⟨by rw[LR (by rw[<- l.len];exact hi)],.inl rfl,h0,pi,x⟩
   ·rw[Kx z] at e';rw[Me (Ne.symm z)];have k:=l.slot j s' e';unfold iE at k ⊢;simp only[Kx z];exact k
  ·rw[get j hi] at e1;rw[get k hi] at e2;by_cases z:j=i
   ·by_cases z2:k=i
    ·rw[z,z2]
    ·rw[Kz z,Kx z2] at q;rw[Kx z2] at e2;exact absurd (own k _ _ e2 b2) (by rw[<- q];exact n)
   ·by_cases z2:k=i
    ·rw[Kz z2,Kx z] at q;rw[Kx z] at e1;exact absurd (own j _ _ e1 b1) (by rw[q];exact n)
    ·rw[Kx z] at e1;rw[Kx z2] at e2;rw[Kx z,Kx z2] at q;exact l.inj j k _ _ _ _ e1 e2 b1 b2 q
  ·obtain⟨⟨d,hd⟩,ha⟩:=l.par j a' p;have z:j≠i:=by rintro rfl;exact hp d hd
   rw[get j hi,Kx z];exact⟨⟨d,hd⟩,by simp only[Kx z];exact ha⟩
  ·obtain⟨g1,g2,g3⟩:=l.gh b ws ga;refine⟨g1,g2,fun j s' d e' b'=>?_⟩;rw[get j hi] at e';by_cases z:j=i
   ·simp only[Kz z];rintro rfl;exact n (gB _ ws ga)
   ·rw[Kx z] at e';simp only[Kx z];exact g3 j s' d e' b'
 ·have hs:σ.length<=i:=by rw[<- l.len];lia
  rw[M8 (show μ.length<=i by lia),M8 hs]
  have ne:∀ j s,μ[j]?=some s->j≠i:=fun j s e q=>by
   have:=(K8.mp e).1;lia
  refine⟨l.len,fun j s' e'=>?_,fun j k s1 s2 c1 c2 e1 e2 b1 b2 q=>?_,fun j a' p=>?_,l.bc,l.gj,l.old,fun b ws ga=>?_⟩
  ·have k:=l.slot j s' e';unfold iE at k ⊢;simp only[Kx (ne j s' e')];exact k
  ·simp only[Kx (ne j _ e1),Kx (ne k _ e2)] at q;exact l.inj j k _ _ _ _ e1 e2 b1 b2 q
  ·obtain⟨⟨d,hd⟩,ha⟩:=l.par j a' p;exact⟨⟨d,hd⟩,by simp only[Kx (ne j _ hd)];exact ha⟩
  ·obtain⟨g1,g2,g3⟩:=l.gh b ws ga;refine⟨g1,g2,fun j s' d e' b'=>?_⟩;simp only[Kx (ne j _ e')];exact g3 j s' d e' b'
theorem Rl.gB(l:Rl F ad B σ H μ):∀ b vs,F.G b=some vs->B b:=fun b vs e=>(l.gh b vs e).2.1
theorem Rl.own(l:Rl F ad B σ H μ):∀ j s c,μ[j]?=some s->s.box=some c->B (ad j):=fun j s c e b=>((l.slot j s e).boxed b).2.1
theorem Rl.freeze(l:Rl F ad B σ H μ)(e:μ[i]?=some (.bx c))(hc:¬ F.Bc (ad i)):Rl F ad (fun b=>B b/\b≠ad i) σ H (μ.set i (.tr c))/\Rep F.K H (fun b=>B b/\b≠ad i) (.ref (ad i)) c:=by
 have k0:=l.slot i _ e;have hi:i<μ.length:=(K8.mp e).1;have rp:Rep F.K H (fun b=>B b/\b≠ad i) (.ref (ad i)) c:=((k0.2.2.2.2).of rfl (Fr.less fun _ z=>z.1)).rep (fun z=>z.2 rfl);have get:∀ j,(μ.set i (.tr c))[j]?=if j=i then some (.tr c) else μ[j]?:=fun j=>by
  rw[Nn];by_cases z:i=j
  ·subst z;simp[hi]
  ·rw[Kx z,Kx (fun q=>z q.symm)]
 have pi:F.P i=none:=k0.2.2.2.1;refine⟨⟨by rw[Lp];exact l.len,fun j s' e'=>?_,fun j k s1 s2 c1 c2 e1 e2 b1 b2 q=>?_,fun j a p=>?_,fun b z=>⟨l.bc b z,by rintro rfl;exact hc z⟩,fun b z=>l.gj b z.1,l.old,fun a ws ga=>?_⟩,rp⟩
 ·rw[get] at e';by_cases z:j=i
  ·subst z;rw[Kz rfl] at e';cases e';exact⟨_,k0.1,rp⟩
  ·rw[Kx z] at e';have k:=l.slot j s' e';have ne:∀ d,s'.box=some d->ad j≠ad i:=fun d hd q=>z (l.inj j i s' _ d c e' e hd rfl q);unfold iE at k ⊢
   split at k
   ·trivial
   ·obtain⟨v,e1,r1⟩:=k;exact⟨v,e1,r1.fr (Fr.less fun _ z=>z.1)⟩
   ·obtain⟨e1,b,z0,p,x⟩:=k;exact⟨e1,⟨b,ne _ rfl⟩,z0,p,x.of rfl (Fr.less fun _ z=>z.1)⟩
   ·obtain⟨e1,b,p,x⟩:=k;exact⟨e1,⟨b,ne _ rfl⟩,p,x.of rfl (Fr.less fun _ z=>z.1)⟩
 ·rw[get] at e1 e2;by_cases z:j=i
  ·rw[Kz z] at e1;cases e1;cases b1
  ·by_cases z2:k=i
   ·rw[Kz z2] at e2;cases e2;cases b2
   ·rw[Kx z] at e1;rw[Kx z2] at e2;exact l.inj j k _ _ _ _ e1 e2 b1 b2 q
 ·obtain⟨⟨d,hd⟩,ha⟩:=l.par j a p;refine⟨⟨d,?_⟩,ha⟩;rw[get];by_cases z:j=i
  ·subst z;rw[pi] at p;cases p
  ·rw[Kx z];exact hd
 ·obtain⟨g1,g2,g3⟩:=l.gh a ws ga;refine⟨g1,⟨g2,(g3 i _ c e rfl).symm⟩,fun j s' d e' b'=>?_⟩;rw[get] at e';by_cases z:j=i
  ·rw[Kz z] at e';cases e';cases b'
  ·rw[Kx z] at e';exact g3 j s' d e' b'
end
section
variable {K:Pq} {H:Hp} {B:aL} {v:V}
theorem Rep.zq{b:Bool}(h:Rep K H B v (.bl b)):v=.bl b:=by cases h;rfl
theorem Rep.cA{i:Int}(h:Rep K H B v (.int i)):v=.int i:=by cases h;rfl
theorem Rep.fP(h:Rep K H B v (.str x)):v=.str x:=by cases h;rfl
theorem Rep.tupI(h:Rep K H B v (.tup ts)):∃ a vs,v=.ref a/\¬ B a/\H a=some (.tup vs)/\ai K H B vs ts:=by cases h with|tup n h r=>exact⟨_,_,rfl,n,h,r⟩
theorem Rep.qC(h:Rep K H B v (.dN ts)):∃ a vs,v=.ref a/\zA K a vs/\ai K H B vs ts:=by cases h with|dN h r=>exact⟨_,_,rfl,h,r⟩
theorem Rep.dX(h:Rep K H B v (.lst ts)):∃ a vs,v=.ref a/\¬ B a/\H a=some (.lst vs)/\ai K H B vs ts:=by cases h with|lst n h r=>exact⟨_,_,rfl,n,h,r⟩
theorem Rep.uz(h:Rep K H B v (.dW ts)):∃ a vs,v=.ref a/\LB K H B a vs/\ai K H B vs ts:=by cases h with|dW h r=>exact⟨_,_,rfl,h,r⟩
theorem Vw.zq{b:Bool}(h:Vw K H B v (.bl b)):v=.bl b:=by cases h;rfl
theorem Vw.cA{i:Int}(h:Vw K H B v (.int i)):v=.int i:=by cases h;rfl
theorem Vw.fP(h:Vw K H B v (.str x)):v=.str x:=by cases h;rfl
theorem Vw.tupI(h:Vw K H B v (.tup ts)):∃ a vs,v=.ref a/\H a=some (.tup vs)/\ai K H B vs ts:=by cases h with|tup h r=>exact⟨_,_,rfl,h,r⟩
theorem Vw.qC(h:Vw K H B v (.dN ts)):∃ a vs,v=.ref a/\zA K a vs/\ai K H B vs ts:=by cases h with|dN h r=>exact⟨_,_,rfl,h,r⟩
theorem Vw.dX(h:Vw K H B v (.lst ts)):∃ a vs,v=.ref a/\H a=some (.lst vs)/\ai K H B vs ts:=by cases h with|lst h r=>exact⟨_,_,rfl,h,r⟩
theorem Vw.uz(h:Vw K H B v (.dW ts)):∃ a vs,v=.ref a/\bz K H a vs/\ai K H B vs ts:=by cases h with|dW h r=>exact⟨_,_,rfl,h,r⟩
theorem Vw.IK{lo hi:Int}(h:Vw K H B v (.gw lo hi)):∃ a,v=.ref a/\H a=some (.gw lo hi):=by cases h with|gw h=>exact⟨_,rfl,h⟩
theorem Rep.nX(h:Rep K H B (.ref a) (.tup ts)):∃ vs,¬ B a/\H a=some (.tup vs)/\ai K H B vs ts:=by obtain⟨_,vs,e,r⟩:=h.tupI;cases e;exact⟨vs,r⟩
theorem Rep.Gs(h:Rep K H B (.ref a) (.lst ts)):∃ vs,¬ B a/\H a=some (.lst vs)/\ai K H B vs ts:=by obtain⟨_,vs,e,r⟩:=h.dX;cases e;exact⟨vs,r⟩
theorem Rep.J6(h:Rep K H B (.ref a) (.dN ts)):∃ vs,zA K a vs/\ai K H B vs ts:=by obtain⟨_,vs,e,r⟩:=h.qC;cases e;exact⟨vs,r⟩
theorem Rep.J9(h:Rep K H B (.ref a) (.dW ts)):∃ vs,LB K H B a vs/\ai K H B vs ts:=by obtain⟨_,vs,e,r⟩:=h.uz;cases e;exact⟨vs,r⟩
theorem ai.jv{vs:List V}(h:ai K H B vs []):vs=[]:=by cases h;rfl
theorem ai.bW{vs:List V}{t:T}(h:ai K H B vs (t::ts)):∃ v ws,vs=v::ws/\Rep K H B v t/\ai K H B ws ts:=by cases h with|cons h r=>exact⟨_,_,rfl,h,r⟩
end
theorem Paired.jv{P:α->β->Prop}{xs:List α}(h:Paired P xs []):xs=[]:=by cases h;rfl
theorem Paired.bW{P:α->β->Prop}{xs:List α}{y:β}{ys:List β}(h:Paired P xs (y::ys)):∃ x zs,xs=x::zs/\P x y/\Paired P zs ys:=by cases h with|cons h r=>exact⟨_,_,rfl,h,r⟩
theorem Paired.FX{P:α->β->Prop}{ys:List β}(h:Paired P [] ys):ys=[]:=by cases h;rfl
abbrev UE:=Mu->(R->Mu->Prop)->Prop
variable{ue:UE}
abbrev UT:=Mu->(Bool->Mu->Prop)->Prop
abbrev UA:=Mu->(List R->Mu->Prop)->Prop
abbrev UO:=Mu->(Option Int->Mu->Prop)->Prop
abbrev U2:=R->R->Mu->(R->Mu->Prop)->Prop
variable{u:U2}
abbrev UC:=List R->Mu->(R->Mu->Prop)->Prop
structure Ed where
 nx:Mu->Prop
 rt:R->Mu->Prop
 bk:Mu->Prop:=fun _=>False
 ct:Mu->Prop:=fun _=>False
abbrev US:=Ed->Mu->Prop
noncomputable def Bv(B:aL)(v:V):R->aL
 |.fr _=>(match v with|.ref a=>more B a|_=>B)
 |_=>B
theorem Fr.d{v:V}{r:R}(f:Fr B H (Bv B v r) H'):Fr B H B H':=fun b o h n=>⟨(f b o h n).1,n⟩
noncomputable def RE(K:Pq)(te:TE)(ue:UE):Prop:=∀(F:Fx) (ad:Nat->Addr) (B:aL) (σ:St) (H:Hp) (μ:Mu) (Q:VK) (Qt:R->Mu->Prop),F.K=K->Rl F ad B σ H μ->ue μ Qt ->
 (∀ v H' r μ',Vr F ad B σ H' μ' v r->Fr B H (Bv B v r) H'->Kp μ μ'->Qt r μ'->Q v H')->te σ H Q
noncomputable def RT(K:Pq)(tt:TT)(ut:UT):Prop:=∀(F:Fx) (ad:Nat->Addr) (B:aL) (σ:St) (H:Hp) (μ:Mu) (Q:Bool->Hp->Prop) (Qt:Bool->Mu->Prop),F.K=K->Rl F ad B σ H μ->ut μ Qt ->
 (∀ b H' μ',Rl F ad B σ H' μ'->Fr B H B H'->Kp μ μ'->Qt b μ'->Q b H')->tt σ H Q
noncomputable def RA(K:Pq)(ta:TA)(ua:UA):Prop:=∀(F:Fx) (ad:Nat->Addr) (B:aL) (σ:St) (H:Hp) (μ:Mu) (Q:List V->Hp->Prop) (Qt:List R->Mu->Prop),F.K=K->Rl F ad B σ H μ->ua μ Qt ->
 (∀ vs H' rs μ',Rl F ad B σ H' μ'->Paired (Hv F ad B H' μ') vs rs->Fr B H B H'->Kp μ μ'->Qt rs μ'->Q vs H')->ta σ H Q
noncomputable def RO(K:Pq)(tt:TO)(ut:UO):Prop:=∀(F:Fx) (ad:Nat->Addr) (B:aL) (σ:St) (H:Hp) (μ:Mu) (Q:Option Int->Hp->Prop) (Qt:Option Int->Mu->Prop),F.K=K->Rl F ad B σ H μ->ut μ Qt ->
 (∀ b H' μ',Rl F ad B σ H' μ'->Fr B H B H'->Kp μ μ'->Qt b μ'->Q b H')->tt σ H Q
noncomputable def me(K:Pq)(r:R2)(u:U2):Prop:=∀(F:Fx) (ad:Nat->Addr) (B:aL) (σ:St) (H:Hp) (μ:Mu) (Q:VK) (Qt:R->Mu->Prop) (x y:V) (r1 r2:R),F.K=K->Rl F ad B σ H μ->Hv F ad B H μ x r1->Hv F ad B H μ y r2->u r1 r2 μ Qt ->
 (∀ v H' r μ',Vr F ad B σ H' μ' v r->Fr B H (Bv B v r) H'->Kp μ μ'->Qt r μ'->Q v H')->r x y H Q
noncomputable def RC(K:Pq)(r:List V->Hp->VK->Prop)(u:UC):Prop:=∀(F:Fx) (ad:Nat->Addr) (B:aL) (σ:St) (H:Hp) (μ:Mu) (Q:VK) (Qt:R->Mu->Prop) (xs:List V) (rs:List R),F.K=K->Rl F ad B σ H μ->Paired (Hv F ad B H μ) xs rs->u rs μ Qt ->
 (∀ v H' r μ',Vr F ad B σ H' μ' v r->Fr B H (Bv B v r) H'->Kp μ μ'->Qt r μ'->Q v H')->r xs H Q
section
variable {F:Fx} {ad:Nat->Addr} {B:aL} {σ:St} {H:Hp} {μ:Mu} {Q:VK} {Qt:R->Mu->Prop}
theorem Vr.flat{v:V}{t:T}(l:Rl F ad B σ H μ)(r:Rep F.K H B v t):Vr F ad B σ H μ v (.tr t):=⟨l,r⟩
theorem Vr.gz{vs:List V}(l:Rl F ad B σ H μ)(r:ai F.K H B vs ts)(e:H p=none):Vr F ad B σ (upd H p (.lst vs)) μ (.ref p) (.fr (.lst ts)):=
 ⟨l.same (bQ.new e),p,rfl,l.v9 e,l.E1 e,l.new e,vs,ae,r.fr (Fr.more e)⟩
theorem Vr.uV{vs:List V}(l:Rl F ad B σ H μ)(r:ai F.K H B vs ts)(e:H p=none):Vr F ad B σ (upd H p (.tup vs)) μ (.ref p) (.tr (.tup ts)):=
 ⟨l.same (bQ.new e),.tup (l.v9 e) ae (r.fr (Fr.same (bQ.new e)))⟩
end
structure YE (X:Cx) (e:Expr) (u:UE):Prop where
 ex:∃ t,QE X e t/\RE X.K t u
structure YT (X:Cx) (e:Expr) (u:UT):Prop where
 ex:∃ t,QT X e t/\RT X.K t u
structure YW (X:Cx) (e:Expr) (u:UT):Prop where
 ex:∃ t,QW X e t/\RT X.K t u
structure YA (X:Cx) (es:List Expr) (u:UA):Prop where
 ex:∃ t,QA X es t/\RA X.K t u
structure YO (X:Cx) (e:Option Expr) (u:UO):Prop where
 ex:∃ t,QO X e t/\RO X.K t u
structure CF (X:Cx) (es:List Expr) (u:UT):Prop where
 ex:∃ t,Fu X es t/\RT X.K t u
namespace Y
noncomputable def uC(t:T):UE:=fun μ Q=>Q (.tr t) μ
noncomputable def mf(i:Nat):UE:=fun μ Q=>match μ[i]? with
 |some (.tr t)=>Q (.tr t) μ
 |some (.bx _)=>Q (.br i) μ
 |some (.pb _)=>Q (.br i) μ
 |_=>False
noncomputable def CI(u:U2)(ua ub:UE):UE:=fun μ Q=>ua μ fun r1 μ1=>ub μ1 fun r2 μ2=>u r1.d r2.d μ2 Q
section
variable {X:Cx} {a b c e o:Expr} {es rest:List Expr} {ua ub uc ue uo:UE} {uA uB:UT} {us:UA} {pos p p2:Pos} {x:Str}
theorem wN{v:V}{t:T}(h:∀ H B,Rep K H B v t):RE K (tC v) (uC t):=fun F ad B σ H μ Q Qt hK l q k=>k v H (.tr t) μ ⟨l,show Rep F.K H B v t from hK ▸ h H B⟩ Fr.refl (Kp.refl μ) q
theorem int{i:Int}:YE X (.Constant (.int i) j pos) (uC (.int i)):=⟨_,Z.int,wN fun _ _=>.int i⟩
theorem bl{i:Bool}:YE X (.Constant (.bool i) j pos) (uC (.bl i)):=⟨_,Z.bl,wN fun _ _=>.bl i⟩
theorem aM:YE X (.Constant .none j pos) (uC .aM):=⟨_,Z.aM,wN fun _ _=>.aM⟩
theorem str{i:Str}:YE X (.Constant (.str i) j pos) (uC (.str i)):=⟨_,Z.str,wN fun _ _=>.str i⟩
theorem v(i:Nat)(hN:autoParam (X.N[i]?=some x) ℜ0)(hv:autoParam (Dm X.env.scope x) ℜ4)(hd:autoParam ((x ==("__debug__":Str))=false) ℜ1)
  (hcd:autoParam ((x ==("__classdict__":Str))=false) ℜ1):YE X (.Name x pos) (mf i):=by
 refine⟨_,Z.v i hN hv hd hcd,fun F ad B σ H μ Q Qt hK l q k=>?_⟩;unfold mf at q
 split at q
 ·rename_i t e;obtain⟨v,e1,r⟩:=l.slot i _ e;exact⟨v,e1,k v H (.tr t) μ ⟨l,r⟩ Fr.refl (Kp.refl μ) q⟩
 ·rename_i t e;have r:=l.slot i _ e;exact⟨_,r.1,k _ H (.br i) μ ⟨l,rfl,_,_,e,rfl⟩ Fr.refl (Kp.refl μ) q⟩
 ·rename_i t e;have r:=l.slot i _ e;exact⟨_,r.1,k _ H (.br i) μ ⟨l,rfl,_,_,e,rfl⟩ Fr.refl (Kp.refl μ) q⟩
 ·exact q.elim
theorem glob{w:V}{u:Value}{t:T}(hg:Gl X x)(hm:X.mg x=some u)(r:RelV w u)(h:∀ H B,Rep X.K H B w t)(hd:autoParam ((x ==("__debug__":Str))=false) ℜ1):YE X (.Name x pos) (uC t):=⟨_,Z.glob hg hm r hd,wN h⟩
theorem sS{r:R2}{ta tb:TE}(h:me K r u)(ha:RE K ta ua)(hb:RE K tb ub):RE K (vt r ta tb) (CI u ua ub):=fun F ad B σ H μ Q Qt hK l q k =>
 ha F ad B σ H μ _ _ hK l q fun x H1 r1 μ1 v1 f1 k1 q1=>hb F ad B σ H1 μ1 _ _ hK v1.rl q1 fun y H2 r2 μ2 v2 f2 k2 q2 =>
  h F ad B σ H2 μ2 _ _ x y r1.d r2.d hK v2.rl (v1.hv.fr f2.d k2) v2.hv q2 fun v H' r μ' v3 f3 k3 q3=>k v H' r μ' v3 ((f1.d.trans f2.d).trans f3) ((k1.trans k2).trans k3) q3
theorem op{o:Operator}{r:R2}(ho:cW X (binaryOp o) r)(h:me X.K r u)(ha:YE X a ua)(hb:YE X b ub):YE X (.BinOp a o b pos) (CI u ua ub):=by
 obtain⟨ta,qa,ra⟩:=ha;obtain⟨tb,qb,rb⟩:=hb;exact⟨_,Z.op ho qa qb,sS h ra rb⟩
theorem cmp{o:CmpOp}{r:R2}(ho:cW X (compareOp o) r)(h:me X.K r u)(ha:YE X a ua)(hb:YE X b ub)(hm:autoParam (behindInMarks o b=false) ℜ0):YE X (.Compare a [o] [b] pos) (CI u ua ub):=by
 obtain⟨ta,qa,ra⟩:=ha;obtain⟨tb,qb,rb⟩:=hb;exact⟨_,Z.cmp ho qa qb hm,sS h ra rb⟩
theorem ix{r:R2}(hr:rF X r)(h:me X.K r u)(ha:YE X a ua)(hb:YE X b ub)(hs:autoParam (Z.sim b=true) ℜ0):YE X (.Subscript a b pos) (CI u ua ub):=by
 obtain⟨ta,qa,ra⟩:=ha;obtain⟨tb,qb,rb⟩:=hb;exact⟨_,Z.ix hr qa qb hs,sS h ra rb⟩
noncomputable def mL(ue:UE):UT:=fun μ Q=>ue μ fun r μ'=>match r with
 |.tr (.bl b)=>Q b μ'
 |_=>False
theorem Bt{t:TE}(h:RE K t ue):RT K (kA t) (mL ue):=fun F ad B σ H μ Q Qt hK l q k =>
 h F ad B σ H μ _ _ hK l q fun v H' r μ' v1 f k1 q1=>by
  split at q1
  ·rename_i b;have rp:=v1.2;obtain rfl:=Rep.zq rp;exact⟨b,rfl,k b H' μ' v1.rl f.d k1 q1⟩
  ·exact q1.elim
theorem aZ{o:CmpOp}{r:R2}(ho:cW X (compareOp o) r)(h:me X.K r u)(ha:YE X a ua)(hb:YE X b ub)(hm:autoParam (behindInMarks o b=false) ℜ0):YT X (.Compare a [o] [b] pos) (mL (CI u ua ub)):=by
 obtain⟨ta,qa,ra⟩:=ha;obtain⟨tb,qb,rb⟩:=hb;exact⟨_,Z.aZ ho qa qb hm,Bt (sS h ra rb)⟩
noncomputable def Ac(ut:UT):UT:=fun μ Q=>ut μ fun b μ'=>Q (!b) μ'
theorem lP(ha:YT X a uA):YT X (.UnaryOp .Not a pos) (Ac uA):=by
 obtain⟨ta,qa,ra⟩:=ha;exact⟨_,Z.lP qa,fun F ad B σ H μ Q Qt hK l q k=>ra F ad B σ H μ _ _ hK l q fun b H' μ' l' f k1 q1=>k _ H' μ' l' f k1 q1⟩
theorem tw(h:YW X e uA):YT X e uA:=by
 obtain⟨t,q,r⟩:=h;exact⟨t,Z.tw q,r⟩
theorem mJ(ha:YT X a uA):YW X (.BoolOp .And [a] pos) uA:=by obtain⟨t,q,r⟩:=ha;exact⟨t,Z.mJ q,r⟩
theorem u3(ha:YT X a uA):YW X (.BoolOp .Or [a] pos) uA:=by obtain⟨t,q,r⟩:=ha;exact⟨t,Z.u3 q,r⟩
noncomputable def zr(u w:UT):UT:=fun μ Q=>u μ fun b μ'=>if b=true then w μ' Q else Q false μ'
noncomputable def FA(u w:UT):UT:=fun μ Q=>u μ fun b μ'=>if b=true then Q true μ' else w μ' Q
theorem EG{t u:TT}(ha:RT K t uA)(hb:RT K u uB):RT K (uq t u) (zr uA uB):=fun F ad B σ H μ Q Qt hK l q k=>ha F ad B σ H μ _ _ hK l q fun b H' μ' l' f k1 q1=>by
 cases b with
 |true=>rw[Kz rfl] at q1 ⊢;exact hb F ad B σ H' μ' _ _ hK l' q1 fun b2 H2 μ2 l2 f2 k2 q2=>k b2 H2 μ2 l2 (f.trans f2) (k1.trans k2) q2
 |false=>rw[Kx K5] at q1 ⊢;exact k _ H' μ' l' f k1 q1
theorem HD{t u:TT}(ha:RT K t uA)(hb:RT K u uB):RT K (Iv t u) (FA uA uB):=fun F ad B σ H μ Q Qt hK l q k=>ha F ad B σ H μ _ _ hK l q fun b H' μ' l' f k1 q1=>by
 cases b with
 |false=>rw[Kx K5] at q1 ⊢;exact hb F ad B σ H' μ' _ _ hK l' q1 fun b2 H2 μ2 l2 f2 k2 q2=>k b2 H2 μ2 l2 (f.trans f2) (k1.trans k2) q2
 |true=>rw[Kz rfl] at q1 ⊢;exact k _ H' μ' l' f k1 q1
theorem wA(ha:YT X a uA)(hb:YW X (.BoolOp .And (b::rest) pos) uB):YW X (.BoolOp .And (a::b::rest) pos) (zr uA uB):=by
 obtain⟨t,q,r⟩:=ha;obtain⟨t',q',r'⟩:=hb;exact⟨_,Z.wA q q',EG r r'⟩
theorem CC(ha:YT X a uA)(hb:YW X (.BoolOp .Or (b::rest) pos) uB):YW X (.BoolOp .Or (a::b::rest) pos) (FA uA uB):=by
 obtain⟨t,q,r⟩:=ha;obtain⟨t',q',r'⟩:=hb;exact⟨_,Z.CC q q',HD r r'⟩
noncomputable def nF(ue:UE):UT:=fun μ Q=>ue μ fun r μ'=>match r with
 |.tr (.bl b)=>Q b μ'
 |.tr (.int i)=>Q (i != 0) μ'
 |_=>False
theorem Ae(K:Pq)(hK:X.K=K)(ha:YE X a ua)(he:autoParam (Z.Ia a=true) ℜ0):YT X a (nF ua):=by
 obtain⟨t,q,r⟩:=ha;refine⟨_,Z.Ae K hK q he,fun F ad B σ H μ Q Qt hK l q k=>r F ad B σ H μ _ _ hK l q fun v H' r1 μ' v1 f k1 q1=>?_⟩
 split at q1
 ·have rp:=v1.2;obtain rfl:=Rep.zq rp;exact⟨_,(Ap.HR ..).symm ▸ rfl,k _ H' μ' v1.rl f.d k1 q1⟩
 ·have rp:=v1.2;obtain rfl:=Rep.cA rp;exact⟨_,(Ap.Jw ..).symm ▸ rfl,k _ H' μ' v1.rl f.d k1 q1⟩
 ·exact q1.elim
noncomputable def t9(ue:UE):UE:=fun μ Q=>ue μ fun r μ'=>match r with
 |.tr (.bl b)=>Q (.tr (.bl (!b))) μ'
 |_=>False
theorem not(ha:YE X a ua):YE X (.UnaryOp .Not a pos) (t9 ua):=by
 obtain⟨t,q,r⟩:=ha;refine⟨_,Z.not q,fun F ad B σ H μ Q Qt hK l q k=>r F ad B σ H μ _ _ hK l q fun v H' r1 μ' v1 f k1 q1=>?_⟩
 split at q1
 ·have rp:=v1.2;obtain rfl:=Rep.zq rp;exact⟨_,rfl,k _ H' _ μ' (Vr.flat v1.rl (.bl _)) f.d k1 q1⟩
 ·exact q1.elim
noncomputable def rT(ua ub:UE):UE:=fun μ Q=>ua μ fun r μ'=>match r with
 |.tr (.bl true)=>ub μ' Q
 |.tr (.bl false)=>Q (.tr (.bl false)) μ'
 |_=>False
theorem and(ha:YE X a ua)(hb:YE X (.BoolOp .And (b::rest) pos) ub):YE X (.BoolOp .And (a::b::rest) pos) (rT ua ub):=by
 obtain⟨t,q,r⟩:=ha;obtain⟨t',q',r'⟩:=hb;refine⟨_,Z.and q q',fun F ad B σ H μ Q Qt hK l q k=>r F ad B σ H μ _ _ hK l q fun v H' r1 μ' v1 f k1 q1=>?_⟩
 split at q1
 ·have rp:=v1.2;obtain rfl:=Rep.zq rp;refine⟨_,rfl,?_⟩;rw[Kz rfl];exact r' F ad B σ H' μ' _ _ hK v1.rl q1 fun v2 H2 r2 μ2 v3 f2 k2 q2=>k v2 H2 r2 μ2 v3 (f.d.trans f2) (k1.trans k2) q2
 ·have rp:=v1.2;obtain rfl:=Rep.zq rp;refine⟨_,rfl,?_⟩;rw[Kx K5];exact k _ H' _ μ' (Vr.flat v1.rl (.bl _)) f.d k1 q1
 ·exact q1.elim
theorem one{o:BoolOp}(ha:YE X a ua):YE X (.BoolOp o [a] pos) ua:=by obtain⟨t,q,r⟩:=ha;exact⟨t,Z.one q,r⟩
noncomputable def H_(uc:UT)(ua ub:UE):UE:=fun μ Q=>uc μ fun b μ'=>if b=true then ua μ' Q else ub μ' Q
theorem GB(hc:YT X c uA)(ha:YE X a ua)(hb:YE X b ub):YE X (.IfExp c a b pos) (H_ uA ua ub):=by
 obtain⟨tc,qc,rc⟩:=hc;obtain⟨t,q,r⟩:=ha;obtain⟨t',q',r'⟩:=hb;refine⟨_,Z.GB qc q q',fun F ad B σ H μ Q Qt hK l q k=>rc F ad B σ H μ _ _ hK l q fun b H' μ' l1 f k1 q1=>?_⟩
 cases b with
 |true=>rw[Kz rfl] at q1 ⊢;exact r F ad B σ H' μ' _ _ hK l1 q1 fun v2 H2 r2 μ2 v3 f2 k2 q2=>k v2 H2 r2 μ2 v3 (f.trans f2) (k1.trans k2) q2
 |false=>rw[Kx K5] at q1 ⊢;exact r' F ad B σ H' μ' _ _ hK l1 q1 fun v2 H2 r2 μ2 v3 f2 k2 q2=>k v2 H2 r2 μ2 v3 (f.trans f2) (k1.trans k2) q2
noncomputable def BG(ue:UE):UE:=fun μ Q=>ue μ fun r μ'=>match r with
 |.tr (.int i)=>Q (.tr (.int (-i))) μ'
 |_=>False
theorem neg(ha:YE X a ua):YE X (.UnaryOp .USub a pos) (BG ua):=by
 obtain⟨t,q,r⟩:=ha;refine⟨_,Z.un DW q,fun F ad B σ H μ Q Qt hK l q k=>r F ad B σ H μ _ _ hK l q fun v H' r1 μ' v1 f k1 q1=>?_⟩
 split at q1
 ·have rp:=v1.2;obtain rfl:=Rep.cA rp;exact⟨_,rfl,k _ H' _ μ' (Vr.flat v1.rl (.int _)) f.d k1 q1⟩
 ·exact q1.elim
noncomputable def zQ:UA:=fun μ Q=>Q [] μ
noncomputable def rD(ue:UE)(us:UA):UA:=fun μ Q=>ue μ fun r μ1=>us μ1 fun rs μ2=>Q (r.d::rs) μ2
noncomputable def uK(ts:List T):UA:=fun μ Q=>Q (ts.map R.tr) μ
theorem nil:YA X [] zQ:=⟨_,Z.nil,fun F ad B σ H μ Q Qt hK l q k=>k [] H [] μ l .nil Fr.refl (Kp.refl μ) q⟩
theorem cons(ha:YE X e ue)(hr:YA X es us)(h:autoParam (cK e=true) ℜ0):YA X (e::es) (rD ue us):=by
 obtain⟨t,q,r⟩:=ha;obtain⟨t',q',r'⟩:=hr;exact⟨_,Z.cons q q' h,fun F ad B σ H μ Q Qt hK l q k=>r F ad B σ H μ _ _ hK l q fun v H' r1 μ' v1 f k1 q1=>r' F ad B σ H' μ' _ _ hK v1.rl q1 fun vs H2 rs μ2 l2 ps f2 k2 q2 =>
  k (v::vs) H2 (r1.d::rs) μ2 l2 (.cons (v1.hv.fr f2 k2) ps) (f.d.trans f2) (k1.trans k2) q2⟩
noncomputable def x_:V->Option T
 |.aM=>some .aM
 |.bl b=>some (.bl b)
 |.int i=>some (.int i)
 |.str x=>some (.str x)
 |_=>none
theorem xq{v:V}{t:T}(h:x_ v=some t):Rep K H B v t:=by
 unfold x_ at h
 split at h
 ·cases h;exact .aM
 ·cases h;exact .bl _
 ·cases h;exact .int _
 ·cases h;exact .str _
 ·cases h
theorem consts{vs:List V}(h:kL es=some vs)(h2:vs.map x_=ts.map some):YA X es (uK ts):=by
 refine⟨_,Z.consts h,fun F ad B σ H μ Q Qt hK l q k=>k vs H _ μ l ?_ Fr.refl (Kp.refl μ) q⟩;clear h q k
 induction vs generalizing ts with
 |nil=>cases ts with
  |nil=>exact .nil
  |cons t ts=>cases h2
 |cons v vs ih=>cases ts with
  |nil=>cases h2
  |cons t ts =>
   rw[KN,KN] at h2
   injection h2 with e1 e2
   exact .cons (xq e1) (ih e2)
noncomputable def trees:List R->Option (List T)
 |[]=>some []
 |.tr t::rs=>(trees rs).map (t::·)
 |_=>none
theorem lC:∀{vs:List V} {rs:List R} {ts:List T},Paired (Hv F ad B H μ) vs rs->trees rs=some ts->ai F.K H B vs ts
 |_,_,_,.nil,e=>by cases e;exact .nil
 |_,r::rs,ts,.cons h p,e=>by
  cases r with
  |tr t =>
   unfold trees at e
   cases q:trees rs with
   |none=>rw[q] at e;cases e
   |some us=>rw[q] at e;cases e;exact .cons h (lC p q)
  |br i=>cases e
  |fr c=>cases e
noncomputable def AQ(us:UA):UE:=fun μ Q=>us μ fun rs μ'=>match trees rs with
 |some ts=>ts.length<=sizeLine/\Q (.tr (.tup ts)) μ'
 |none=>False
noncomputable def BD(us:UA):UE:=fun μ Q=>us μ fun rs μ'=>match trees rs with
 |some ts=>ts.length<=sizeLine/\Q (.fr (.lst ts)) μ'
 |none=>False
theorem tup(h:YA X es us):YE X (.Tuple es k pos) (AQ us):=by
 obtain⟨t,q,r⟩:=h;refine⟨_,Z.tup q,fun F ad B σ H μ Q Qt hK l q k=>r F ad B σ H μ _ _ hK l q fun vs H' rs μ' l1 ps f k1 q1=>?_⟩
 split at q1
 ·rename_i ts e;have rp:=lC ps e;exact⟨by rw[rp.length];exact q1.1,fun p hp=>k _ _ _ μ' (Vr.uV l1 rp hp) (f.trans (Fr.same (bQ.new hp))) k1 q1.2⟩
 ·exact q1.elim
theorem lst(h:YA X es us):YE X (.List es pos) (BD us):=by
 obtain⟨t,q,r⟩:=h;refine⟨_,Z.lst q,fun F ad B σ H μ Q Qt hK l q k=>r F ad B σ H μ _ _ hK l q fun vs H' rs μ' l1 ps f k1 q1=>?_⟩
 split at q1
 ·rename_i ts e;have rp:=lC ps e;exact⟨by rw[rp.length];exact q1.1,fun p hp=>k _ _ _ μ' (Vr.gz l1 rp hp) (f.trans (Fr.more hp)) k1 q1.2⟩
 ·exact q1.elim
noncomputable def BS(u:UC)(us:UA):UE:=fun μ Q=>us μ fun rs μ'=>u rs μ' Q
theorem t5{u:UC}{t:TA}(h:RC K r u)(ha:RA K t us):RE K (vf r t) (BS u us):=fun F ad B σ H μ Q Qt hK l q k =>
 ha F ad B σ H μ _ _ hK l q fun vs H' rs μ' l1 ps f k1 q1=>h F ad B σ H' μ' _ _ vs rs hK l1 ps q1 fun v H2 r2 μ2 v2 f2 k2 q2=>k v H2 r2 μ2 v2 (f.trans f2) (k1.trans k2) q2
theorem cb{id:String}{u:UC}(hc:aH X (.builtin id) r)(h:RC X.K r u)(hg:Gl X x)(hm:X.mg x=none)(hv:bootBuiltins x=some (.builtin id))(ha:YA X (e::es) us)(h1:autoParam (cK e=true) ℜ0)(h2:autoParam (es.all cK=true) ℜ0)(hn:autoParam (x≠"__name__") ℜ1)(hdb:autoParam ((x ==("__debug__":Str))=false) ℜ1):
  YE X (.Call (.Name x p) (e::es) [] pos) (BS u us):=by
 obtain⟨t,q,rr⟩:=ha;exact⟨_,Z.cb hc hg hm hv q h1 h2 hn hdb,t5 h rr⟩
theorem ct{T:String}{u:UC}(hc:aH X (.type T) r)(h:RC X.K r u)(hg:Gl X x)(hm:X.mg x=none)(hv:bootBuiltins x=some (.type T))(ha:YA X (e::es) us)(h1:autoParam (cK e=true) ℜ0)(h2:autoParam (es.all cK=true) ℜ0)(hn:autoParam (x≠"__name__") ℜ1)(hdb:autoParam ((x ==("__debug__":Str))=false) ℜ1):
  YE X (.Call (.Name x p) (e::es) [] pos) (BS u us):=by
 obtain⟨t,q,rr⟩:=ha;exact⟨_,Z.ct hc hg hm hv q h1 h2 hn hdb,t5 h rr⟩
noncomputable def iP:UO:=fun μ Q=>Q none μ
noncomputable def qW(ue:UE):UO:=fun μ Q=>ue μ fun r μ'=>match r with
 |.tr (.int i)=>Q (some i) μ'
 |_=>False
theorem zC:YO X none iP:=⟨_,Z.zC,fun F ad B σ H μ Q Qt hK l q k=>k none H μ l Fr.refl (Kp.refl μ) q⟩
theorem zB(he:YE X e ue):YO X (some e) (qW ue):=by
 obtain⟨t,q,r⟩:=he;refine⟨_,Z.zB q,fun F ad B σ H μ Q Qt hK l q k=>r F ad B σ H μ _ _ hK l q fun v H' r1 μ' v1 f k1 q1=>?_⟩
 split at q1
 ·have rp:=v1.2;obtain rfl:=Rep.cA rp;exact⟨_,rfl,k _ H' μ' v1.rl f.d k1 q1⟩
 ·exact q1.elim
end
noncomputable def yV(f:T->T->Mu->(R->Mu->Prop)->Prop):U2:=fun r1 r2 μ Q=>match cont μ r1,cont μ r2 with
 |some t,some u=>f t u μ Q
 |_,_=>False
theorem gY{r:R2}{f:T->T->Mu->(R->Mu->Prop)->Prop}
  (h:∀(F:Fx) (ad:Nat->Addr) (B:aL) (σ:St) (H:Hp) (μ:Mu) (Q:VK) (Qt:R->Mu->Prop) (x y:V) (t u:T),F.K=K->Rl F ad B σ H μ->Vw F.K H B x t->Vw F.K H B y u->f t u μ Qt ->
   (∀ v H' r,Vr F ad B σ H' μ v r->Fr B H (Bv B v r) H'->Qt r μ->Q v H')->r x y H Q):me K r (yV f):=by
 intro F ad B σ H μ Q Qt x y r1 r2 hK l h1 h2 q k;unfold yV at q
 split at q
 ·rename_i t u e1 e2;exact h F ad B σ H μ Q Qt x y t u hK l (h1.vw l e1) (h2.vw l e2) q fun v H' r v1 s q1=>k v H' r μ v1 s (Kp.refl μ) q1
 ·exact q.elim
noncomputable def vV(C:Int->Int->Prop)(g:Int->Int->Int):T->T->Mu->(R->Mu->Prop)->Prop:=fun t u μ Q=>match t,u with
 |.int i,.int j=>C i j/\Q (.tr (.int (g i j))) μ
 |_,_=>False
theorem cg{C:Int->Int->Prop}{g:Int->Int->Int}:me K (rI C fun i j=>.int (g i j)) (yV (vV C g)):=gY fun F ad B σ H μ Q Qt x y t u hK l v1 v2 q k=>by
 unfold vV at q
 split at q
 ·obtain rfl:=Vw.cA v1;obtain rfl:=Vw.cA v2;exact⟨_,_,rfl,rfl,q.1,k _ H _ (Vr.flat l (.int _)) Fr.refl q.2⟩
 ·exact q.elim
theorem bV{g:Int->Int->Int}:me K (tE fun i j=>.int (g i j)) (yV (vV (fun _ _=>True) g)):=gY fun F ad B σ H μ Q Qt x y t u hK l v1 v2 q k=>by
 unfold vV at q
 split at q
 ·obtain rfl:=Vw.cA v1;obtain rfl:=Vw.cA v2;exact⟨_,_,rfl,rfl,k _ H _ (Vr.flat l (.int _)) Fr.refl q.2⟩
 ·exact q.elim
noncomputable def Jh(g:Int->Int->Bool):T->T->Mu->(R->Mu->Prop)->Prop:=fun t u μ Q=>match t,u with
 |.int i,.int j=>Q (.tr (.bl (g i j))) μ
 |_,_=>False
theorem cC{g:Int->Int->Bool}:me K (tE fun i j=>.bl (g i j)) (yV (Jh g)):=gY fun F ad B σ H μ Q Qt x y t u hK l v1 v2 q k=>by
 unfold Jh at q
 split at q
 ·obtain rfl:=Vw.cA v1;obtain rfl:=Vw.cA v2;exact⟨_,_,rfl,rfl,k _ H _ (Vr.flat l (.bl _)) Fr.refl q⟩
 ·exact q.elim
noncomputable def Cp(K:Pq):R2:=fun x y H Q=>∃ a b xs ys,x=.ref a/\y=.ref b/\aW K H a xs/\aW K H b ys/\xs.length+ys.length<=sizeLine /\
 (xs=[]->Q (.ref b) H)/\(xs≠[]->ys=[]->Q (.ref a) H)/\(xs≠[]->ys≠[]->∀ p,H p=none->Q (.ref p) (upd H p (.tup (xs++ys))))
theorem yP{A:Around}{t:Addr}{ws:List Value}(ht:IsTup s.heap t ([]:List Value).toArray)(hb:IsTup s.heap b ws.toArray)(h0:Q (.ref b) s):wpAny (model prog w) A (binaryOp .Add (.ref t) (.ref b)) Q E s:=by
 obtain⟨⟨cls,dd,data,sl⟩,ho,hc,n,hd⟩:=id ht;obtain⟨⟨cls2,dd2,data2,sl2⟩,ho2,hc2,n2,hd2⟩:=id hb;simp only at hc hd hc2 hd2;subst hc hd hc2 hd2;exact concat_meets ⟨_,ho,rfl⟩ ⟨_,ho2,rfl⟩ noFill_tuple_add seq_tuple_add PySem.F.slot_tuple_add PySem.F.entry_tuple_add (PySem.F.args_tuple_add_2 _ _)
   (tuple_addW0 t b _ ws.toArray n n2 dd dd2 sl sl2 (by simp)) ⟨ho,ho2,h0⟩
theorem Bf:cW X (binaryOp .Add) (Cp X.K):=by
 intro pins s σ H x y v u Q I rx ry h;obtain⟨a,b,xs,ys,rfl,rfl,ha,hb,hz,q0,q1,q2⟩:=h;by_cases hx:xs=[]
 ·subst hx
  cases rx;cases ry
  obtain⟨its,r1,p1,_⟩:=I.tuple ha;obtain⟨its2,r2,p2,_⟩:=I.tuple hb;obtain rfl:=Paired.FX r1;exact yP p1 p2 ⟨.ref b,H,I,rfl,q0 rfl⟩
 ·exact sx pins s σ H _ _ v u Q I rx ry ⟨a,b,xs,ys,rfl,rfl,ha,hb,hx,hz,q1 hx,q2 hx⟩
noncomputable def wz(K:Pq):R2:=fun x y H Q=>(∃ i j,x=.int i/\y=.int j/\Q (.int (i+j)) H)\/(∃ i j,x=.str i/\y=.str j/\i.length+j.length<=sizeLine/\Q (.str (i++j)) H)\/FQ x y H Q\/Cp K x y H Q
theorem aJ(K:Pq)(hK:X.K=K):cW X (binaryOp .Add) (wz K):=by subst hK;exact vM.or (jc.or (xC.or Bf))
noncomputable def bL{v:V}{t:T}(h:Hv F ad B H μ v (.tr t)):Rep F.K H B v t:=h
noncomputable def gJ:U2:=fun r1 r2 μ Q=>match cont μ r1,cont μ r2 with
 |some (.int i),some (.int j)=>Q (.tr (.int (i+j))) μ
 |some (.str i),some (.str j)=>i.length+j.length<=sizeLine/\Q (.tr (.str (i++j))) μ
 |some (.lst xs),some (.lst ys)=>xs.length+ys.length<=sizeLine/\Q (.fr (.lst (xs++ys))) μ
 |some (.tup xs),some (.tup ys)=>xs.length+ys.length<=sizeLine/\Q (.tr (.tup (xs++ys))) μ
 |_,_=>False
theorem Hv.nX{v:V}{r:R}{xs:List T}(l:Rl F ad B σ H μ)(h:Hv F ad B H μ v r)(e:cont μ r=some (.tup xs)):Rep F.K H B v (.tup xs):=by
 cases r with
 |tr t=>cases e;exact h
 |br i =>
  obtain⟨rfl,s,c,h1,h2⟩:=h;have e2:(μ[i]?).bind Sl.box=some (.tup xs):=e;rw[h1] at e2;have e':s.box=some (.tup xs):=e2;rcases ((l.slot i s h1).boxed e').2.2.1.is with ⟨ts,vs,z,_⟩|⟨ks,ts,vs,z,_⟩<;>cases z
 |fr c=>exact h.elim
theorem DP:me K (wz K) gJ:=by
 intro F ad B σ H μ Q Qt x y r1 r2 hK l h1 h2 q k;subst hK;unfold gJ at q
 split at q
 ·rename_i i j e1 e2;have a:=h1.vw l e1;have b:=h2.vw l e2;obtain rfl:=Vw.cA a;obtain rfl:=Vw.cA b;exact .inl ⟨_,_,rfl,rfl,k _ H _ μ (Vr.flat l (.int _)) Fr.refl (Kp.refl μ) q⟩
 ·rename_i i j e1 e2;have a:=h1.vw l e1;have b:=h2.vw l e2;obtain rfl:=Vw.fP a;obtain rfl:=Vw.fP b;exact .inr (.inl ⟨_,_,rfl,rfl,q.1,k _ H _ μ (Vr.flat l (.str _)) Fr.refl (Kp.refl μ) q.2⟩)
 ·rename_i xs ys e1 e2;have a:=h1.vw l e1;have b:=h2.vw l e2;obtain⟨_,_,rfl,ha,ra⟩:=Vw.dX a;obtain⟨_,_,rfl,hb,rb⟩:=Vw.dX b;exact .inr (.inr (.inl ⟨_,_,_,_,rfl,rfl,ha,hb,by rw[ra.length,rb.length];exact q.1,fun p hp=>k _ _ _ μ (Vr.gz l (ra.append rb) hp) (Fr.more hp) (Kp.refl μ) q.2⟩))
 ·rename_i xs ys e1 e2;have a:=Hv.nX l h1 e1;have b:=Hv.nX l h2 e2;have a':=a;have b':=b;obtain⟨_,_,rfl,na,ha,ra⟩:=Rep.tupI a;obtain⟨_,_,rfl,nb,hb,rb⟩:=Rep.tupI b;refine .inr (.inr (.inr ⟨_,_,_,_,rfl,rfl,aW.of ha,aW.of hb,by rw[ra.length,rb.length];exact q.1,fun z=>?_,fun z1 z2=>?_,fun z1 z2 p hp=>k _ _ _ μ (Vr.uV l (ra.append rb) hp) (Fr.same (bQ.new hp)) (Kp.refl μ) q.2⟩))
  ·subst z;cases ra;exact k _ H _ μ (Vr.flat l b') Fr.refl (Kp.refl μ) q.2
  ·subst z2;cases rb;have q2:=q.2;rw[Lj] at q2;exact k _ H _ μ (Vr.flat l a') Fr.refl (Kp.refl μ) q2
 ·exact q.elim
noncomputable def r_:U2:=fun r1 r2 μ Q=>match cont μ r1,cont μ r2 with
 |some (.int i),some (.int j)=>mO i j/\Q (.tr (.int (i*j))) μ
 |some (.lst xs),some (.int k)=>-(2^63)<=k/\k<2^63/\xs.length*k.toNat<=sizeLine/\Q (.fr (.lst (List.replicate k.toNat xs).flatten)) μ
 |_,_=>False
theorem xK:me K Di r_:=by
 intro F ad B σ H μ Q Qt x y r1 r2 hK l h1 h2 q k;unfold r_ at q
 split at q
 ·rename_i i j e1 e2;have a:=h1.vw l e1;have b:=h2.vw l e2;obtain rfl:=Vw.cA a;obtain rfl:=Vw.cA b;exact⟨q.1,k _ H _ μ (Vr.flat l (.int _)) Fr.refl (Kp.refl μ) q.2⟩
 ·rename_i xs j e1 e2;have a:=h1.vw l e1;have b:=h2.vw l e2;obtain rfl:=Vw.cA b;obtain⟨_,_,rfl,ha,ra⟩:=Vw.dX a;exact⟨_,_,_,rfl,rfl,ha,q.1,q.2.1,by rw[ra.length];exact q.2.2.1,fun p hp=>k _ _ _ μ (Vr.gz l (ra.rep _) hp) (Fr.more hp) (Kp.refl μ) q.2.2.2⟩
 ·exact q.elim
noncomputable def pw:U2:=fun r1 r2 μ Q=>match cont μ r1,cont μ r2 with
 |some (.lst xs),some (.int i)=>(match bC xs i with|some t=>Q (.tr t) μ|none=>False)
 |some (.tup xs),some (.int i)=>(match bC xs i with|some t=>Q (.tr t) μ|none=>False)
 |some (.dN xs),some (.int i)=>(match bC xs i with|some t=>Q (.tr t) μ|none=>False)
 |some (.str z),some (.int i)=>z.length<=sizeLine/\(match bC z.cps.toList i with|some c=>Q (.tr (.str ⟨#[c]⟩)) μ|none=>False)
 |_,_=>False
theorem bp(K:Pq)(hK:X.K=K):rF X (Ik K):=by subst hK;exact xa
theorem GJ:me K (Ik K) pw:=by
 intro F ad B σ H μ Q Qt x y r1 r2 hK l h1 h2 q k;subst hK;unfold pw at q
 split at q
 ·rename_i xs j e1 e2;have a:=h1.vw l e1;have b:=h2.vw l e2;obtain rfl:=Vw.cA b
  split at q
  ·rename_i t e3;obtain⟨_,_,rfl,ha,ra⟩:=Vw.dX a;obtain⟨v,e4,rv⟩:=ra.bC e3;exact .inl ⟨_,_,_,v,rfl,rfl,bz.of ha,e4,k _ H _ μ (Vr.flat l rv) Fr.refl (Kp.refl μ) q⟩
  ·exact q.elim
 ·rename_i xs j e1 e2;have a:=h1.vw l e1;have b:=h2.vw l e2;obtain rfl:=Vw.cA b
  split at q
  ·rename_i t e3;obtain⟨_,_,rfl,ha,ra⟩:=Vw.tupI a;obtain⟨v,e4,rv⟩:=ra.bC e3;exact .inr (.inl ⟨_,_,_,v,rfl,rfl,aW.of ha,e4,k _ H _ μ (Vr.flat l rv) Fr.refl (Kp.refl μ) q⟩)
  ·exact q.elim
 ·rename_i xs j e1 e2;have a:=h1.vw l e1;have b:=h2.vw l e2;obtain rfl:=Vw.cA b
  split at q
  ·rename_i t e3;obtain⟨_,_,rfl,ha,ra⟩:=Vw.qC a;obtain⟨v,e4,rv⟩:=ra.bC e3;exact .inr (.inl ⟨_,_,_,v,rfl,rfl,.inr ha,e4,k _ H _ μ (Vr.flat l rv) Fr.refl (Kp.refl μ) q⟩)
  ·exact q.elim
 ·rename_i xs j e1 e2;have a:=h1.vw l e1;have b:=h2.vw l e2;obtain rfl:=Vw.cA b;obtain rfl:=Vw.fP a;obtain⟨q0,q⟩:=q
  split at q
  ·rename_i t e3;exact .inr (.inr ⟨_,_,_,rfl,rfl,q0,e3,k _ H _ μ (Vr.flat l (.str _)) Fr.refl (Kp.refl μ) q⟩)
  ·exact q.elim
 ·exact q.elim
noncomputable def IL:T->T->Bool
 |.aM,.aM=>true
 |.bl a,.bl b=>a == b
 |.bl a,.int b=>(if a then 1 else 0) == b
 |.int a,.bl b=>a ==(if b then 1 else 0)
 |.int a,.int b=>a == b
 |.str a,.str b=>a == b
 |_,_=>false
noncomputable def nS(xs ys:List T):Bool:=xs.length == ys.length && (List.range (min xs.length ys.length)).all fun j=>match xs[j]?,ys[j]? with
 |some x,some y=>IL x y
 |_,_=>true
theorem Ck{x y:V}{t u:T}(h1:Rep K H B x t)(h2:Rep K H B y u)(f1:aK t=true)(f2:aK u=true):dz x=true/\dz y=true/\uP x y=IL t u:=by
 cases h1<;>first | (cases f1;done) | (cases h2<;>first | (cases f2;done)|exact⟨rfl,rfl,rfl⟩)
noncomputable def AK(K:Pq)(neg:Bool):R2:=fun x y H Q=>∃ a b xs ys,x=.ref a/\y=.ref b/\((bz K H a xs/\bz K H b ys)\/(aW K H a xs/\aW K H b ys))/\xs.all dz=true/\ys.all dz=true /\
 ∀ c,c=(xs.length == ys.length && (List.range (min xs.length ys.length)).all fun j=>match xs[j]?,ys[j]? with|some x,some y=>uP x y|_,_=>true)->Q (.bl (if neg then !c else c)) H
theorem ES(hu:X.A.units<cLine):cW X (compareOp .Eq) (AK X.K false):=by
 intro pins s σ H x y v u Q I rx ry h;obtain⟨a,b,xs,ys,rfl,rfl,hq,fx,fy,q⟩:=h
 cases rx;cases ry
 have item:∀(its its2:List Value),Vals xs its->Vals ys its2->∀ j (h1:j<its.toArray.size) (h2:j<its2.toArray.size),SeqAt.EqAt X.A.in1 s its.toArray[j] its2.toArray[j] (match xs[j]?,ys[j]? with|some x,some y=>uP x y|_,_=>true):=fun its its2 r1 r2 j h1 h2=>by
  have l1:=r1.length;have l2:=r2.length;rw[Ky] at h1 h2;obtain⟨u1,e1,g1⟩:=r1.get (i:=j) (x:=xs[j]) (Kw (by lia))
  obtain⟨u2,e2,g2⟩:=r2.get (i:=j) (x:=ys[j]) (Kw (by lia))
  rw[Kw (show j<xs.length by lia),Kw (show j<ys.length by lia)]
  have z1:its.toArray[j]=u1:=by
   rw[Kw h1] at e1;simpa using e1
  have z2:its2.toArray[j]=u2:=by
   rw[Kw h2] at e2;simpa using e2
  rw[z1,z2];exact pU g1 g2 (Ml.mp fx _ (Ll _)) (Ml.mp fy _ (Ll _))
 rcases hq with ⟨ha,hb⟩|⟨ha,hb⟩
 ·obtain⟨its,r1,p1,_⟩:=I.list ha;obtain⟨its2,r2,p2,_⟩:=I.list hb;have l1:=r1.length;have l2:=r2.length;by_cases e:xs.length=ys.length
  ·refine SeqAt.eq_listAt p1.isList p2.isList (by rw[Ky,Ky];lia) hu (item its its2 r1 r2) ⟨.bl _,H,I,rfl,q _ ?_⟩
   rw[Ky,<- l1,<- e,NF,Mm,Bool.true_and]
  ·refine SeqAt.eq_list_lengthsAt p1.isList p2.isList (by rw[Ky,Ky,bne_iff_ne];lia) hu ⟨.bl _,H,I,rfl,q _ ?_⟩
   rw[Lh.mpr e,OR]
 ·obtain⟨its,r1,p1,_⟩:=I.tuple ha;obtain⟨its2,r2,p2,_⟩:=I.tuple hb;have l1:=r1.length;have l2:=r2.length;refine SeqAt.eq_tupleAt p1 p2 hu (item its its2 r1 r2) ⟨.bl _,H,I,rfl,q _ ?_⟩;rw[Ky,Ky,<- l1,<- l2,Bool.and_comm];rfl
theorem bO:∀{xs:List V} {ts:List T},ai K H B xs ts->ts.all aK=true->xs.all dz=true
 |_,_,.nil,_=>rfl
 |_,_,.cons h r,f=>by
  rw[LW,L7] at f ⊢;refine⟨?_,bO r f.2⟩;have f1:=f.1
  cases h<;>first|rfl|cases f1
theorem lY(h1:ai K H B xs ts)(h2:ai K H B ys us)(f1:ts.all aK=true)(f2:us.all aK=true):
  nS ts us=(xs.length == ys.length && (List.range (min xs.length ys.length)).all fun j=>match xs[j]?,ys[j]? with|some x,some y=>uP x y|_,_=>true):=by
 unfold nS;have l1:=h1.length;have l2:=h2.length;rw[l1,l2];congr 1;refine List.all_congr rfl ?_ |>.symm;intro j
 cases a1:ts[j]? with
 |none =>
  have:xs[j]?=none:=K_.mpr (by have:=K_.mp a1;lia)
  rw[this]
 |some t =>
  obtain⟨v1,e1,r1⟩:=h1.get a1;rw[e1]
  cases a2:us[j]? with
  |none =>
   have:ys[j]?=none:=K_.mpr (by have:=K_.mp a2;lia)
   rw[this]
  |some u =>
   obtain⟨v2,e2,r2⟩:=h2.get a2;rw[e2];exact (Ck r1 r2 (Ml.mp f1 _ (L6 a1)) (Ml.mp f2 _ (L6 a2))).2.2
noncomputable def FF(K:Pq):R2:=fun x y H Q=>CK x y H Q\/AK K false x y H Q
theorem cu(K:Pq)(hK:X.K=K)(hu:X.A.units<cLine):cW X (compareOp .Eq) (FF K):=by subst hK;exact Cm.or (ES hu)
noncomputable def Hq(neg:Bool):T->T->Mu->(R->Mu->Prop)->Prop:=fun t u μ Q=>match t,u with
 |.int i,.int j=>Q (.tr (.bl (if neg then !decide (i=j) else decide (i=j)))) μ
 |.str i,.str j=>Q (.tr (.bl (if neg then !decide (i=j) else decide (i=j)))) μ
 |.bl i,.bl j=>Q (.tr (.bl (if neg then !decide (i=j) else decide (i=j)))) μ
 |.lst xs,.lst ys=>neg=false/\xs.all aK=true/\ys.all aK=true/\Q (.tr (.bl (nS xs ys))) μ
 |.tup xs,.tup ys=>neg=false/\xs.all aK=true/\ys.all aK=true/\Q (.tr (.bl (nS xs ys))) μ
 |_,_=>False
theorem dV[DecidableEq α]{f:α->V}(hf:∀ a b,f a=f b->a=b)(a b:α):decide (f a=f b)=decide (a=b):=by
 rw[M7];exact⟨hf a b,fun h=>by rw[h]⟩
theorem dI:me K (FF K) (yV (Hq false)):=gY fun F ad B σ H μ Q Qt x y t u hK l v1 v2 q k=>by
 subst hK;unfold Hq at q
 split at q
 ·obtain rfl:=Vw.cA v1;obtain rfl:=Vw.cA v2;refine .inl ⟨rfl,?_⟩;rw[dV (f:=V.int) (fun a b h=>by injection h)]
  exact k _ H _ (Vr.flat l (.bl _)) Fr.refl q
 ·obtain rfl:=Vw.fP v1;obtain rfl:=Vw.fP v2;refine .inl ⟨rfl,?_⟩;rw[dV (f:=V.str) (fun a b h=>by injection h)]
  exact k _ H _ (Vr.flat l (.bl _)) Fr.refl q
 ·obtain rfl:=Vw.zq v1;obtain rfl:=Vw.zq v2;refine .inl ⟨rfl,?_⟩;rw[dV (f:=V.bl) (fun a b h=>by injection h)]
  exact k _ H _ (Vr.flat l (.bl _)) Fr.refl q
 ·obtain⟨_,_,rfl,ha,ra⟩:=Vw.dX v1;obtain⟨_,_,rfl,hb,rb⟩:=Vw.dX v2;exact .inr ⟨_,_,_,_,rfl,rfl,.inl ⟨bz.of ha,bz.of hb⟩,bO ra q.2.1,bO rb q.2.2.1,fun c hc=>by
   rw[<- lY ra rb q.2.1 q.2.2.1] at hc;subst hc;exact k _ H _ (Vr.flat l (.bl _)) Fr.refl q.2.2.2⟩
 ·obtain⟨_,_,rfl,ha,ra⟩:=Vw.tupI v1;obtain⟨_,_,rfl,hb,rb⟩:=Vw.tupI v2;exact .inr ⟨_,_,_,_,rfl,rfl,.inr ⟨aW.of ha,aW.of hb⟩,bO ra q.2.1,bO rb q.2.2.1,fun c hc=>by
   rw[<- lY ra rb q.2.1 q.2.2.1] at hc;subst hc;exact k _ H _ (Vr.flat l (.bl _)) Fr.refl q.2.2.2⟩
 ·exact q.elim
noncomputable def qw(f:T->Mu->(R->Mu->Prop)->Prop):UC:=fun rs μ Q=>match rs with
 |[r]=>(match cont μ r with|some t=>f t μ Q|none=>False)
 |_=>False
theorem gu{f:T->Mu->(R->Mu->Prop)->Prop}
  (h:∀(F:Fx) (ad:Nat->Addr) (B:aL) (σ:St) (H:Hp) (μ:Mu) (Q:VK) (Qt:R->Mu->Prop) (x:V) (t:T),F.K=K->Rl F ad B σ H μ->Vw F.K H B x t->f t μ Qt ->
   (∀ v H' r,Vr F ad B σ H' μ v r->Fr B H (Bv B v r) H'->Qt r μ->Q v H')->r [x] H Q):RC K r (qw f):=by
 intro F ad B σ H μ Q Qt xs rs hK l p q k;unfold qw at q
 split at q
 ·split at q
  ·rename_i r0 _ t e;obtain⟨_,_,rfl,h1,p⟩:=Paired.bW p
   cases p;exact h F ad B σ H μ Q Qt _ t hK l (h1.vw l e) q fun v H' r v1 s q1=>k v H' r μ v1 s (Kp.refl μ) q1
  ·exact q.elim
 ·exact q.elim
noncomputable def ou:T->Mu->(R->Mu->Prop)->Prop:=fun t μ Q=>match t with
 |.lst xs=>Q (.tr (.int xs.length)) μ
 |.tup xs=>Q (.tr (.int xs.length)) μ
 |.dW xs=>Q (.tr (.int xs.length)) μ
 |.dN xs=>Q (.tr (.int xs.length)) μ
 |.str z=>z.length<=sizeLine/\Q (.tr (.int z.length)) μ
 |_=>False
noncomputable def xE(K:Pq):List V->Hp->VK->Prop:=fun xs H Q=>(∃ p ys,xs=[.ref p]/\(bz K H p ys\/aW K H p ys)/\Q (.int ys.length) H)\/(∃ z,xs=[.str z]/\z.length<=sizeLine/\Q (.int z.length) H)
theorem aX(K:Pq)(hK:X.K=K):aH X (.builtin "len") (xE K):=by subst hK;exact mw.or lX
theorem EO:RC K (xE K) (qw ou):=gu fun F ad B σ H μ Q Qt x t hK l v1 q k=>by
 subst hK;unfold ou at q
 split at q
 ·obtain⟨_,_,rfl,ha,ra⟩:=Vw.dX v1;exact .inl ⟨_,_,rfl,.inl (bz.of ha),by rw[ra.length];exact k _ H _ (Vr.flat l (.int _)) Fr.refl q⟩
 ·obtain⟨_,_,rfl,ha,ra⟩:=Vw.tupI v1;exact .inl ⟨_,_,rfl,.inr (aW.of ha),by rw[ra.length];exact k _ H _ (Vr.flat l (.int _)) Fr.refl q⟩
 ·obtain⟨_,_,rfl,ha,ra⟩:=Vw.uz v1;exact .inl ⟨_,_,rfl,.inl ha,by rw[ra.length];exact k _ H _ (Vr.flat l (.int _)) Fr.refl q⟩
 ·obtain⟨_,_,rfl,ha,ra⟩:=Vw.qC v1;exact .inl ⟨_,_,rfl,.inr (.inr ha),by rw[ra.length];exact k _ H _ (Vr.flat l (.int _)) Fr.refl q⟩
 ·obtain rfl:=Vw.fP v1;exact .inr ⟨_,rfl,q.1,k _ H _ (Vr.flat l (.int _)) Fr.refl q.2⟩
 ·exact q.elim
noncomputable def dP:UC:=fun rs μ Q=>match rs with
 |[r]=>(match cont μ r with
  |some (.lst xs)=>Q (.tr (.tup xs)) μ
  |some (.tup xs)=>Q (.tr (.tup xs)) μ
  |_=>False)
 |_=>False
noncomputable def Cn(K:Pq):List V->Hp->VK->Prop:=fun xs H Q=>∃ p ys,xs=[.ref p]/\((bz K H p ys/\∀ l,H l=none->Q (.ref l) (upd H l (.tup ys)))\/(aW K H p ys/\Q (.ref p) H))
theorem du(K:Pq)(hK:X.K=K):aH X (.type "tuple") (Cn K):=by subst hK;exact cQ
theorem dR:RC K (Cn K) dP:=by
 intro F ad B σ H μ Q Qt xs rs hK l p q k;subst hK;unfold dP at q
 split at q
 ·obtain⟨_,_,rfl,h1,p⟩:=Paired.bW p;obtain rfl:=Paired.jv p
  split at q
  ·rename_i e;have v1:=h1.vw l e;obtain⟨_,_,rfl,ha,ra⟩:=Vw.dX v1;exact⟨_,_,rfl,.inl ⟨bz.of ha,fun p hp=>k _ _ _ μ (Vr.uV l ra hp) (Fr.same (bQ.new hp)) (Kp.refl μ) q⟩⟩
  ·rename_i e;have rp:=Hv.nX l h1 e;have rp':=rp;obtain⟨_,_,rfl,na,ha,ra⟩:=Rep.tupI rp;exact⟨_,_,rfl,.inr ⟨aW.of ha,k _ H _ μ (Vr.flat l rp') Fr.refl (Kp.refl μ) q⟩⟩
  ·exact q.elim
 ·exact q.elim
noncomputable def mM:T->Mu->(R->Mu->Prop)->Prop:=fun t μ Q=>match t with
 |.lst xs=>Q (.fr (.lst xs)) μ
 |.tup xs=>Q (.fr (.lst xs)) μ
 |.dW xs=>Q (.fr (.lst xs)) μ
 |.gw lo hi=>(hi-lo).toNat<=65536/\-(2^62)<=lo/\lo<2^62/\-(2^62)<=hi/\hi<2^62/\Q (.fr (.lst ((List.range (hi-lo).toNat).map fun k=>T.int (lo+(k:Nat))))) μ
 |_=>False
noncomputable def yC(K:Pq):List V->Hp->VK->Prop:=fun xs H Q=>(∃ p ys,xs=[.ref p]/\(bz K H p ys\/aW K H p ys)/\∀ l,H l=none->Q (.ref l) (upd H l (.lst ys))) \/
 (∃ p lo hi,xs=[.ref p]/\H p=some (.gw lo hi)/\(hi-lo).toNat<=65536/\-(2^62)<=lo/\lo<2^62/\-(2^62)<=hi/\hi<2^62/\∀ l,H l=none->Q (.ref l) (upd H l (.lst ((List.range (hi-lo).toNat).map fun k=>V.int (lo+(k:Nat))))))
theorem fV{lo:Int}:∀(n:Nat) (acc:List Value) (k:Nat),acc.length=n->(∀ j v,acc[j]?=some v->∃ t,v=Value.int (lo+((k+j:Nat):Int)) t)->Vals ((List.range' k n).map fun k=>V.int (lo+(k:Nat))) acc
 |0,acc,k,h,_=>by cases acc with|nil=>exact .nil|cons a b=>cases h
 |n+1,[],k,h,_=>by cases h
 |n+1,a::acc,k,h,g=>by
  rw[LK,KN];refine .cons ?_ (fV n acc (k+1) (by simpa using h) fun j v e=>?_)
  ·obtain⟨t,e⟩:=g 0 a rfl;exact⟨t,by simpa using e⟩
  ·obtain⟨t,e2⟩:=g (j+1) v (by simpa using e)
   exact⟨t,by rw[e2];congr 2;lia⟩
theorem pM(hc:X.calm=true):aH X (.type "list") (fun xs H Q=>∃ p lo hi,xs=[.ref p]/\H p=some (.gw lo hi)/\(hi-lo).toNat<=65536/\-(2^62)<=lo/\lo<2^62/\-(2^62)<=hi/\hi<2^62/\∀ l,H l=none->Q (.ref l) (upd H l (.lst ((List.range (hi-lo).toNat).map fun k=>V.int (lo+(k:Nat)))))):=by
 intro pins s σ H xs us Q I r h;obtain⟨p,lo,hi,rfl,hp,hn,h1,h2,h3,h4,q⟩:=h;obtain⟨u,rfl,rx⟩:=vals1 r;cases rx;obtain⟨t,u,v,e⟩:=I.aD p _ hp;have hn2:Builtin.Range.rangeSize lo hi 1=((hi-lo).toNat:Nat):=by rw[rangeSize_one];split<;>lia
 refine call_list_range (n:=(hi-lo).toNat) (I.ok.hd hc) e (small_one h1 h2 h3 h4) hn2 (by lia) fun h' tk acc c' hk hS hI=>?_
 have hv:Vals ((List.range (hi-lo).toNat).map fun k=>V.int (lo+(k:Nat))) acc.toList:=by
  rw[My];refine fV _ _ 0 (by simpa using hI.1) fun j v e=>?_
  obtain⟨t,e2⟩:=hI.2 j v (by simpa using e)
  exact⟨t,by rw[e2];simp⟩
 refine⟨.ref s.heap.objs.size,_,I.laid (t':=tk) hk (K2 _) (show aP X.prog X.w _ h' _ (.lst _) from⟨?_,acc.toList,c',hv,by simpa using hS⟩),rfl,q _ (I.aD.fresh (K2 _))⟩
 rw[K3,L1];exact KG hn (by decide)
theorem ja(K:Pq)(hK:X.K=K)(hc:X.calm=true):aH X (.type "list") (yC K):=by subst hK;exact lU.or (pM hc)
theorem jG{lo:Int}:∀ l:List Nat,ai K H B (l.map fun k=>V.int (lo+(k:Nat))) (l.map fun k=>T.int (lo+(k:Nat)))
 |[]=>.nil
 |k::l=>.cons (.int _) (jG l)
theorem rC:RC K (yC K) (qw mM):=gu fun F ad B σ H μ Q Qt x t hK l v1 q k=>by
 subst hK;unfold mM at q
 split at q
 ·obtain⟨_,_,rfl,ha,ra⟩:=Vw.dX v1;exact .inl ⟨_,_,rfl,.inl (bz.of ha),fun p hp=>k _ _ _ (Vr.gz l ra hp) (Fr.more hp) q⟩
 ·obtain⟨_,_,rfl,ha,ra⟩:=Vw.tupI v1;exact .inl ⟨_,_,rfl,.inr (aW.of ha),fun p hp=>k _ _ _ (Vr.gz l ra hp) (Fr.more hp) q⟩
 ·obtain⟨_,_,rfl,ha,ra⟩:=Vw.uz v1;exact .inl ⟨_,_,rfl,.inl ha,fun p hp=>k _ _ _ (Vr.gz l ra hp) (Fr.more hp) q⟩
 ·obtain⟨_,rfl,ha⟩:=Vw.IK v1;exact .inr ⟨_,_,_,rfl,ha,q.1,q.2.1,q.2.2.1,q.2.2.2.1,q.2.2.2.2.1,fun p hp=>k _ _ _ (Vr.gz l (jG _) hp) (Fr.more hp) q.2.2.2.2.2⟩
 ·exact q.elim
noncomputable def D0(g:Int->Int->Int):UC:=fun rs μ Q=>match rs with
 |[.tr (.int i),.tr (.int j)]=>Q (.tr (.int (g i j))) μ
 |_=>False
theorem CB{g:Int->Int->Int}(h:∀ i j H Q,Q (.int (g i j)) H->r [.int i,.int j] H Q):RC K r (D0 g):=by
 intro F ad B σ H μ Q Qt xs rs hK l p q k;unfold D0 at q
 split at q
 ·obtain⟨_,_,rfl,h1,p⟩:=Paired.bW p;obtain⟨_,_,rfl,h2,p⟩:=Paired.bW p
  cases p;cases bL h1;cases bL h2;exact h _ _ _ _ (k _ H _ μ (Vr.flat l (.int _)) Fr.refl (Kp.refl μ) q)
 ·exact q.elim
theorem qj:RC K E5 (D0 fun i j=>if j > i then j else i):=CB fun i j H Q q=>q
theorem mB:RC K FC (D0 fun i j=>if j<i then j else i):=CB fun i j H Q q=>q
noncomputable def xH:UC:=fun rs μ Q=>match rs with
 |[.tr (.int i)]=>Q (.tr (.int i)) μ
 |[.tr (.bl k)]=>Q (.tr (.int (if k=true then 1 else 0))) μ
 |_=>False
theorem DS:RC K GU xH:=by
 intro F ad B σ H μ Q Qt xs rs hK l p q k;unfold xH at q
 split at q
 ·obtain⟨_,_,rfl,h1,p⟩:=Paired.bW p
  cases p;cases bL h1;exact k _ H _ μ (Vr.flat l (.int _)) Fr.refl (Kp.refl μ) q
 ·obtain⟨_,_,rfl,h1,p⟩:=Paired.bW p
  cases p;cases bL h1;exact k _ H _ μ (Vr.flat l (.int _)) Fr.refl (Kp.refl μ) q
 ·exact q.elim
noncomputable def Aa:T->String->Option Bool
 |.aM,c=>some (fO "NoneType" c)
 |.bl _,c=>some (fO "bool" c)
 |.int _,c=>some (fO "int" c)
 |.str _,c=>some (fO "str" c)
 |.lst _,c=>some (fO "list" c)
 |.tup _,c=>some (fO "tuple" c)
 |_,_=>none
noncomputable def o8(ue:UE)(c:String):UE:=fun μ Q=>ue μ fun r μ'=>match cont μ' r with
 |some t=>(match Aa t c with|some b=>Q (.tr (.bl b)) μ'|none=>False)
 |none=>False
theorem Vw.ty{v:V}{t:T}{c:String}{b:Bool}(h:Vw K H B v t)(e:Aa t c=some b):∃ s,C1 H v=some s/\fO s c=b:=by
 cases h with
 |aM=>cases e;exact⟨_,rfl,rfl⟩
 |bl=>cases e;exact⟨_,rfl,rfl⟩
 |int=>cases e;exact⟨_,rfl,rfl⟩
 |str=>cases e;exact⟨_,rfl,rfl⟩
 |tup h r=>cases e;exact⟨_,by unfold C1;simp only[h],rfl⟩
 |lst h r=>cases e;exact⟨_,by unfold C1;simp only[h],rfl⟩
 |dW=>cases e
 |gw=>cases e
 |mH=>cases e
 |exc=>cases e
 |Au=>cases e
 |il=>cases e
 |dN=>cases e
theorem Vr.vw{v:V}{r:R}{t:T}(h:Vr F ad B σ H μ v r)(e:cont μ r=some t):Vw F.K H B v t:=by
 have e':cont μ r.d=some t:=by cases r<;>exact e
 exact h.hv.vw h.rl e'
section
variable {X:Cx} {a b c e o:Expr} {es rest:List Expr} {ua ub uc ue uo:UE} {uA uB:UT} {us:UA} {pos p p2 p3:Pos} {x:Str}
theorem GI{C:String}(K:Pq)(hK:X.K=K)(hg:Gl X "isinstance")(hm:X.mg "isinstance"=none)(ha:YE X a ua)(hgc:Gl X x)(hmc:X.mg x=none)(hvc:bootBuiltins x=some (.type C))(hc:autoParam (C∈["bool","int","str","list","tuple","dict"]) ℜ1)(h1:autoParam (cK a=true) ℜ0)
  (hnx:autoParam (x≠"__name__") ℜ1) (hdx:autoParam ((x ==("__debug__":Str))=false) ℜ1):YE X (.Call (.Name "isinstance" p) [a,.Name x p3] [] pos) (o8 ua C):=by
 obtain⟨t,q,r⟩:=ha;refine⟨_,Z.cb (Z.Hn K hK) hg hm PyProof.Rows.boot_isinstance (Z.cons q (Z.cons (Z.Kb hgc hmc hvc hnx hdx) Z.nil) h1) h1,fun F ad B σ H μ Q Qt hK l q k=>r F ad B σ H μ _ _ hK l q fun v H' r1 μ' v1 f k1 q1=>?_⟩;show L2.o8 K [v,.ty C] H' Q;refine⟨hc,?_⟩
 split at q1
 ·rename_i t e
  split at q1
  ·rename_i b e2;obtain⟨s,e3,e4⟩:=Vw.ty (Vr.vw v1 e) e2;rw[e3];subst e4;exact k _ H' (.tr (.bl _)) μ' (Vr.flat v1.rl (.bl _)) f.d k1 q1
  ·exact q1.elim
 ·exact q1.elim
noncomputable def bB(xs:List α)(lo hi:Option Int):List α:=(xs.drop (HT.bq xs.length 0 lo)).take (HT.bq xs.length xs.length hi-HT.bq xs.length 0 lo)
theorem ai.cut{vs:List V}(r:ai K H B vs ts)(lo hi:Option Int):ai K H B (l_ vs lo hi) (bB ts lo hi):=by
 unfold l_ bB;rw[r.length];exact (r.drop _).take _
noncomputable def He(K:Pq):V->Option Int->Option Int->Hp->VK->Prop:=fun x lo hi H Q=>∃ a xs,x=.ref a/\aW K H a xs/\HT.bq xs.length 0 lo=0/\HT.bq xs.length xs.length hi=xs.length/\Q (.ref a) H
theorem gP{A:Around}{t sl:Addr}{vl vu:Value}{lo hi:Option Int}(ht:IsTup s.heap t items)(hs:s.heap.IsSliceOf sl vl vu .none)(pl:IsPart vl lo)(pu:IsPart vu hi)
  (h1:HT.bq items.size 0 lo=0) (h2:HT.bq items.size items.size hi=items.size) (h:Q (.ref t) s):wpAny (model prog w) A (getItem (.ref t) (.ref sl)) Q E s:=by
 obtain⟨os,hos,hcs,hds⟩:=id hs;have hTs:s.TypeIs (.ref sl) "slice":=⟨os,hos,hcs⟩;unfold getItem
 try with_reducible refine Lg ?_
 first|refine Ku (K1 ?_)|skip
 refine Ku (wpAny_sequenceKey ht.typeIs (by decide) ?_)
 refine Ku (Ls (name:=Str.ofString "__getitem__") ht.typeIs Mc
  (L8 Mc ht.typeIs entry_tuple_getitem ?_ (args_tuple_getitem _ _)))
 show wpAny _ _ (Builtin.Tuple.tupleItemsOf (.ref t) >>= _) _ _ s;refine Ku (tupleItemsOf_ ht ?_);refine Ku (NG hTs ?_);rw[Kz (by decide)]
 refine Ku (HT.e7 hs pl pu ?_);show wpAny _ _ (if (((HT.bq items.size 0 lo:Nat):Int) == 0 && (1:Int) == 1 && (HT.bq items.size items.size hi-HT.bq items.size 0 lo) == items.size)=true then _ else _) _ _ s
 rw[Kz (by rw[h1,h2];simp)]
 unfold Builtin.Tuple.tupleIsExact;refine Ku ?_;refine Ku (NG ht.typeIs (K1 ?_));rw[Kz (by decide)]
 exact Ku (NC (K1 ⟨_,rfl,K1 h⟩))
theorem Dt:vn X (He X.K):=by
 intro pins s σ H x v vl vu lo hi sl Q I rx hs pl pu h;obtain⟨a,xs,rfl,hx,h1,h2,q⟩:=h;cases rx;obtain⟨its,r,ht,hz⟩:=I.tuple hx;have hlen:its.toArray.size=xs.length:=by rw[Ky];exact r.length.symm
 exact⟨"tuple",_,Mc.lookup,ht.typeIs,gP ht hs pl pu (by rw[hlen];exact h1) (by rw[hlen];exact h2) ⟨.ref a,H,I,rfl,q⟩⟩
noncomputable def Hi(K:Pq):V->Option Int->Option Int->Hp->VK->Prop:=fun x lo hi H Q=>GH K x lo hi H Q\/Ba K x lo hi H Q\/He K x lo hi H Q
theorem Jz(K:Pq)(hK:X.K=K):vn X (Hi K):=by subst hK;exact zW.or (DX.or Dt)
noncomputable def IG(ue:UE)(ul uh:UO):UE:=fun μ Q=>ue μ fun r μ1=>ul μ1 fun lo μ2=>uh μ2 fun hi μ3=>match cont μ3 r.d with
 |some (.lst xs)=>Q (.fr (.lst (bB xs lo hi))) μ3
 |some (.dW xs)=>Q (.fr (.lst (bB xs lo hi))) μ3
 |some (.tup xs)=>Q (.tr (.tup (bB xs lo hi))) μ3
 |_=>False
end
end Y
structure yD (F:Fx) (B:aL) (H:Hp) (D:Ends) (E:Ed):Prop where
 nx:∀ ad' B' σ' H' μ',Rl F ad' B' σ' H' μ'->Fr B H B' H'->E.nx μ'->D.nx σ' H'
 rt:∀ ad' B' σ' H' μ' v r,Vr F ad' B' σ' H' μ' v r->E.rt r μ'->D.rt v H'
 bk:∀ ad' B' σ' H' μ',Rl F ad' B' σ' H' μ'->Fr B H B' H'->E.bk μ'->D.bk σ' H'
 ct:∀ ad' B' σ' H' μ',Rl F ad' B' σ' H' μ'->Fr B H B' H'->E.ct μ'->D.ct σ' H'
theorem yD.step{B1:aL}{E:Ed}(h:yD F B H D E)(f:Fr B H B1 H1):yD F B1 H1 D E:=
 ⟨fun ad' B' σ' H' μ' l g q=>h.nx ad' B' σ' H' μ' l (f.trans g) q,h.rt,fun ad' B' σ' H' μ' l g q=>h.bk ad' B' σ' H' μ' l (f.trans g) q,fun ad' B' σ' H' μ' l g q=>h.ct ad' B' σ' H' μ' l (f.trans g) q⟩
noncomputable def RS(K:Pq)(ts:TS)(us:US):Prop:=∀(F:Fx) (D:Ends) (E:Ed) (ad:Nat->Addr) (B:aL) (σ:St) (H:Hp) (μ:Mu),F.K=K->Rl F ad B σ H μ->us E μ->yD F B H D E->ts D σ H
abbrev UG:=R->Mu->(Mu->Prop)->Prop
abbrev sL:=List T->Mu->(Mu->Prop)->Prop
noncomputable def RG(K:Pq)(g:TG)(ug:UG):Prop:=∀(F:Fx) (ad:Nat->Addr) (B:aL) (σ:St) (H:Hp) (μ:Mu) (v:V) (r:R) (B0:aL) (H0:Hp) (Q:St->Hp->Prop) (Qt:Mu->Prop),F.K=K->Vr F ad B σ H μ v r->Fr B0 H0 (Bv B v r) H->ug r μ Qt ->
 (∀ ad' B' σ' H' μ',Rl F ad' B' σ' H' μ'->Fr B0 H0 B' H'->Qt μ'->Q σ' H')->g v σ H Q
noncomputable def Ka(K:Pq)(g:pA)(ug:sL):Prop:=∀(F:Fx) (ad:Nat->Addr) (B:aL) (σ:St) (H:Hp) (μ:Mu) (vs:List V) (ts:List T) (B0:aL) (H0:Hp) (Q:St->Hp->Prop) (Qt:Mu->Prop),F.K=K->Rl F ad B σ H μ->ai F.K H B vs ts->Fr B0 H0 B H->ug ts μ Qt ->
 (∀ ad' B' σ' H' μ',Rl F ad' B' σ' H' μ'->Fr B0 H0 B' H'->Qt μ'->Q σ' H')->g vs σ H Q
structure YG (X:Cx) (e:Expr) (u:UG):Prop where
 ex:∃ t,QG X e t/\RG X.K t u
structure FH (X:Cx) (es:List Expr) (u:sL):Prop where
 ex:∃ t,HJ X es t/\Ka X.K t u
structure YS (X:Cx) (st:Stmt) (u:US):Prop where
 ex:∃ t,QS X st t/\RS X.K t u
structure YB (X:Cx) (sts:List Stmt) (u:US):Prop where
 ex:∃ t,QB X sts t/\RS X.K t u
namespace Y
noncomputable def vo(μ:Mu)(i:Nat):Prop:=match μ[i]? with
 |some (.pb _)=>False
 |_=>True
theorem lN(h:vo μ i):∀ c,μ[i]?≠some (.pb c):=fun c e=>by unfold vo at h;rw[e] at h;exact h
noncomputable def gN(i:Nat):UG:=fun r μ Q=>match r with
 |.tr t=>vo μ i/\Q (μ.set i (.tr t))
 |.fr c=>vo μ i/\Q (μ.set i (.bx c))
 |.br _=>False
section
variable {X:Cx} {a b c e o tg:Expr} {es rest:List Expr} {ua ub uc ue uo:UE} {uA uB:UT} {us:UA} {pos pos' p p2 p3:Pos} {x:Str} {st:Stmt} {sts xs ys:List Stmt} {u w:US}
theorem lW:RG K (bJ i) (gN i):=fun F ad B σ H μ v r B0 H0 Q Qt hK h f q k=>by
 cases r with
 |tr t=>exact k ad B _ H _ (h.1.EJ (lN q.1) h.2) f q.2
 |br i=>exact q.elim
 |fr c =>
  obtain⟨l,a,rfl,n,h0,l2,x⟩:=h;exact k _ _ _ H _ (l2.setB (lN q.1) h0 n l.own l.gB x) f q.2
theorem aO(hN:X.N.Nodup)(hi:X.N[i]?=some x)(hx:Loc X.env.scope x)(hf:autoParam (X.fn x=true\/X.env.scope.names.lookup x=some .local) ℜ2):YG X (.Name x pos) (gN i):=⟨_,Z.aO hN hi hx hf,lW⟩
noncomputable def Ib:sL:=fun ts μ Q=>match ts with
 |[]=>Q μ
 |_=>False
noncomputable def Iu(g:UG)(gs:sL):sL:=fun ts μ Q=>match ts with
 |[]=>False
 |t::ts=>g (.tr t) μ fun μ'=>gs ts μ' Q
theorem gb:FH X [] Ib:=⟨_,Z.gb,fun F ad B σ H μ vs ts B0 H0 Q Qt hK l r f q k=>by
 cases r with
 |nil=>exact⟨rfl,k ad B σ H μ l f q⟩
 |cons=>exact q.elim⟩
theorem bH{g:UG}{gs:sL}(h1:YG X e g)(h2:FH X es gs)(hs:autoParam ((assignEach (e::es) X.env).map (·.2)=assign e X.env::(assignEach es X.env).map (·.2)) ℜ0):FH X (e::es) (Iu g gs):=by
 obtain⟨t,q,r⟩:=h1;obtain⟨t',q',r'⟩:=h2;refine⟨_,Z.bH q q' hs,fun F ad B σ H μ vs ts B0 H0 Q Qt hK l rs f q k=>?_⟩
 cases rs with
 |nil=>exact q.elim
 |cons h hr=>exact⟨_,_,rfl,r F ad B σ H μ _ (.tr _) B H _ _ hK ⟨l,h⟩ Fr.refl q fun ad' B' σ' H' μ' l' f' q'=>r' F ad' B' σ' H' μ' _ _ B0 H0 _ _ hK l' (hr.fr f') (f.trans f') q' k⟩
noncomputable def gT(n:Nat)(gs:sL):UG:=fun r μ Q=>match cont μ r.d with
 |some (.tup ts)=>ts.length=n/\gs ts μ Q
 |some (.lst ts)=>ts.length=n/\gs ts μ Q
 |_=>False
noncomputable def G1(K:Pq)(n:Nat)(t:pA):TG:=fun v σ H Q=>∃ a xs,v=.ref a/\(aW K H a xs\/bz K H a xs)/\xs.length=n/\t xs σ H Q
theorem kY{prog:Program}{w:World}{A:Around}{E:Value->Shared->Prop}{t:Addr}(hne:t≠it):∀(n i:Nat) (s:Shared) (Q:List Value->Shared->Prop),s.heap.IsListIter it t i->s.heap.IsList t items->i+n<=items.size ->
  (∀ h',h'.IsListIter it t (i+n)->Heap.SameBut it s.heap h'->Q ((items.toList.drop i).take n) {s with heap:=h'})->wpAny (model prog w) A (draw (.ref it) n) Q E s
 |0,i,s,Q,hit,_,_,hQ=>by
  show wpAny _ _ (pure []) Q E s;exact K1 (by simpa using hQ s.heap hit (Heap.SameBut.refl ..))
 |n+1,i,s,Q,hit,ht,hle,hQ=>by
  have hlt:i<items.size:=by lia
  show wpAny _ _ (pyNext (.ref it) >>= _) Q E s;refine Ku (Nq hit ht (x:=items[i]) (by simp[hlt]) fun h₁ hit₁ hs₁=>?_)
  refine Ku (Lg (kY hne n (i+1) _ _ hit₁ (ht.extBut hs₁.extBut hne) (by lia) fun h₂ hit₂ hs₂=>K1 ?_))
  have hd:items.toList.drop i=items[i]::items.toList.drop (i+1):=by simp[L0,hlt]
  have:=hQ h₂ (by rw[show i+(n+1)=i+1+n by lia];exact hit₂) (hs₁.trans hs₂)
  rw[hd,ME] at this;exact this
theorem ia{w:World}{A:Around}{t:Addr}{Q:List Value->Shared->Prop}(hh:A.handled=none)(ht:s.heap.IsList t items)
  (hQ:∀ h',Heap.ExtBut s.heap.objs.size s.heap h'->Q items.toList {s with heap:=h'}):wpAny (model prog w) A (unpackItems (.ref t) items.size none) Q E s:=by
 have hlt:t≠s.heap.objs.size:=by obtain⟨o,ho,_⟩:=ht;exact KJ (KA ho)
 unfold unpackItems;refine Ku ?_
 ·unfold notIterableAtAll;refine Ku (wpAny_specialOf ht.typeIs F.slot_list_iter.lookup ?_);refine K1 ?_;simp only[Lw,LY];refine Ku (Lg (LC ht ?_));refine Ku (Lg (kY hlt items.size 0 _ _ ⟨_,K7 _ rfl,rfl,rfl⟩ (ht.push _) (by lia) fun h₁ hit₁ hs₁=>?_))
  have hall:List.take items.size (List.drop 0 items.toList)=items.toList:=by
   rw[MU];exact LU (by simp)
  rw[hall];rw[Kx (by simp)]
  have ht₁:h₁.IsList t items:=(ht.push _).extBut hs₁.extBut hlt;refine Ku (Lg (N2 hh hit₁ ht₁ (by simp) fun h₂ he₂=>?_))
  simp only[Option.isSome_none,Lw,LY];refine K1 (hQ h₂ fun b o hb e=>he₂ b o hb (hs₁.extBut b o hb (Kv _ e)))
theorem AW{t:pA}(hc:X.calm=true)(h:Fb X es t)
  (hn:autoParam ((assignEach es X.env).length=n) ℜ0) (hst:autoParam ((assignEach es X.env).findIdx? (·.1)=none) ℜ0):PG X (.Tuple es k pos) (G1 X.K n t):=by
 intro pins s σ H v u Q I r hw;obtain⟨a,xs,e1,hq,hl,hw⟩:=hw;rcases hq with hq|hq
 ·exact w_ hc h hn hst pins s σ H v u Q I r ⟨a,xs,e1,hq,hl,hw⟩
 ·subst e1;cases r;obtain⟨its,rv,ht,hz⟩:=I.list hq;rw[assign_Tuple];refine Ku (Nt ?_);unfold unpack;have hsz:(assignEach es X.env).length=its.toArray.size:=by rw[hn,<- hl,rv.length];simp
  rw[hsz,hst];refine Ku (Lg (ia (I.ok.hd hc) ht.isList fun h' hx=>?_));have I1:Inv X pins σ H {s with heap:=h'}:=I.kept (t':=s.toks) fun b o e=>hx b o (KJ (KA e)) e
  exact h pins _ σ H xs _ Q I1 (by simpa using rv) hw
theorem qd(K:Pq)(hK:X.K=K){gs:sL}(hc:X.calm=true)(h:FH X es gs)(hn:autoParam ((assignEach es X.env).length=n) ℜ0)(hst:autoParam ((assignEach es X.env).findIdx? (·.1)=none) ℜ0):YG X (.Tuple es k pos) (gT n gs):=by
 obtain⟨t,q,r⟩:=h;subst hK;refine⟨_,⟨AW hc q.h hn hst⟩,fun F ad B σ H μ v rr B0 H0 Q Qt hF h f q k=>?_⟩;have l:=h.rl;have f':Fr B0 H0 B H:=fun b o h n=>⟨(f b o h n).1,fun z=>(f b o h n).2 (by cases rr<;>first|exact z | (cases v<;>first|exact z|exact .inr z))⟩
 unfold gT at q
 split at q
 ·rename_i ts e;have w:=h.hv.vw l e;rw[hF] at w;obtain⟨_,_,rfl,ha,ra⟩:=Vw.tupI w;exact⟨_,_,rfl,.inl (aW.of ha),by rw[ra.length];exact q.1,r F ad B σ H μ _ ts B0 H0 Q Qt hF l (by rw[hF];exact ra) f' q.2 k⟩
 ·rename_i ts e;have w:=h.hv.vw l e;rw[hF] at w;obtain⟨_,_,rfl,ha,ra⟩:=Vw.dX w;exact⟨_,_,rfl,.inr (bz.of ha),by rw[ra.length];exact q.1,r F ad B σ H μ _ ts B0 H0 Q Qt hF l (by rw[hF];exact ra) f' q.2 k⟩
 ·exact q.elim
theorem bG:YB X [] (fun E μ=>E.nx μ):=⟨_,Z.bG,fun F D E ad B σ H μ hK l q h=>h.nx ad B σ H μ l Fr.refl q⟩
theorem az(h:YS X st u):YB X [st] u:=by obtain⟨t,q,r⟩:=h;exact⟨t,Z.az q,r⟩
noncomputable def Ge(u w:US):US:=fun E μ=>u {E with nx:=w E} μ
theorem af(h:YS X st u)(h2:YB X sts w):YB X (st::sts) (Ge u w):=by
 obtain⟨t,q,r⟩:=h;obtain⟨t',q',r'⟩:=h2;exact⟨_,Z.af q q',fun F D E ad B σ H μ hK l q h=>r F {D with nx:=t' D} {E with nx:=w E} ad B σ H μ hK l q
  ⟨fun ad1 B1 σ1 H1 μ1 l1 f1 q1=>r' F D E ad1 B1 σ1 H1 μ1 hK l1 q1 (h.step f1),h.rt,h.bk,h.ct⟩⟩
noncomputable def jO(ue:UE)(g:UG):US:=fun E μ=>ue μ fun r μ'=>g r μ' E.nx
theorem j9{tg:TG}{g:UG}(he:RE K te ue)(hg:RG K tg g):RS K (kh te tg) (jO ue g):=fun F D E ad B σ H μ hK l q h =>
 he F ad B σ H μ _ _ hK l q fun v H' r μ' v1 f k1 q1=>hg F ad B σ H' μ' v r B H _ _ hK v1 f q1 fun ad' B' σ' H2 μ2 l2 f2 q2=>h.nx ad' B' σ' H2 μ2 l2 f2 q2
theorem set(hN:X.N.Nodup)(hi:X.N[i]?=some x)(hx:Loc X.env.scope x)(he:YE X e ue)(hs:autoParam (Z.Fq e=true) ℜ0)(hf:autoParam (X.fn x=true\/X.env.scope.names.lookup x=some .local) ℜ2):
  YS X (.Assign [.Name x pos'] e pos) (jO ue (gN i)):=by
 obtain⟨t,q,r⟩:=he;exact⟨_,Z.set hN hi hx q hs hf,j9 r lW⟩
theorem asg{g:UG}(he:YE X e ue)(hg:YG X tg g)(hs:autoParam (swapsWithSole [tg] e pos.line X.env=pure false) ℜ0)(hw:autoParam (swappedStores [tg] e X.env=pure none) ℜ0)
  (h1:autoParam ((assignEach [tg] X.env).map (·.2)=[assign tg X.env]) ℜ0):YS X (.Assign [tg] e pos) (jO ue g):=by
 obtain⟨t,q,r⟩:=he;obtain⟨t',q',r'⟩:=hg;exact⟨_,Z.asg q q' hs hw h1,j9 r r'⟩
noncomputable def BK(ue:UE):US:=fun E μ=>ue μ E.rt
theorem ret(he:YE X e ue):YS X (.Return (some e) pos) (BK ue):=by
 obtain⟨t,q,r⟩:=he;exact⟨_,Z.ret q,fun F D E ad B σ H μ hK l q h=>r F ad B σ H μ _ _ hK l q fun v H' r1 μ' v1 f k1 q1=>h.rt ad B σ H' μ' v r1 v1 q1⟩
noncomputable def rk(ue:UE):US:=fun E μ=>ue μ fun _ μ'=>E.nx μ'
theorem expr(he:YE X e ue)(hs:autoParam (Z.Fq e=true) ℜ0):YS X (.Expr e pos) (rk ue):=by
 obtain⟨t,q,r⟩:=he;exact⟨_,Z.expr q hs,fun F D E ad B σ H μ hK l q h=>r F ad B σ H μ _ _ hK l q fun v H' r1 μ' v1 f k1 q1=>h.nx ad B σ H' μ' v1.rl f.d q1⟩
noncomputable def yN(c:UT)(u w:US):US:=fun E μ=>c μ fun b μ'=>if b=true then u E μ' else w E μ'
theorem e9(hc:YT X c uA)(ha:YB X xs u)(hb:YB X ys w):YS X (.If c xs ys pos) (yN uA u w):=by
 obtain⟨tc,qc,rc⟩:=hc;obtain⟨t,q,r⟩:=ha;obtain⟨t',q',r'⟩:=hb;refine⟨_,Z.e9 qc q q',fun F D E ad B σ H μ hK l q h=>rc F ad B σ H μ _ _ hK l q fun b H' μ' l1 f k1 q1=>?_⟩
 cases b with
 |true=>rw[Kz rfl] at q1 ⊢;exact r F D E ad B σ H' μ' hK l1 q1 (h.step f)
 |false=>rw[Kx K5] at q1 ⊢;exact r' F D E ad B σ H' μ' hK l1 q1 (h.step f)
end
end Y
structure jZ (K:Pq) (J:It) (Src:Hp->aL->Prop) (items:List T):Prop where
 step:∀ H B i t,(∀ b,B b->∃ o,H b=some o)->Src H B->items[i]?=some t->J.go i H/\∀ x H2,J.BZ i H x H2->bQ H H2/\Rep K H2 B x t
 stop:∀ H B,Src H B->J.stop items.length H
theorem jZ.imp{J:It}{Src Src':Hp->aL->Prop}{items:List T}(h:jZ K J Src items)(f:∀ H B,Src' H B->Src H B):jZ K J Src' items:=⟨fun H B i t hb s e=>h.step H B i t hb (f H B s) e,fun H B s=>h.stop H B (f H B s)⟩
noncomputable def G4(F:Fx)(ad:Nat->Addr)(Src:Hp->aL->Prop):Option (Nat×List T)->Prop
 |none=>∀ B1 H1 B2 H2,Fr B1 H1 B2 H2->Src H1 B1->Src H2 B2
 |some (j,ls)=>(∀ B' σ' H' μ',Rl F ad B' σ' H' μ'->cont μ' (.br j)=some (.lst ls)->Src H' B')/\∀ B' H',Rep F.K H' B' (.ref (ad j)) (.lst ls)->Src H' B'
abbrev UI:=Mu->(List T->Option (Nat×List T)->Mu->Prop)->Prop
noncomputable def RI(K:Pq)(wi:TI)(ui:UI):Prop:=∀(F:Fx) (ad:Nat->Addr) (B:aL) (σ:St) (H:Hp) (μ:Mu) (R:It->Hp->Prop) (Rt:List T->Option (Nat×List T)->Mu->Prop),F.K=K->Rl F ad B σ H μ->ui μ Rt ->
 (∀ J H' μ' items gd Src,Rl F ad B σ H' μ'->Fr B H B H'->Kp μ μ'->jZ K J Src items->Src H' B->G4 F ad Src gd->(∀ j ls,gd=some (j,ls)->cont μ' (.br j)=some (.lst ls))->Rt items gd μ'->R J H')->wi σ H R
structure YI (X:Cx) (tg it:Expr) (u:UI):Prop where
 ex:∃ t,QI X tg it t/\RI X.K t u
theorem yd:jZ K (qZ K a) (fun H B=>∃ vs,bz K H a vs/\ai K H B vs ts) ts:=
 ⟨fun H B i t hb ⟨vs,h,r⟩ e=>by
  obtain⟨v,e1,rv⟩:=r.get e;refine⟨⟨vs,v,h,e1⟩,fun x H2 y=>?_⟩;obtain⟨rfl,y⟩:=y;have:=y vs h;rw[e1] at this;cases this;exact⟨bQ.refl _,rv⟩,fun H B ⟨vs,h,r⟩=>⟨vs,h,by rw[r.length];exact K2 _⟩⟩
theorem DZ:jZ K (vq K a) (fun H B=>∃ vs,aW K H a vs/\ai K H B vs ts) ts:=
 ⟨fun H B i t hb ⟨vs,h,r⟩ e=>by
  obtain⟨v,e1,rv⟩:=r.get e;refine⟨⟨vs,v,h,e1⟩,fun x H2 y=>?_⟩;obtain⟨rfl,y⟩:=y;have:=y vs h;rw[e1] at this;cases this;exact⟨bQ.refl _,rv⟩,fun H B ⟨vs,h,r⟩=>⟨vs,h,by rw[r.length];exact K2 _⟩⟩
noncomputable def pairs(ts:List T):List T:=(List.range ts.length).map fun i=>.tup [.int (i:Nat),(ts[i]?).getD .aM]
theorem E8:jZ K (Bm K a) (fun H B=>∃ vs,aW K H a vs/\ai K H B vs ts) (pairs ts):=by
 refine⟨fun H B i t hb ⟨vs,h,r⟩ e=>?_,fun H B ⟨vs,h,r⟩=>⟨vs,h,by rw[r.length];simp[pairs]⟩⟩
 unfold pairs at e;rw[KL] at e;have hi:i<ts.length:=by
  rcases LJ i ts.length with z|z
  ·exact z
  ·rw[K_.mpr (by simpa using z)] at e;cases e
 rw[M_ hi] at e;have e':T.tup [.int (i:Nat),(ts[i]?).getD .aM]=t:=Option.some.inj e;have et:ts[i]?=some ts[i]:=Kw hi;obtain⟨v,e1,rv⟩:=r.get et;refine⟨⟨v,vs,h,e1⟩,fun x H2 y=>?_⟩;obtain⟨p,y,hy,hp,rfl,rfl⟩:=y;have:=hy vs h;rw[e1] at this;cases this;subst e';rw[et];refine⟨bQ.new hp,.tup (fun z=>?_) ae (.cons (.int _) (.cons (rv.fr (Fr.same (bQ.new hp))) .nil))⟩;obtain⟨o,q⟩:=hb p z;rw[hp] at q;cases q
theorem y_{lo:Int}:jZ K (Fo lo n) (fun _ _=>True) ((List.range n).map fun k=>T.int (lo+(k:Nat))):=
 ⟨fun H B i t hb _ e=>by
  rw[KL] at e;have hi:i<n:=by
   rcases LJ i n with z|z
   ·exact z
   ·rw[K_.mpr (by simpa using z)] at e;cases e
  rw[M_ hi] at e;refine⟨hi,fun x H2 y=>?_⟩;obtain⟨rfl,rfl⟩:=y;cases e;exact⟨bQ.refl _,.int _⟩,fun H B _=>by simp[Fo]⟩
noncomputable def wJ(K:Pq)(tl:TE):TI:=fun σ H R=>tl σ H fun x H1=>∃ a,x=V.ref a/\(((∃ xs,bz K H1 a xs)/\R (qZ K a) H1)\/((∃ xs,aW K H1 a xs)/\R (vq K a) H1))
theorem yt{l:Expr}(hl:PE X l tl):PI X tg l (wJ X.K tl):=by
 intro pins s σ H R I h;refine bo (hl pins s σ H _ I h) fun v s1 ⟨x,H1,I1,r1,q1⟩=>?_;obtain⟨a,rfl,q⟩:=q1;cases r1;rcases q with ⟨⟨xs,hq⟩,q⟩|⟨⟨xs,hq⟩,q⟩
 ·obtain⟨its,rv,p,hz⟩:=I1.list hq;refine LC p.isList ?_;refine⟨s1.heap.objs.size,[s1.heap.objs.size],_,_,H1,rfl,I1.kept (t':=s1.toks) fun b o e=>Kv _ e,lA a _,⟨_,K7 _ rfl,rfl,rfl⟩,fun b hb=>?_,q⟩;have e:b=s1.heap.objs.size:=by simpa using hb
  subst e;exact I1.pj (K2 _) (I1.aD.fresh (K2 _))
 ·obtain⟨its,rv,p,hz⟩:=I1.tuple hq;refine Lx (show s1.heap.IsTuple a its.toArray from p) ?_;refine⟨s1.heap.objs.size,[s1.heap.objs.size],_,_,H1,rfl,I1.kept (t':=s1.toks) fun b o e=>Kv _ e,jo a _,⟨_,K7 _ rfl,rfl,rfl⟩,fun b hb=>?_,q⟩;have e:b=s1.heap.objs.size:=by simpa using hb
  subst e;exact I1.pj (K2 _) (I1.aD.fresh (K2 _))
namespace Y
section
variable {X:Cx} {a b c e o tg it:Expr} {es rest:List Expr} {ua ub uc ue uo:UE} {uA uB:UT} {us:UA} {pos pos' p p2 p3:Pos} {x:Str} {st:Stmt} {sts xs ys:List Stmt} {u w:US}
noncomputable def Cz(ue:UE):UI:=fun μ Rt=>ue μ fun r μ'=>match r with
 |.br j=>(match cont μ' (.br j) with|some (.lst ts)=>Rt ts (some (j,ts)) μ'|_=>False)
 |.tr (.lst ts)=>Rt ts none μ'
 |.fr (.lst ts)=>Rt ts none μ'
 |.tr (.tup ts)=>Rt ts none μ'
 |.tr (.dW ts)=>Rt ts none μ'
 |.tr (.dN ts)=>Rt ts none μ'
 |_=>False
theorem any(K:Pq)(hK:X.K=K)(he:YE X e ue):YI X tg e (Cz ue):=by
 obtain⟨t,q,r⟩:=he;subst hK;refine⟨_,⟨yt q.h⟩,fun F ad B σ H μ R Rt hF l q k=>r F ad B σ H μ _ _ hF l q fun v H' r1 μ' v1 f k1 q1=>?_⟩;have hv:=v1.hv;have l1:=v1.rl;have go:∀(ts:List T) (a:Addr) (t:T),v=.ref a->Rep F.K H' B (.ref a) t->(t=.lst ts\/t=.dW ts)->Rt ts none μ'->∃ a,v=V.ref a/\(((∃ xs,bz X.K H' a xs)/\R (qZ X.K a) H')\/((∃ xs,aW X.K H' a xs)/\R (vq X.K a) H')):=fun ts a t ev rp et q=>by
  have sr:∀ H B,Rep F.K H B (.ref a) t->∃ vs,bz X.K H a vs/\ai X.K H B vs ts:=fun H B h=>by
   rw[hF] at h;rcases et with rfl|rfl
   ·obtain⟨_,n,h,r⟩:=Rep.Gs h;exact⟨_,bz.of h,r⟩
   ·obtain⟨_,h,r⟩:=Rep.J9 h;exact⟨_,h.sq,r⟩
  obtain⟨vs,h1,_⟩:=sr _ _ rp;exact⟨a,ev,.inl ⟨⟨vs,h1⟩,k _ H' μ' ts none (fun H B=>Rep F.K H B (.ref a) t) l1 f.d k1 (yd.imp sr) rp (fun B1 H1 B2 H2 f h=>h.fr f) (fun j ls z=>by cases z) q⟩⟩
 have goT:∀(ts:List T) (a:Addr) (t:T),v=.ref a->Rep F.K H' B (.ref a) t->(t=.tup ts\/t=.dN ts)->Rt ts none μ'->∃ a,v=V.ref a/\(((∃ xs,bz X.K H' a xs)/\R (qZ X.K a) H')\/((∃ xs,aW X.K H' a xs)/\R (vq X.K a) H')):=fun ts a t ev rp et q=>by
  have sr:∀ H B,Rep F.K H B (.ref a) t->∃ vs,aW X.K H a vs/\ai X.K H B vs ts:=fun H B h=>by
   rw[hF] at h;rcases et with rfl|rfl
   ·obtain⟨_,n,h,r⟩:=Rep.nX h;exact⟨_,aW.of h,r⟩
   ·obtain⟨_,h,r⟩:=Rep.J6 h;exact⟨_,.inr h,r⟩
  obtain⟨vs,h1,_⟩:=sr _ _ rp;exact⟨a,ev,.inr ⟨⟨vs,h1⟩,k _ H' μ' ts none (fun H B=>Rep F.K H B (.ref a) t) l1 f.d k1 (DZ.imp sr) rp (fun B1 H1 B2 H2 f h=>h.fr f) (fun j ls z=>by cases z) q⟩⟩
 split at q1
 ·rename_i j
  split at q1
  ·rename_i ts e;obtain⟨ev,s,c,e1,e2⟩:=hv;have src:∀ B' σ' H' μ',Rl F ad B' σ' H' μ'->cont μ' (.br j)=some (.lst ts)->∃ vs,bz X.K H' (ad j) vs/\ai X.K H' B' vs ts:=fun B' σ' H' μ' l e=>by
    have e3:(μ'[j]?).bind Sl.box=some (.lst ts):=e
    cases q:μ'[j]? with
    |none=>rw[q] at e3;cases e3
    |some s' =>
     rw[q] at e3;have bx:=((l.slot j s' q).boxed (c:=.lst ts) e3).2.2.1;rw[hF] at bx;obtain⟨vs,h1,h2⟩:=bx;exact⟨vs,bz.of h1,h2⟩
   obtain⟨vs,h1,h2⟩:=src _ _ _ _ l1 e;refine⟨ad j,ev,.inl ⟨⟨vs,h1⟩,k _ H' μ' ts (some (j,ts)) _ l1 f.d k1 yd ⟨vs,h1,h2⟩ ⟨src,fun B' H' h=>?_⟩ (fun j' ls z=>by cases z;exact e) q1⟩⟩
   rw[hF] at h;obtain⟨_,n,h,r⟩:=Rep.Gs h;exact⟨_,bz.of h,r⟩
  ·exact q1.elim
 ·have rp:Rep F.K H' B v _:=hv;obtain⟨_,_,rfl,n,h,r⟩:=Rep.dX rp;exact go _ _ _ rfl (.lst n h r) (.inl rfl) q1
 ·have rp:Rep F.K H' B v _:=hv;obtain⟨_,_,rfl,n,h,r⟩:=Rep.dX rp;exact go _ _ _ rfl (.lst n h r) (.inl rfl) q1
 ·have rp:Rep F.K H' B v _:=hv;obtain⟨_,_,rfl,n,h,r⟩:=Rep.tupI rp;exact goT _ _ _ rfl (.tup n h r) (.inl rfl) q1
 ·have rp:Rep F.K H' B v _:=hv;obtain⟨_,_,rfl,h,r⟩:=Rep.uz rp;exact go _ _ _ rfl (.dW h r) (.inr rfl) q1
 ·have rp:Rep F.K H' B v _:=hv;obtain⟨_,_,rfl,h,r⟩:=Rep.qC rp;exact goT _ _ _ rfl (.dN h r) (.inr rfl) q1
 ·exact q1.elim
noncomputable def Im(us:UA):UI:=fun μ Rt=>us μ fun rs μ'=>match rs with
 |[.tr (.int j)]=>-(2^62)<=j/\j<2^62/\Rt ((List.range j.toNat).map fun k=>T.int (0+(k:Nat))) none μ'
 |_=>False
noncomputable def HU(us:UA):UI:=fun μ Rt=>us μ fun rs μ'=>match rs with
 |[.tr (.int i),.tr (.int j)]=>(-(2^62)<=i/\i<2^62/\-(2^62)<=j/\j<2^62)/\Rt ((List.range (j-i).toNat).map fun k=>T.int (i+(k:Nat))) none μ'
 |_=>False
theorem pS(hg:Gl X "range")(hm:X.mg "range"=none)(ha:YA X [a] us)(h:autoParam (cK a=true) ℜ0):YI X tg (.Call (.Name "range" p) [a] [] pos) (Im us):=by
 obtain⟨t,q,r⟩:=ha;refine⟨_,Z.pS hg hm q h,fun F ad B σ H μ R Rt hF l q k=>r F ad B σ H μ _ _ hF l q fun vs H' rs μ' l1 ps f k1 q1=>?_⟩
 split at q1
 ·obtain⟨_,_,rfl,h1,ps⟩:=Paired.bW ps
  cases ps;cases bL h1;exact⟨_,rfl,q1.1,q1.2.1,k _ H' μ' _ none _ l1 f k1 y_ trivial (fun _ _ _ _ _ _=>trivial) (fun j ls z=>by cases z) q1.2.2⟩
 ·exact q1.elim
theorem Ez(hg:Gl X "range")(hm:X.mg "range"=none)(ha:YA X [a,b] us)(h:autoParam (cK a=true) ℜ0)(h2:autoParam (cK b=true) ℜ0):YI X tg (.Call (.Name "range" p) [a,b] [] pos) (HU us):=by
 obtain⟨t,q,r⟩:=ha;refine⟨_,Z.Ez hg hm q h h2,fun F ad B σ H μ R Rt hF l q k=>r F ad B σ H μ _ _ hF l q fun vs H' rs μ' l1 ps f k1 q1=>?_⟩
 split at q1
 ·obtain⟨_,_,rfl,h1,ps⟩:=Paired.bW ps;obtain⟨_,_,rfl,h2,ps⟩:=Paired.bW ps
  cases ps;cases bL h1;cases bL h2;exact⟨_,_,rfl,q1.1,k _ H' μ' _ none _ l1 f k1 y_ trivial (fun _ _ _ _ _ _=>trivial) (fun j ls z=>by cases z) q1.2⟩
 ·exact q1.elim
noncomputable def HZ(us:UA):UI:=fun μ Rt=>us μ fun rs μ'=>match rs with
 |[.tr (.tup ts)]=>Rt (pairs ts) none μ'
 |_=>False
theorem enum(K:Pq)(hK:X.K=K)(hg:Gl X "enumerate")(hm:X.mg "enumerate"=none)(ha:YA X [e] us)(h1:autoParam (cK e=true) ℜ0):YI X (.Tuple es k tp) (.Call (.Name "enumerate" p) [e] [] pos) (HZ us):=by
 obtain⟨t,q,r⟩:=ha;refine⟨_,Z.enum K hK hg hm q h1,fun F ad B σ H μ R Rt hF l q k=>r F ad B σ H μ _ _ hF l q fun vs H' rs μ' l1 ps f k1 q1=>?_⟩;have hF':F.K=K:=hF.trans hK
 split at q1
 ·rename_i ts;obtain⟨_,_,rfl,h1,ps⟩:=Paired.bW ps;obtain rfl:=Paired.jv ps;have rp:=bL h1
  cases rp with
  |@tup a vs _ n h rr =>
   have sr:∀ H B,Rep F.K H B (.ref a) (.tup ts)->∃ vs,aW X.K H a vs/\ai X.K H B vs ts:=fun H B h=>by
    rw[hF] at h;obtain⟨_,n,h,r⟩:=Rep.nX h;exact⟨_,aW.of h,r⟩
   refine⟨a,rfl,⟨vs,aW.of h⟩,?_⟩;have:=k (Bm X.K a) H' μ' (pairs ts) none (fun H B=>Rep F.K H B (.ref a) (.tup ts)) l1 f k1 (E8.imp sr) (.tup n h rr) (fun B1 H1 B2 H2 f h=>h.fr f) (fun j ls z=>by cases z) q1
   rw[hK] at this;exact this
 ·exact q1.elim
noncomputable def fv(g:UG)(body:US)(E:Ed):List T->Mu->Prop
 |[],μ=>E.nx μ
 |t::ts,μ=>g (.tr t) μ fun μ1=>body {E with nx:=fv g body E ts,ct:=fv g body E ts,bk:=E.nx} μ1
noncomputable def wo(ui:UI)(g:UG)(body:US):US:=fun E μ=>ui μ fun items gd μ'=>match gd with
 |none=>fv g body E items μ'
 |some (j,_)=>(match μ'[j]? with
  |some (.bx c)=>fv g body E items (μ'.set j (.tr c))
  |_=>False)
theorem oK{g:TG}{ug:UG}{tb:TS}{body:US}{E:Ed}{J:It}{Src:Hp->aL->Prop}{items:List T}{B0:aL}{H0:Hp}(hF:F.K=K)(hg:RG K g ug)(hb:RS K tb body)(it:jZ K J Src items)
  (pe:∀ B1 H1 B2 H2,Fr B1 H1 B2 H2->Src H1 B1->Src H2 B2) (hE:yD F B0 H0 D E)      (l:Rl F ad B σ H μ) (f:Fr B0 H0 B H) (sr:Src H B) (q:fv ug body E items μ) :
  ∃ W:Nat->Nat->St->Hp->Prop,(∃ m,W 0 m σ H)/\∀ i m σ H,W i m σ H ->
   (J.stop i H/\D.nx σ H)\/(J.go i H/\∃ N:St->Hp->Prop,(∀ σ' H',N σ' H'->∃ m',m'<m/\W (i+1) m' σ' H')/\∀ x H',J.BZ i H x H'->g x σ H' fun σ2 H2=>tb {D with nx:=N,ct:=N,bk:=D.nx} σ2 H2):=by
 refine⟨fun i m σ H=>m=items.length-i/\i<=items.length/\∃ ad B μ,Rl F ad B σ H μ/\Fr B0 H0 B H/\Src H B/\fv ug body E (items.drop i) μ,⟨items.length,by simp,KY _,ad,B,μ,l,f,sr,q⟩,?_⟩
 rintro i m σ H ⟨rfl,hi,ad,B,μ,l,f,sr,q⟩;by_cases hlt:i<items.length
 ·have ei:items[i]?=some items[i]:=Kw hlt;rw[L0 hlt] at q;obtain⟨go,yl⟩:=it.step H B i _ l.gj sr ei;refine .inr ⟨go,fun σ' H'=>∃ ad' B' μ',Rl F ad' B' σ' H' μ'/\Fr B0 H0 B' H'/\Src H' B'/\fv ug body E (items.drop (i+1)) μ',fun σ' H' h=>⟨items.length-(i+1),by lia,rfl,hlt,h⟩,fun x H2 y=>?_⟩
  obtain⟨sm,rp⟩:=yl x H2 y;refine hg F ad B σ H2 μ x (.tr _) B H2 _ _ hF ⟨l.same sm,by show Rep F.K H2 B x _;rw[hF];exact rp⟩ Fr.refl q fun ad3 B3 σ3 H3 μ3 l3 f3 q3=>?_
  have f03:Fr B0 H0 B3 H3:=(f.trans (Fr.same sm)).trans f3;have s3:Src H3 B3:=pe _ _ _ _ ((Fr.same sm).trans f3) sr;exact hb F _ _ ad3 B3 σ3 H3 μ3 hF l3 q3 ⟨fun ad' B' σ' H' μ' l' f' q'=>⟨ad',B',μ',l',f03.trans f',pe _ _ _ _ f' s3,q'⟩,hE.rt,fun ad' B' σ' H' μ' l' f' q'=>hE.nx ad' B' σ' H' μ' l' (f03.trans f') q',fun ad' B' σ' H' μ' l' f' q'=>⟨ad',B',μ',l',f03.trans f',pe _ _ _ _ f' s3,q'⟩⟩
 ·have e:i=items.length:=by lia
  subst e;rw[Nx] at q;exact .inl ⟨it.stop H B sr,hE.nx ad B σ H μ l f q⟩
theorem h_{ui:UI}{g:UG}(hp:PassesOwn (model X.prog X.w) X.A X.env X.xe)(hc:X.calm=true)(hi:YI X tg it ui)(hg:YG X tg g)(hb:YB X xs u)(hs:autoParam (∀ x,foldedSetIterable it X.env x=pure x) ℜ3):YS X (.For tg it xs [] pos) (wo ui g u):=by
 obtain⟨ti,qi,ri⟩:=hi;obtain⟨tg',qg,rg⟩:=hg;obtain⟨t,q,r⟩:=hb;refine⟨_,Z.h_ hp hc qi qg q hs,fun F D E ad B σ H μ hF l q h=>ri F ad B σ H μ _ _ hF l q fun J H' μ' items gd Src l1 f1 k1 it sr so gok q1=>?_⟩
 split at q1
 ·exact oK hF rg r it so h l1 f1 sr q1
 ·rename_i j ls
  split at q1
  ·rename_i c ej;have bx:=l1.slot j _ ej;have hc:¬ F.Bc (ad j):=fun z=>by
    obtain⟨o,e⟩:=F.bh _ z;rw[bx.2.2.1] at e;cases e
   obtain⟨l2,rp⟩:=l1.freeze ej hc;have ec:c=.lst ls:=by
    have:=gok j ls rfl;have e2:(μ'[j]?).bind Sl.box=some (.lst ls):=this;rw[ej] at e2;exact Option.some.inj e2
   subst ec;exact oK (Src:=fun H B=>Rep F.K H B (.ref (ad j)) (.lst ls)) hF rg r (it.imp fun H B h=>so.2 B H h) (fun B1 H1 B2 H2 f h=>h.fr f) h l2 (f1.trans (Fr.less fun b z=>z.1)) rp q1
  ·exact q1.elim
noncomputable def EY(c:UT)(body:US):US:=fun E μ=>∃ I:Nat->Mu->Prop,(∃ m,I m μ)/\∀ m μ,I m μ->c μ fun b μ'=>if b=true then body {E with nx:=fun μ2=>∃ m',m'<m/\I m' μ2,ct:=fun μ2=>∃ m',m'<m/\I m' μ2,bk:=E.nx} μ' else E.nx μ'
theorem ic(hp:PassesOwn (model X.prog X.w) X.A X.env X.xe)(hc:YT X c uA)(hb:YB X xs u):YS X (.While c xs [] pos) (EY uA u):=by
 obtain⟨tc,qc,rc⟩:=hc;obtain⟨t,q,r⟩:=hb;refine⟨_,Z.ic hp qc q,fun F D E ad B σ H μ hF l q h=>?_⟩;obtain⟨I,⟨m0,i0⟩,turn⟩:=q;refine⟨fun m σ' H'=>∃ ad' B' μ',Rl F ad' B' σ' H' μ'/\Fr B H B' H'/\I m μ',⟨m0,ad,B,μ,l,Fr.refl,i0⟩,?_⟩;rintro m σ1 H1 ⟨ad1,B1,μ1,l1,f1,i1⟩;refine rc F ad1 B1 σ1 H1 μ1 _ _ hF l1 (turn m μ1 i1) fun b H2 μ2 l2 f2 k2 q2=>?_
 cases b with
 |true =>
  rw[Kz rfl] at q2 ⊢;refine⟨fun σ' H'=>∃ m',m'<m/\∃ ad' B' μ',Rl F ad' B' σ' H' μ'/\Fr B H B' H'/\I m' μ',fun σ' H' h=>h,?_⟩;have hn:∀ ad' B' σ' H' μ',Rl F ad' B' σ' H' μ'->Fr B1 H2 B' H'->(∃ m',m'<m/\I m' μ')->∃ m',m'<m/\∃ ad' B' μ',Rl F ad' B' σ' H' μ'/\Fr B H B' H'/\I m' μ':=fun ad' B' σ' H' μ' l' f' ⟨m',hm,i'⟩=>⟨m',hm,ad',B',μ',l',(f1.trans f2).trans f',i'⟩;exact r F _ _ ad1 B1 σ1 H2 μ2 hF l2 q2 ⟨hn,h.rt,fun ad' B' σ' H' μ' l' f' q'=>h.nx ad' B' σ' H' μ' l' ((f1.trans f2).trans f') q',hn⟩
 |false =>
  rw[Kx K5] at q2 ⊢;exact h.nx ad1 B1 σ1 H2 μ2 l2 (f1.trans f2) q2
end
end Y
noncomputable def uL(K:Pq)(u:UE):TE:=fun σ H Q=>∃(F:Fx) (ad:Nat->Addr) (B:aL) (μ:Mu) (Qt:R->Mu->Prop),F.K=K/\Rl F ad B σ H μ/\u μ Qt/\∀ v H' r μ',Vr F ad B σ H' μ' v r->Fr B H (Bv B v r) H'->Kp μ μ'->Qt r μ'->Q v H'
noncomputable def uY(K:Pq)(u:UT):TT:=fun σ H Q=>∃(F:Fx) (ad:Nat->Addr) (B:aL) (μ:Mu) (Qt:Bool->Mu->Prop),F.K=K/\Rl F ad B σ H μ/\u μ Qt/\∀ b H' μ',Rl F ad B σ H' μ'->Fr B H B H'->Kp μ μ'->Qt b μ'->Q b H'
theorem YE.B8{u:UE}(h:YE X e u):QE X e (uL X.K u):=⟨fun pins s σ H Q I hh=>by
 obtain⟨F,ad,B,μ,Qt,hF,l,q,k⟩:=hh;obtain⟨t,qe,r⟩:=h;exact qe.h pins s σ H Q I (r F ad B σ H μ Q Qt hF l q k)⟩
theorem CF.B8{e:List Expr}{u:UT}(h:CF X e u):Fu X e (uY X.K u):=⟨fun pins s σ H Q I hh=>by
 obtain⟨F,ad,B,μ,Qt,hF,l,q,k⟩:=hh;obtain⟨t,qe,r⟩:=h;exact qe.h pins s σ H Q I (r F ad B σ H μ Q Qt hF l q k)⟩
theorem sX{u:UE}:RE K (uL K u) u:=fun F ad B σ H μ Q Qt hF l q k=>⟨F,ad,B,μ,Qt,hF,l,q,k⟩
theorem qY{u:UT}:RT K (uY K u) u:=fun F ad B σ H μ Q Qt hF l q k=>⟨F,ad,B,μ,Qt,hF,l,q,k⟩
noncomputable def Fx.sh(F:Fx):Fx:={F with P:=fun i=>match i with|0=>none|i+1=>F.P i}
noncomputable def FG(ad:Nat->Addr):Nat->Addr:=fun i=>match i with|0=>0|i+1=>ad i
theorem Rl.push{x:V}{t:T}(l:Rl F ad B σ H μ)(h:Rep F.K H B x t):Rl F.sh (FG ad) B (some x::σ) H (.tr t::μ):=by
 refine⟨Le (·+1) l.len,fun i s e=>?_,fun i j s u c d e1 e2 b1 b2 q=>?_,fun i a p=>?_,l.bc,l.gj,fun b o e n=>l.old b o e fun i z=>n (i+1) z,fun a ws ga=>?_⟩
 ·cases i with
  |zero =>
   have e':Sl.tr t=s:=by simpa using e
   subst e';exact⟨x,rfl,h⟩
  |succ i=>exact l.slot i s (by simpa using e)
 ·cases i with
  |zero =>
   have e':Sl.tr t=s:=by simpa using e1
   subst e';cases b1
  |succ i=>cases j with
   |zero =>
    have e':Sl.tr t=u:=by simpa using e2
    subst e';cases b2
   |succ j=>exact Le (·+1) (l.inj i j s u c d (by simpa using e1) (by simpa using e2) b1 b2 q)
 ·cases i with
  |zero=>cases p
  |succ i=>obtain⟨⟨c,e⟩,z⟩:=l.par i a p;exact⟨⟨c,by simpa using e⟩,z⟩
 ·obtain⟨g1,g2,g3⟩:=l.gh a ws ga;refine⟨g1,g2,fun i s c e b=>?_⟩
  cases i with
  |zero =>
   have e':Sl.tr t=s:=by simpa using e
   subst e';cases b
  |succ i=>exact g3 i s c (by simpa using e) b
theorem Rl.DB{y:Option V}(l:Rl F.sh (FG ad) B (y::σ) H μ):Rl F ad B σ H μ.tail:=by
 have get:∀ i,μ.tail[i]?=μ[i+1]?:=fun i=>by cases μ<;>simp
 refine⟨?_,fun i s e=>?_,fun i j s u c d e1 e2 b1 b2 q=>?_,fun i a p=>?_,l.bc,l.gj,fun b o e n=>l.old b o e fun i z=>?_,fun a ws ga=>let ⟨g1,g2,g3⟩:=l.gh a ws ga;⟨g1,g2,fun i s c e b=>g3 (i+1) s c (by rw[<- get];exact e) b⟩⟩
 ·have:=l.len;rw[List.length_tail,this];rfl
 ·rw[get] at e;exact l.slot (i+1) s e
 ·rw[get] at e1 e2;exact Nat.succ.inj (l.inj (i+1) (j+1) s u c d e1 e2 b1 b2 q)
 ·obtain⟨⟨c,e⟩,z⟩:=l.par (i+1) a p;exact⟨⟨c,by rw[get];exact e⟩,z⟩
 ·cases i with
  |zero=>cases z
  |succ i=>exact n i z
theorem Kp.tail{s:Sl}(k:Kp (s::μ) μ'):Kp μ μ'.tail:=fun i=>by
 have:=k (i+1);rw[O5] at this;rw[this]
 cases μ'<;>simp
noncomputable def Fx.g(F:Fx)(D:Addr)(ys:List V):Fx:={F with G:=fun b=>if b=D then some ys else F.G b}
section
variable {F:Fx} {ad:Nat->Addr} {B:aL} {σ:St} {H:Hp} {μ:Mu} {D:Addr} {ys zs:List V}
theorem Rl.I_(l:Rl F ad B σ H μ)(h:H D=some (.lst ys))(hb:B D)(n:∀(i:Nat) (s:Sl) (c:T),μ[i]?=some s->s.box=some c->ad i≠D):Rl (F.g D ys) ad B σ H μ:=by
 refine⟨l.len,l.slot,l.inj,l.par,l.bc,l.gj,l.old,fun a vs e=>?_⟩;have e':(if a=D then some ys else F.G a)=some vs:=e
 by_cases z:a=D
 ·rw[Kz z] at e';cases e';subst z;exact⟨h,hb,n⟩
 ·rw[Kx z] at e';exact l.gh a vs e'
theorem Rl.IA(l:Rl (F.g D ys) ad B σ H μ):H D=some (.lst ys)/\B D/\∀(i:Nat) (s:Sl) (c:T),μ[i]?=some s->s.box=some c->ad i≠D:=l.gh D ys (show (if D=D then some ys else F.G D)=some ys from Kz rfl)
theorem Rl.BU(l:Rl (F.g D ys) ad B σ H μ)(hg:F.G D=none):Rl F ad B σ H μ:=by
 refine⟨l.len,l.slot,l.inj,l.par,l.bc,l.gj,l.old,fun a vs e=>l.gh a vs ?_⟩;show (if a=D then some ys else F.G a)=some vs
 rw[Kx (by rintro rfl;rw[hg] at e;cases e)]
 exact e
theorem Rl.setG(l:Rl (F.g D ys) ad B σ H μ)(h0:F.H0 D=none):Rl (F.g D zs) ad B σ (upd H D (.lst zs)) μ:=by
 obtain⟨g1,g2,g3⟩:=l.IA;have f:Fr B H B (upd H D (.lst zs)):=Fr.set g2;refine⟨l.len,fun i s e=>?_,l.inj,l.par,l.bc,fun b z=>?_,fun b o e n=>?_,fun a vs e=>?_⟩
 ·have k:=l.slot i s e;unfold iE at k ⊢
  split at k
  ·trivial
  ·obtain⟨v,e1,r1⟩:=k;exact⟨v,e1,r1.fr f⟩
  ·obtain⟨e1,b,z0,p,x⟩:=k;exact⟨e1,b,z0,p,x.of (ab (g3 i _ _ e rfl)) f⟩
  ·obtain⟨e1,b,p,x⟩:=k;exact⟨e1,b,p,x.of (ab (g3 i _ _ e rfl)) f⟩
 ·by_cases z':b=D
  ·subst z';exact⟨_,ae⟩
  ·rw[ab z'];exact l.gj b z
 ·rw[ab (by rintro rfl;have e':F.H0 _=some o:=e;rw[h0] at e';cases e')]
  exact l.old b o e n
 ·have e':(if a=D then some zs else F.G a)=some vs:=e
  by_cases z:a=D
  ·rw[Kz z] at e';cases e';subst z;exact⟨ae,g2,g3⟩
  ·rw[Kx z] at e';obtain⟨a1,a2,a3⟩:=l.gh a vs (show (if a=D then some ys else F.G a)=some vs by rw[Kx z];exact e')
   exact⟨by rw[ab z];exact a1,a2,a3⟩
end
namespace Y
noncomputable def HL:Option (Nat×List T)->Mu->Prop
 |none,_=>True
 |some (j,ls),μ=>cont μ (.br j)=some (.lst ls)
noncomputable def pP(gd:Option (Nat×List T))(own:T->Mu->Option Mu)(dr:Mu->Mu)(ut:UT)(ue:UE)(Q:R->Mu->Prop):List T->List T->Mu->Prop
 |[],acc,μ=>HL gd μ/\Q (.fr (.lst acc)) μ
 |t::r,acc,μ=>HL gd μ/\acc.length<sizeLine/\(match own t μ with
  |none=>False
  |some μ1=>ut μ1 fun b μ2=>if b=true then ue μ2 fun rr μ3=>(match rr.d with
    |.tr t'=>pP gd own dr ut ue Q r (acc++[t']) (dr μ3)
    |_=>False) else pP gd own dr ut ue Q r acc (dr μ2))
noncomputable def An(t:T)(μ:Mu):Option Mu:=some (.tr t::μ)
noncomputable def tI(t:T)(μ:Mu):Option Mu:=match t with
 |.tup [a,b]=>some (.tr a::.tr b::μ)
 |_=>none
noncomputable def Ie(μ:Mu):Mu:=μ.tail
noncomputable def Ii(μ:Mu):Mu:=μ.tail.tail
noncomputable def i4(own:T->Mu->Option Mu)(dr:Mu->Mu)(ui:UI)(ut:UT)(ue:UE):UE:=fun μ Q=>ui μ fun items gd μ'=>pP gd own dr ut ue Q items [] μ'
structure xr (K:Pq) (k:Nat) (g:TG) (own:T->Mu->Option Mu) (dr:Mu->Mu) (shF:Fx->Fx) (shA:(Nat->Addr)->Nat->Addr):Prop where
 fK:∀ F,(shF F).K=F.K
 step:∀(F:Fx) (ad:Nat->Addr) (B:aL) (σ:St) (H:Hp) (μ μ1:Mu) (x:V) (t:T) (σ':St) (Q:St->Hp->Prop),F.K=K->Rl F ad B σ H μ->Rep F.K H B x t->own t μ=some μ1->σ'.length=k->(∀ σ1,σ1.length=k->Rl (shF F) (shA ad) B (σ1++σ) H μ1->Q (σ1++σ) H)->g x (σ'++σ) H Q
 back:∀(F:Fx) (ad:Nat->Addr) (B:aL) (σ σ1:St) (H:Hp) (μ:Mu),σ1.length=k->Rl (shF F) (shA ad) B (σ1++σ) H μ->Rl F ad B σ H (dr μ)
 kp:∀(μ μ1 μ2:Mu) (t:T),own t μ=some μ1->Kp μ1 μ2->Kp μ (dr μ2)
theorem nU{α:Type _}{l:List α}(h:l.length=1):∃ y,l=[y]:=by
 rcases l with _|⟨a,_|⟨b,t⟩⟩
 ·cases h
 ·exact⟨a,rfl⟩
 ·cases h
theorem nW{α:Type _}{l:List α}(h:l.length=2):∃ y z,l=[y,z]:=by
 rcases l with _|⟨a,t⟩
 ·cases h
 ·obtain⟨b,rfl⟩:=nU (Nat.succ.inj h);exact⟨a,b,rfl⟩
theorem zI{α:Type _}{l:List α}(h:l.length=3):∃ x y z,l=[x,y,z]:=by
 rcases l with _|⟨a,t⟩
 ·cases h
 ·obtain⟨b,c,rfl⟩:=nW (Nat.succ.inj h);exact⟨a,b,c,rfl⟩
theorem J7{α:Type _}{l:List α}(h:l.length=4):∃ w x y z,l=[w,x,y,z]:=by
 rcases l with _|⟨a,t⟩
 ·cases h
 ·obtain⟨b,c,d,rfl⟩:=zI (Nat.succ.inj h);exact⟨a,b,c,d,rfl⟩
theorem rN:xr K 1 (bJ 0) An Ie Fx.sh FG where
 fK:=fun F=>rfl
 step:=fun F ad B σ H μ μ1 x t σ' Q hF l r e hk h=>by
  cases e;obtain⟨y,rfl⟩:∃ y,σ'=[y]:=by
   exact nU hk
  exact h [some x] rfl (l.push r)
 back:=fun F ad B σ σ1 H μ hk l=>by
  obtain⟨y,rfl⟩:∃ y,σ1=[y]:=by
   exact nU hk
  exact l.DB
 kp:=fun μ μ1 μ2 t e k=>by cases e;exact k.tail
theorem r8:xr K 2 (nJ K 2 (eY (bJ 0) (eY (bJ 1) mU))) tI Ii (fun F=>F.sh.sh) (fun ad=>FG (FG ad)) where
 fK:=fun F=>rfl
 step:=fun F ad B σ H μ μ1 x t σ' Q hF l r e hk h=>by
  unfold tI at e
  split at e
  ·rename_i a b;cases e;obtain⟨y,z,rfl⟩:∃ y z,σ'=[y,z]:=by
    exact nW hk
   obtain⟨_,_,rfl,n,hh,rr⟩:=Rep.tupI r;obtain⟨_,_,rfl,r1,rr⟩:=ai.bW rr;obtain⟨_,_,rfl,r2,rr⟩:=ai.bW rr;obtain rfl:=ai.jv rr;exact⟨_,_,rfl,aW.of hh,rfl,_,_,rfl,_,_,rfl,rfl,h [some _,some _] rfl ((l.push r2).push (F:=F.sh) r1)⟩
  ·cases e
 back:=fun F ad B σ σ1 H μ hk l=>by
  obtain⟨y,z,rfl⟩:∃ y z,σ1=[y,z]:=by
   exact nW hk
  exact (Rl.DB (F:=F.sh) l).DB
 kp:=fun μ μ1 μ2 t e k=>by
  unfold tI at e
  split at e
  ·cases e;exact k.tail.tail
  ·cases e
theorem iK{g:TG}{own:T->Mu->Option Mu}{shF:Fx->Fx}{shA:(Nat->Addr)->Nat->Addr}{wi:TI}{ui:UI}{ut:UT}(O:xr K k g own dr shF shA)(hi:RI K wi ui)(ht:RT K tc ut)(he:RE K te ue):RE K (j4 wi k g tc te) (i4 own dr ui ut ue):=by
 intro F ad B σ H μ Q Qt hF l q kk;refine hi F ad B σ H μ _ _ hF l q fun J H1 μ1 items gd Src l1 f1 k1 it sr so gk q1=>?_;intro D hD;have hnB:=l1.v9 hD;have h0D:=l1.E1 hD;have hGD:F.G D=none:=by
  cases q:F.G D with
  |none=>rfl
  |some vs=>have:=(l1.gh D vs q).1;rw[hD] at this;cases this
 have nbx:∀(μ':Mu),Kp μ μ'->∀(i:Nat) (s:Sl) (c:T),μ'[i]?=some s->s.box=some c->B (ad i):=fun μ' k i s c e b=>by
  obtain⟨s',c',e',b'⟩:=k.symm.fwd i s c e b;exact l.own i s' c' e' b'
 refine⟨fun i m ys σ' H'=>m=items.length-i/\i<=items.length/\∃ σ1 μ' acc,σ'=σ1++σ/\σ1.length=k/\Rl (F.g D ys) ad (more B D) σ H' μ'/\ai F.K H' (more B D) ys acc/\Fr B H (more B D) H'/\Kp μ μ'/\(gd=none->Src H' (more B D))/\pP gd own dr ut ue Qt (items.drop i) acc μ',
  ⟨items.length,by simp,KY _,_,μ1,[],rfl,Lo,(l1.new hD).I_ ae (.inl rfl) (fun i s c e b z=>hnB (z ▸ nbx μ1 k1 i s c e b)),.nil,f1.trans (Fr.more hD),k1,fun z=>?_,q1⟩,?_⟩
 ·subst z;exact so _ _ _ _ (Fr.more hD) sr
 rintro i m ys σ' H' ⟨rfl,hi',σ1,μ',acc,rfl,hk,l2,ra,f2,k2,s2,q2⟩;have hD2:=l2.IA.1;refine⟨hD2,?_⟩;have src:HL gd μ'->Src H' (more B D):=fun hg=>by
  cases gd with
  |none=>exact s2 rfl
  |some jl=>obtain⟨j,ls⟩:=jl;exact so.1 _ _ _ _ (l2.BU hGD) hg
 by_cases hlt:i<items.length
 ·have ei:items[i]?=some items[i]:=Kw hlt;rw[L0 hlt] at q2;obtain⟨hg,hz,q2⟩:=q2;have sr2:=src hg;obtain⟨go,yl⟩:=it.step H' (more B D) i _ l2.gj sr2 ei;refine .inr ⟨go,by rw[ra.length];exact hz,fun x H3 y=>?_⟩
  obtain⟨sm,rp⟩:=yl x H3 y
  split at q2
  ·exact q2.elim
  ·rename_i μ3 eo;have f3:Fr (more B D) H' (more B D) H3:=Fr.same sm;have hF2:(F.g D ys).K=K:=hF;refine O.step (F.g D ys) ad (more B D) σ H3 μ' μ3 x _ σ1 _ hF2 (l2.same sm) (by rw[hF2];exact rp) eo hk fun σ4 hk4 l4=>?_
   refine ht (shF (F.g D ys)) (shA ad) (more B D) _ H3 μ3 _ _ ((O.fK _).trans hF2) l4 q2 fun b H5 μ5 l5 f5 k5 q5=>?_
   cases b with
   |true =>
    rw[Kz rfl] at q5 ⊢;refine he (shF (F.g D ys)) (shA ad) (more B D) _ H5 μ5 _ _ ((O.fK _).trans hF2) l5 q5 fun v H6 r6 μ6 v6 f6 k6 q6=>?_;have l6:=O.back (F.g D ys) ad (more B D) σ σ4 H6 μ6 hk4 v6.rl;refine⟨l6.IA.1,?_⟩;have hv:=v6.hv
    split at q6
    ·rename_i t' e6;rw[e6] at hv;have rv:Rep F.K H6 (more B D) v t':=by have:=hv;unfold Hv at this;rw[O.fK] at this;exact this
     have fa:=(f3.trans f5).trans f6.d;have fs:Fr (more B D) H6 (more B D) (upd H6 D (.lst (ys++[v]))):=Fr.set (.inl rfl);refine⟨items.length-(i+1),by lia,rfl,hlt,σ4,dr μ6,acc++[t'],rfl,hk4,l6.setG h0D,((ra.fr fa).append (.cons rv .nil)).fr fs,(f2.trans fa).trans fs,k2.trans (O.kp μ' μ3 μ6 _ eo (k5.trans k6)),fun z=>?_,q6⟩
     subst z;exact so _ _ _ _ (fa.trans fs) (s2 rfl)
    ·exact q6.elim
   |false =>
    rw[Kx K5] at q5 ⊢;have l6:=O.back (F.g D ys) ad (more B D) σ σ4 H5 μ5 hk4 l5;have fa:=f3.trans f5;refine⟨items.length-(i+1),by lia,rfl,hlt,σ4,dr μ5,acc,rfl,hk4,l6,ra.fr fa,f2.trans fa,k2.trans (O.kp μ' μ3 μ5 _ eo k5),fun z=>?_,q5⟩
    subst z;exact so _ _ _ _ fa (s2 rfl)
 ·have e:i=items.length:=by lia
  subst e;rw[Nx] at q2;obtain⟨hg,q2⟩:=q2;have l3:=l2.BU hGD;refine .inl ⟨it.stop H' (more B D) (src hg),kk (.ref D) H' (.fr (.lst acc)) μ' ⟨l3.less (fun b z=>.inr z) l.bc (nbx μ' k2) (fun a vs ga=>?_),D,rfl,hnB,h0D,l3,ys,hD2,ra⟩ f2 k2 q2⟩;exact l.gB a vs ga
section
variable {X:Cx} {elt tg iter:Expr} {ifs:List Expr} {ue:UE} {ut:UT} {ui:UI} {pos pos' p2:Pos} {x:Str} {osc scope:Scope} {ON own N:List Str}
theorem jn(S:bT osc ON scope own N)(hosc:X.env.scope=osc)(hON:X.N=ON)(hc:X.calm=true)(ho:own.length=1)(hi:YI X tg iter ui)
  (hg:∀ C s H fp,QG (aE X scope N C s H fp) tg (bJ 0)) (ht:∀ C s H fp,CF (aE X scope N C s H fp) ifs ut) (he:∀ C s H fp,YE (aE X scope N C s H fp) elt ue) (hs:autoParam (∀ x,foldedSetIterable iter X.env x=pure x) ℜ3) :
  YE X (.ListComp elt [⟨tg,iter,ifs,0⟩] scope pos) (i4 An Ie ui ut ue):=by
 obtain⟨t,q,r⟩:=hi;have h:=Z.comp (pos:=pos) (tc:=uY X.K ut) (te:=uL X.K ue) S hosc hON hc q hg (fun C s H fp=>(ht C s H fp).B8) (fun C s H fp=>(he C s H fp).B8) hs;rw[ho] at h;exact⟨_,h,iK rN r qY sX⟩
theorem C0(K:Pq)(hK:X.K=K)(S:bT osc ON scope own N)(hosc:X.env.scope=osc)(hON:X.N=ON)(hc:X.calm=true)(ho:own.length=2)(hi:YI X tg iter ui)
  (hg:∀ C s H fp,QG (aE X scope N C s H fp) tg (nJ K 2 (eY (bJ 0) (eY (bJ 1) mU)))) (ht:∀ C s H fp,CF (aE X scope N C s H fp) ifs ut) (he:∀ C s H fp,YE (aE X scope N C s H fp) elt ue) (hs:autoParam (∀ x,foldedSetIterable iter X.env x=pure x) ℜ3) :
  YE X (.ListComp elt [⟨tg,iter,ifs,0⟩] scope pos) (i4 tI Ii ui ut ue):=by
 obtain⟨t,q,r⟩:=hi;subst hK;have h:=Z.comp (pos:=pos) (tc:=uY X.K ut) (te:=uL X.K ue) S hosc hON hc q hg (fun C s H fp=>(ht C s H fp).B8) (fun C s H fp=>(he C s H fp).B8) hs;rw[ho] at h;exact⟨_,h,iK r8 r qY sX⟩
theorem HC(hN:X.N.Nodup)(hj:X.N[j]?=some x)(hx:Loc X.env.scope x)(S:bT osc ON scope own N)(hosc:X.env.scope=osc)(hON:X.N=ON)(hc:X.calm=true)(ho:own.length=1)(hi:YI X tg iter ui)
  (hg:∀ C s H fp,QG (aE X scope N C s H fp) tg (bJ 0)) (ht:∀ C s H fp,CF (aE X scope N C s H fp) ifs ut) (he:∀ C s H fp,YE (aE X scope N C s H fp) elt ue)
  (hsw:autoParam (swapsWith (.ListComp elt [⟨tg,iter,ifs,0⟩] scope p2) (some (.Name x pos')) pos.line X.env=pure true) ℜ0)
  (hf:autoParam (X.fn x=true\/X.env.scope.names.lookup x=some .local) ℜ2) (hs:autoParam (∀ x,foldedSetIterable iter X.env x=pure x) ℜ3) :
  YS X (.Assign [.Name x pos'] (.ListComp elt [⟨tg,iter,ifs,0⟩] scope p2) pos) (jO (i4 An Ie ui ut ue) (gN j)):=by
 obtain⟨t,q,r⟩:=hi;have h:=Z.setC (tc:=uY X.K ut) (te:=uL X.K ue) hN hj hx S hosc hON hc q hg (fun C s H fp=>(ht C s H fp).B8) (fun C s H fp=>(he C s H fp).B8) hsw hf hs;rw[ho] at h;exact⟨_,h,j9 (iK rN r qY sX) lW⟩
theorem nY:CF X [] (fun μ Q=>Q true μ):=⟨_,Z.nY,fun F ad B σ H μ Q Qt hK l q k=>k true H μ l Fr.refl (Kp.refl μ) q⟩
theorem Jr{c:Expr}(h:YT X c ut):CF X [c] ut:=by obtain⟨t,q,r⟩:=h;exact⟨t,Z.Jr q,r⟩
end
end Y
noncomputable def df(μ:Mu)(j:Nat)(c:T):Mu:=match μ[j]? with
 |some s=>μ.set j (s.put c)
 |none=>μ
namespace Y
section
variable {X:Cx} {a b c e o tg it i:Expr} {es rest:List Expr} {ua ub uc ue uo ui:UE} {uA uB:UT} {us:UA} {pos pos' p p2 p3 apos:Pos} {x:Str} {st:Stmt} {sts xs ys:List Stmt} {u w:US}
noncomputable def gS(uo ui:UE):UG:=fun r μ Q=>match r.d with
 |.tr t=>uo μ fun ro μ1=>ui μ1 fun ri μ2=>(match ro,ri with
  |.br j,.tr (.int k)=>(match (μ2[j]?).bind Sl.box with
   |some (.lst ts)=>(match jT ts.length k with
    |some n=>Q (df μ2 j (.lst (ts.set n t)))
    |none=>False)
   |_=>False)
  |_,_=>False)
 |_=>False
theorem oI(ho:YE X o uo)(hi:YE X i ui)
  (ha:autoParam (∀ v,assign (.Subscript o i pos) X.env v=(do
   let ov <- holding [v] (eval o X.env)
   let iv <- holding [v,ov] (eval i X.env)
   standAt pos
   holding [v,ov,iv] (setItem ov iv v)
   release [v,ov,iv] [])) ℜ3):YG X (.Subscript o i pos) (gS uo ui):=by
 obtain⟨t,q,r⟩:=ho;obtain⟨t',q',r'⟩:=hi;refine⟨_,Z.oI q q' ha,fun F ad B σ H μ v rr B0 H0 Q Qt hF h f q k=>?_⟩;unfold gS at q;have f0:Fr B0 H0 B H:=fun b o h n=>⟨(f b o h n).1,fun z=>(f b o h n).2 (by cases rr<;>first|exact z | (cases v<;>first|exact z|exact .inr z))⟩
 have hv:=h.hv
 split at q
 ·rename_i t0 e0;rw[e0] at hv;refine r F ad B σ H μ _ _ hF h.rl q fun ov H1 r1 μ1 v1 f1 k1 q1=>r' F ad B σ H1 μ1 _ _ hF v1.rl q1 fun iv H2 r2 μ2 v2 f2 k2 q2=>?_
  split at q2
  ·rename_i j kk;have rp:=v2.2;obtain rfl:=Rep.cA rp;obtain⟨rfl,_⟩:=(v1.hv.fr f2.d k2)
   split at q2
   ·rename_i ts e
    split at q2
    ·rename_i n en
     cases ej:μ2[j]? with
     |none=>rw[ej] at e;cases e
     |some s =>
      rw[ej] at e;have e':s.box=some (.lst ts):=e;have l2:=v2.rl;obtain⟨vs,hl,rs⟩:=((l2.slot j s ej).boxed e').2.2.1;have rv:Rep F.K H2 B v t0:=(show Rep F.K H B v t0 from hv).fr (f1.d.trans f2.d);have l3:=l2.put ej e' (rs.set n rv);show vJ (.ref (ad j)) (.int kk) v H2 _;rw[Ap.setRef,hl];simp only;rw[rs.length,en];simp only;unfold df at q2;rw[ej] at q2;exact k ad B σ _ _ l3 ((f0.trans (f1.d.trans f2.d)).trans (Fr.set ((l2.slot j s ej).boxed e').2.1)) q2
    ·exact q2.elim
   ·exact q2.elim
  ·exact q2.elim
 ·exact q.elim
abbrev UM:=Nat->List R->Mu->(R->Mu->Prop)->Prop
noncomputable def Ip:Option T->Prop->Prop
 |some (.lst _),p=>p
 |_,_=>False
noncomputable def HS(um:UM)(uo:UE)(us:UA):UE:=fun μ Q=>uo μ fun ro μ1=>match ro with
 |.br j=>Ip ((μ1[j]?).bind Sl.box) (us μ1 fun rs μ2=>um j rs μ2 Q)
 |_=>False
noncomputable def RM(K:Pq)(r:V->List V->Hp->VK->Prop)(um:UM):Prop:=∀(F:Fx) (ad:Nat->Addr) (B:aL) (σ:St) (H:Hp) (μ:Mu) (Q:VK) (Qt:R->Mu->Prop) (j:Nat) (s:Sl) (c:T) (xs:List V) (rs:List R),F.K=K->Rl F ad B σ H μ->μ[j]?=some s->s.box=some c->Paired (Hv F ad B H μ) xs rs->um j rs μ Qt ->
 (∀ v H' r μ',Vr F ad B σ H' μ' v r->Fr B H (Bv B v r) H'->Kp μ μ'->Qt r μ'->Q v H')->r (.ref (ad j)) xs H Q
theorem bm(K:Pq)(hK:X.K=K){id:String}{r:V->List V->Hp->VK->Prop}{um:UM}(slot:Slot "list" name id)(hty:typeOf (.builtin id)=pure (.type "method_descriptor"))(hm:zz X id r)(hr:RM X.K r um)(ho:YE X o uo)(ha:YA X (e::es) us)
  (hbase:autoParam (attributeBase o name X.env (eval o X.env)=eval o X.env) ℜ0) (hline:autoParam ((apos.endLine == pos.line)=true) ℜ0) (h:autoParam ((e::es).all cK=true) ℜ0) (hl:autoParam ((e::es).length<30) ℜ1):YE X (.Call (.Attribute o name apos) (e::es) [] pos) (HS um uo us):=by
 obtain⟨t,q,rr⟩:=ho;obtain⟨t',q',r'⟩:=ha;refine⟨_,Z.bm K hK PySem.F.plainAttrs_list slot hty hm q q' hbase hline h hl,fun F ad B σ H μ Q Qt hF l q k=>rr F ad B σ H μ _ _ hF l q fun v H1 r1 μ1 v1 f1 k1 q1=>?_⟩
 split at q1
 ·rename_i j;obtain⟨l1,rfl,s,c,e1,e2⟩:=v1;rw[e1] at q1;have q1':Ip s.box _:=q1;rw[e2] at q1';rcases ((l1.slot j s e1).boxed e2).2.2.1.is with ⟨ts,vs,rfl,hl,_⟩|⟨_,_,_,rfl,_⟩
  case inr=>exact q1'.elim
  have q1:=(show us μ1 _ from q1');refine⟨.inl ⟨rfl,vs,bz.of hl⟩,?_⟩;refine r' F ad B σ H1 μ1 _ _ hF l1 q1 fun xs H2 rs μ2 l2 ps f2 k2 q2=>?_;obtain⟨s',c',e3,e4⟩:=k2.fwd j s _ e1 e2;exact hr F ad B σ H2 μ2 _ _ j s' c' xs rs hF l2 e3 e4 ps q2 fun v H3 r3 μ3 v3 f3 k3 q3=>k v H3 r3 μ3 v3 ((f1.d.trans f2).trans f3) ((k1.trans k2).trans k3) q3
 ·exact q1.elim
noncomputable def gy:UM:=fun j rs μ Q=>match rs with
 |[.tr t]=>(match (μ[j]?).bind Sl.box with
  |some (.lst ts)=>ts.length<sizeLine/\Q (.tr .aM) (df μ j (.lst (ts++[t])))
  |_=>False)
 |_=>False
theorem kr:RM K si gy:=by
 intro F ad B σ H μ Q Qt j s c xs rs hF l e b ps q k;unfold gy at q
 split at q
 ·obtain⟨_,_,rfl,h,ps⟩:=Paired.bW ps;obtain rfl:=Paired.jv ps;rw[e] at q;have q':(match s.box with|some (.lst ts)=>ts.length<sizeLine/\Qt (.tr .aM) (df μ j (.lst (ts++[_])))|_=>False):=q
  rw[b] at q';rcases ((l.slot j s e).boxed b).2.2.1.is with ⟨ts,vs,rfl,hl,rv⟩|⟨_,_,_,rfl,_⟩
  case inr=>exact q'.elim
  simp only at q';refine⟨_,_,_,rfl,rfl,hl,by rw[rv.length];exact q'.1,?_⟩
  have l3:=l.put e b (rv.append (.cons (bL h) .nil));have q2:=q'.2;unfold df at q2;rw[e] at q2;exact k _ _ (.tr .aM) _ (Vr.flat l3 .aM) (Fr.set ((l.slot j s e).boxed b).2.1) (Kp.set e b (Sl.iO b)) q2
 ·exact q.elim
end
end Y
noncomputable def oZ:List Bool->List V->List Addr
 |true::md,.ref a::vs=>a::oZ md vs
 |_::md,_::vs=>oZ md vs
 |_,_=>[]
noncomputable def gc(K:Pq)(H:Hp)(B:aL):List Bool->List V->List T->Prop
 |[],[],[]=>True
 |false::md,v::vs,t::ts=>Rep K H B v t/\gc K H B md vs ts
 |true::md,v::vs,t::ts=>(∃ a,v=.ref a/\B a/\Bx K H B a t)/\gc K H B md vs ts
 |_,_,_=>False
abbrev eZ:=List T->(R->List T->Prop)->Prop
variable{tsp:eZ}
noncomputable def Fz(K:Pq)(H H':Hp)(B:aL)(as:List Addr)(v:V)(outs:List T):R->Prop
 |.tr t=>Rep K H' B v t/\Paired (Bx K H' B) as outs
 |.fr c=>∃ a,v=.ref a/\H a=none/\¬ B a/\Bx K H' (more B a) a c/\Paired (Bx K H' (more B a)) as outs
 |.br _=>False
noncomputable def spT(K:Pq)(md:List Bool)(tsp:eZ):Sp:=fun vs H Q _=>∃(B:aL) (args:List T) (Qt:R->List T->Prop),gc K H B md vs args/\(∀ b,B b->∃ o,H b=some o)/\(oZ md vs).Nodup/\tsp args Qt /\
 ∀ v H' r outs,Qt r outs->(∀ b o,H b=some o->b∉oZ md vs->H' b=some o)->Fz K H H' B (oZ md vs) v outs r->Q v H'
theorem gc.len:∀{md:List Bool} {vs:List V} {ts:List T},gc K H B md vs ts->vs.length=md.length/\ts.length=md.length
 |[],[],[],_=>⟨rfl,rfl⟩
 |false::md,v::vs,t::ts,h=>⟨Le (·+1) (gc.len h.2).1,Le (·+1) (gc.len h.2).2⟩
 |true::md,v::vs,t::ts,h=>⟨Le (·+1) (gc.len h.2).1,Le (·+1) (gc.len h.2).2⟩
theorem gc.get:∀{md:List Bool} {vs:List V} {ts:List T} {i:Nat} {b:Bool},gc K H B md vs ts->md[i]?=some b->∃ v t,vs[i]?=some v/\ts[i]?=some t/\(if b=true then ∃ a,v=.ref a/\B a/\Bx K H B a t else Rep K H B v t)
 |[],[],[],i,b,_,e=>by simp at e
 |c::md,[],_,_,_,h,_=>by cases c<;>exact h.elim
 |c::md,v::vs,[],_,_,h,_=>by cases c<;>exact h.elim
 |c::md,v::vs,t::ts,0,b,h,e=>by
  have e':c=b:=by simpa using e
  subst e'
  cases c with
  |false=>exact⟨v,t,rfl,rfl,by rw[Kx K5];exact h.1⟩
  |true=>exact⟨v,t,rfl,rfl,by rw[Kz rfl];exact h.1⟩
 |c::md,v::vs,t::ts,i+1,b,h,e=>by
  have h2:gc K H B md vs ts:=by cases c<;>exact h.2
  obtain⟨v',t',e1,e2,q⟩:=gc.get h2 (show md[i]?=some b by simpa using e)
  exact⟨v',t',by simpa using e1,by simpa using e2,q⟩
theorem iN:∀{md:List Bool} {vs:List V} {i:Nat} {a:Addr},md[i]?=some true->vs[i]?=some (.ref a)->a∈oZ md vs
 |[],_,_,_,e,_=>by simp at e
 |c::md,[],_,_,_,e=>by simp at e
 |c::md,v::vs,0,a,e1,e2=>by
  have e1':c=true:=by simpa using e1
  have e2':v=.ref a:=by simpa using e2
  subst e1' e2';exact KD
 |c::md,v::vs,i+1,a,e1,e2=>by
  have:=iN (md:=md) (vs:=vs) (i:=i) (a:=a) (by simpa using e1) (by simpa using e2)
  cases c with
  |false=>exact this
  |true=>cases v<;>first|exact K9 _ this|exact this
theorem rS:∀{md:List Bool} {vs:List V} {i j:Nat} {a:Addr},(oZ md vs).Nodup->md[i]?=some true->md[j]?=some true->vs[i]?=some (.ref a)->vs[j]?=some (.ref a)->i=j
 |[],_,_,_,_,_,e,_,_,_=>by simp at e
 |c::md,[],_,_,_,_,_,_,e,_=>by simp at e
 |c::md,v::vs,i,j,a,nd,e1,e2,e3,e4=>by
  have tl:(oZ md vs).Nodup:=by
   cases c with
   |false=>exact nd
   |true=>cases v<;>first|exact (Lv.mp nd).2|exact nd
  cases i with
  |zero =>
   have e1':c=true:=by simpa using e1
   have e3':v=.ref a:=by simpa using e3
   subst e1' e3'
   cases j with
   |zero=>rfl
   |succ j=>exact absurd (iN (md:=md) (vs:=vs) (i:=j) (a:=a) (by simpa using e2) (by simpa using e4)) (Lv.mp nd).1
  |succ i=>cases j with
   |zero =>
    have e1':c=true:=by simpa using e2
    have e3':v=.ref a:=by simpa using e4
    subst e1' e3';exact absurd (iN (md:=md) (vs:=vs) (i:=i) (a:=a) (by simpa using e1) (by simpa using e3)) (Lv.mp nd).1
   |succ j=>exact Le (·+1) (rS tl (by simpa using e1) (by simpa using e2) (by simpa using e3) (by simpa using e4))
noncomputable def cJ:List Bool->Nat->Mu->List T
 |[],_,_=>[]
 |true::md,i,μ=>(match μ[i]? with
  |some (.pb c)=>c::cJ md (i+1) μ
  |_=>cJ md (i+1) μ)
 |false::md,i,μ=>cJ md (i+1) μ
theorem Bk{P:Addr->T->Prop}:∀{md:List Bool} {vs:List V} {i:Nat},vs.length=md.length->(∀ n,md[n]?=some true->∃ a c,vs[n]?=some (.ref a)/\μ[i+n]?=some (.pb c)/\P a c)->Paired P (oZ md vs) (cJ md i μ)
 :=by
  intro md
  induction md with
  |nil =>
    intro vs i hl h
    cases vs with
    |nil=>exact .nil
    |cons v vs=>cases hl
  |cons b md ih =>
    intro vs i hl h
    cases vs with
    |nil=>cases hl
    |cons v vs =>
      have rest:=ih (vs:=vs) (i:=i+1) (Nat.succ.inj hl) fun n e=>by
        obtain⟨a,c,e1,e2,p⟩:=h (n+1) e;exact⟨a,c,e1,by rw[Nat.add_assoc,Pg 1 n];exact e2,p⟩
      cases b with
      |false=>exact rest
      |true =>
        obtain⟨a,c,e1,e2,p⟩:=h 0 rfl;have e1':v=.ref a:=Option.some.inj e1;subst e1';rw[Nat.add_zero] at e2;show Paired P (a::oZ md vs) (match μ[i]? with|some (.pb c)=>c::cJ md (i+1) μ|_=>cJ md (i+1) μ)
        rw[e2];exact .cons p rest
noncomputable def startM:List Bool->List T->Nat->Mu
 |b::md,t::ts,n=>(if b=true then .pb t else .tr t)::startM md ts (n-1)
 |_,_,n=>List.replicate n .un
noncomputable def yS(md:List Bool)(Qt:R->List T->Prop):Ed where
 nx:=fun μ=>Qt (.tr .aM) (cJ md 0 μ)
 rt:=fun r μ=>match r with
  |.tr t=>Qt (.tr t) (cJ md 0 μ)
  |.fr c=>Qt (.fr c) (cJ md 0 μ)
  |.br i=>(match μ[i]? with
   |some (.bx c)=>Qt (.fr c) (cJ md 0 μ)
   |_=>False)
theorem jr:∀{md:List Bool} {ts:List T} {n:Nat},ts.length=md.length->md.length<=n->(startM md ts n).length=n
 |[],[],n,_,_=>Lo
 |b::md,t::ts,n,h,hn=>by
  cases n with
  |zero=>simp at hn
  |succ n=>exact Le (·+1) (jr (by simpa using h) (by simpa using hn))
theorem gp:∀{md:List Bool} {ts:List T} {n i:Nat} {s:Sl},(startM md ts n)[i]?=some s->s=.un\/∃ b t,md[i]?=some b/\ts[i]?=some t/\s=(if b=true then .pb t else .tr t)
 |[],ts,n,i,s,e=>by
  have e':(List.replicate n Sl.un)[i]?=some s:=by cases ts<;>exact e
  rw[MG] at e'
  split at e'
  ·exact .inl (Option.some.inj e').symm
  ·cases e'
 |b::md,[],n,i,s,e=>by
  have e':(List.replicate n Sl.un)[i]?=some s:=e;rw[MG] at e'
  split at e'
  ·exact .inl (Option.some.inj e').symm
  ·cases e'
 |b::md,t::ts,n,0,s,e=>.inr ⟨b,t,rfl,rfl,by have e':some (if b=true then Sl.pb t else .tr t)=some s:=e;exact (Option.some.inj e').symm⟩
 |b::md,t::ts,n,i+1,s,e=>by
  rcases gp (md:=md) (ts:=ts) (n:=n-1) (i:=i) (s:=s) (by simpa[startM] using e) with h|⟨b',t',h1,h2,h3⟩
  ·exact .inl h
  ·exact .inr ⟨b',t',by simpa using h1,by simpa using h2,h3⟩
theorem kQ:∀{md:List Bool} {ts:List T} {n i:Nat} {b:Bool} {t:T},md[i]?=some b->ts[i]?=some t->(startM md ts n)[i]?=some (if b=true then .pb t else .tr t)
 |[],_,_,_,_,_,e,_=>by simp at e
 |b::md,[],_,_,_,_,_,e=>by simp at e
 |b::md,t::ts,n,0,b',t',e1,e2=>by
  have e1':b=b':=by simpa using e1
  have e2':t=t':=by simpa using e2
  subst e1' e2';rfl
 |b::md,t::ts,n,i+1,b',t',e1,e2=>by
  have:=kQ (md:=md) (ts:=ts) (n:=n-1) (i:=i) (b:=b') (t:=t') (by simpa using e1) (by simpa using e2)
  simpa[startM] using this
noncomputable def pz(vs:List V)(i:Nat):Addr:=match vs[i]? with
 |some (.ref a)=>a
 |_=>0
noncomputable def FU(md:List Bool)(vs:List V)(i:Nat):Option Addr:=match md[i]?,vs[i]? with
 |some true,some (.ref a)=>some a
 |_,_=>none
theorem qO{vs:List V}(h:FU md vs i=some a):md[i]?=some true/\vs[i]?=some (.ref a):=by
 unfold FU at h
 split at h
 ·rename_i e1 e2;cases h;exact⟨e1,e2⟩
 ·cases h
theorem wc{vs:List V}(h1:md[i]?=some true)(h2:vs[i]?=some (.ref a)):FU md vs i=some a:=by
 unfold FU;rw[h1,h2]
noncomputable def BP(K:Pq)(H:Hp)(md:List Bool)(vs:List V)(B:aL)(bh:∀ b,B b->∃ o,H b=some o):Fx:=⟨K,H,FU md vs,B,bh,fun _=>none⟩
theorem yX{vs:List V}{args:List T}(ag:gc K H B md vs args)(bh:∀ b,B b->∃ o,H b=some o)(nd:(oZ md vs).Nodup)(hN:md.length<=N.length):
  Rl (BP K H md vs B bh) (pz vs) B (start N vs) H (startM md args N.length):=by
 obtain⟨l1,l2⟩:=ag.len;have sget:∀ i v,vs[i]?=some v->(start N vs)[i]?=some (some v):=fun i v e=>by
  have hi:=(K8.mp e).1;unfold start;rw[LD (by simpa using hi),KL,e];rfl
 refine⟨?_,fun i s e=>?_,fun i j s u c d e1 e2 b1 b2 q=>?_,fun i a p=>?_,fun b z=>z,bh,fun b o e n=>e,fun a ws ga=>by cases ga⟩
 ·rw[jr l2 hN];unfold start;rw[K0,K3,Lo];lia
 ·rcases gp e with rfl|⟨b,t,h1,h2,rfl⟩
  ·trivial
  ·obtain⟨v,t',e1,e2,q⟩:=ag.get h1;rw[h2] at e2;cases e2
   cases b with
   |false =>
    rw[Kx K5] at q;rw[Kx K5];exact⟨v,sget i v e1,q⟩
   |true =>
    rw[Kz rfl] at q;rw[Kz rfl];obtain⟨a,rfl,hb,x⟩:=q;have ea:pz vs i=a:=by unfold pz;rw[e1]
    show _/\_/\_/\_;rw[ea];exact⟨sget i _ e1,hb,wc h1 e1,x⟩
 ·have one:∀{i:Nat} {s:Sl} {c:T},(startM md args N.length)[i]?=some s->s.box=some c->md[i]?=some true/\∃ a,vs[i]?=some (.ref a)/\pz vs i=a:=fun {i s c} e b=>by
   rcases gp e with rfl|⟨b',t,h1,h2,rfl⟩
   ·cases b
   ·cases b' with
    |false=>rw[Kx K5] at b;cases b
    |true =>
     obtain⟨v,t',e1,e2,q⟩:=ag.get h1;rw[Kz rfl] at q;obtain⟨a,rfl,_⟩:=q;exact⟨h1,a,e1,by unfold pz;rw[e1]⟩
  obtain⟨m1,a1,v1,z1⟩:=one e1 b1;obtain⟨m2,a2,v2,z2⟩:=one e2 b2;rw[z1,z2] at q;subst q;exact rS nd m1 m2 v1 v2
 ·obtain⟨h1,h2⟩:=qO p;obtain⟨v,t',e1,e2,q⟩:=ag.get h1;refine⟨⟨t',?_⟩,by unfold pz;rw[h2]⟩
  have:=kQ (n:=N.length) h1 e2;rw[Kz rfl] at this;exact this
noncomputable def s_(K:Pq)(f:Addr)(cdv:Value):Prop:=∃(o:Obj) (fd:FuncData),K.lookup f=some o/\o.data=.func fd/\fd.code=cdv
theorem mV{N ps:List Str}{f:Addr}(F:iM K x x st f fd)(S:ar N ps (aa st))(md:List Bool)(hm:md.length=ps.length)(hN:md.length<=N.length)
  (hbody:∀(args:List T) (Qt:R->List T->Prop),args.length=ps.length->tsp args Qt->∀(cdv:Value) (A:Around) (outer:List Env) (s:Shared) (H:Hp) (E:XK),ba k (A.deeper (envOfC x (aa st) s.heap.objs.size f cdv))->s_ K f cdv ->
   ∃ us,YB (eE aV P w K mg base N x (aa st) f cdv A outer s H E).mD (aC st) us/\us (yS md Qt) (startM md args N.length)):bD P w K mg base aV (k+1) f fd ps (spT K md tsp):=by
 obtain⟨oc,od,kV,doc,pm,an,cdv,ct,osl,rfl,lk,hcd⟩:=F.ex;refine Cr (CX:=aV) lk hcd S (fun vs H Q E h=>?_) (fun A outer s H vs Q E hr h=>?_)
 ·obtain⟨B,args,Qt,ag,_⟩:=h;rw[ag.len.1,hm]
 ·obtain⟨B,args,Qt,ag,bh,nd,ht,fin⟩:=h;obtain⟨us,⟨t,q,r⟩,hu⟩:=hbody args Qt (by rw[ag.len.2,hm]) ht cdv A outer s H E hr ⟨_,_,lk,rfl,rfl⟩
  refine⟨t,q.h.mD,?_⟩;have l0:=yX (N:=N) ag bh nd hN;have outs:∀ ad' B' σ' H' μ' (B2:aL),Rl (BP K H md vs B bh) ad' B' σ' H' μ'->(∀ b,B2 b->B' b)->Paired (Bx K H' B2) (oZ md vs) (cJ md 0 μ'):=fun ad' B' σ' H' μ' B2 l hB=>by
   refine Bk (ag.len.1) fun n e=>?_;obtain⟨v,t',e1,e2,q⟩:=ag.get e;rw[Kz rfl] at q;obtain⟨a,rfl,_⟩:=q;obtain⟨⟨c,hc⟩,ha⟩:=l.par n a (wc e e1);have sl:=l.slot n _ hc;refine⟨a,c,e1,by rw[Nh];exact hc,?_⟩
   rw[<- ha];exact (sl.2.2.2).of rfl (Fr.less hB)
  have keep:∀ ad' B' σ' H' μ',Rl (BP K H md vs B bh) ad' B' σ' H' μ'->∀ b o,H b=some o->b∉oZ md vs->H' b=some o:=fun ad' B' σ' H' μ' l b o e n=>l.old b o e fun i z=>n (iN (qO z).1 (qO z).2);refine r (BP K H md vs B bh) _ _ (pz vs) B (start N vs) H _ rfl l0 hu ⟨fun ad' B' σ' H' μ' l _ q=>?_,fun ad' B' σ' H' μ' v rr h q=>?_,fun _ _ _ _ _ _ _ z=>z.elim,fun _ _ _ _ _ _ _ z=>z.elim⟩
  ·exact fin .aM H' (.tr .aM) _ q (keep _ _ _ _ _ l) ⟨.aM,outs _ _ _ _ _ _ l l.bc⟩
  ·cases rr with
   |tr t=>exact fin v H' (.tr t) _ q (keep _ _ _ _ _ h.1) ⟨(show Rep K H' B' v t from h.2).fr (Fr.less h.1.bc),outs _ _ _ _ _ _ h.1 h.1.bc⟩
   |fr c =>
    obtain⟨l,a,rfl,n,h0,l2,x⟩:=h;have sub:∀ b,more B a b->more B' a b:=fun b z=>z.imp id (l.bc b);exact fin _ H' (.fr c) _ q (keep _ _ _ _ _ l) ⟨a,rfl,h0,fun z=>n (l.bc a z),x.of rfl (Fr.less sub),outs _ _ _ _ _ _ l2 sub⟩
   |br i =>
    have q':(match μ'[i]? with|some (.bx c)=>Qt (.fr c) (cJ md 0 μ')|_=>False):=q
    obtain⟨l,rfl,s',c',e1,e2⟩:=h
    split at q'
    ·rename_i c ec;have sl:=l.slot i _ ec;have sub:∀ b,more B (ad' i) b->B' b:=fun b z=>z.elim (fun z=>by rw[z];exact sl.2.1) (l.bc b)
     refine fin _ H' (.fr c) _ q' (keep _ _ _ _ _ l) ⟨ad' i,rfl,sl.2.2.1,fun z=>?_,(sl.2.2.2.2).of rfl (Fr.less sub),outs _ _ _ _ _ _ l sub⟩;obtain⟨o,e⟩:=bh _ z;have:H (ad' i)=none:=sl.2.2.1;rw[this] at e;cases e
    ·exact q'.elim
theorem HasFn.Hg{ps:List Str}(F:HasFn K mg x st ps)(S:ar N ps (aa st))(md:List Bool)(hm:md.length=ps.length)(hN:md.length<=N.length)
  (hbody:∀(args:List T) (Qt:R->List T->Prop),args.length=ps.length->tsp args Qt->∀(f:Addr) (cdv:Value) (A:Around) (outer:List Env) (s:Shared) (H:Hp) (E:XK),ba k (A.deeper (envOfC x (aa st) s.heap.objs.size f cdv))->mg x=some (.ref f)->s_ K f cdv ->
   ∃ us,YB (eE aV P w K mg base N x (aa st) f cdv A outer s H E).mD (aC st) us/\us (yS md Qt) (startM md args N.length)):aj P w K mg base aV (k+1) x ps (spT K md tsp):=by
 obtain⟨f,fd,F1,bnd,m⟩:=F.ex;exact⟨f,fd,m,F1.kp,bnd,mV F1 S md hm hN fun args Qt hl h cdv A outer s H E hr c=>hbody args Qt hl h f cdv A outer s H E hr m c⟩
theorem HasFn.jJ{ps:List Str}(F:HasFn K mg x st ps)(S:ar N ps (aa st))(md:List Bool)(hm:md.length=ps.length)(hN:md.length<=N.length)
  (hbody:∀(args:List T) (Qt:R->List T->Prop),args.length=ps.length->tsp args Qt->∀(f:Addr) (cdv:Value) (A:Around) (outer:List Env) (s:Shared) (H:Hp) (E:XK),ba k (A.deeper (envOfC x (aa st) s.heap.objs.size f cdv)) ->
   ∃ us,YB (eE aV P w K mg base N x (aa st) f cdv A outer s H E).mD (aC st) us/\us (yS md Qt) (startM md args N.length)):aj P w K mg base aV (k+1) x ps (spT K md tsp):=
 F.Hg S md hm hN fun args Qt hl h f cdv A outer s H E hr _ _=>hbody args Qt hl h f cdv A outer s H E hr
noncomputable def C5(μ:Mu):List Bool->List R->Option (List T)
 |[],[]=>some []
 |false::md,r::rs=>(match cont μ r,C5 μ md rs with
  |some t,some ts=>some (t::ts)
  |_,_=>none)
 |true::md,.br j::rs=>(match cont μ (.br j),C5 μ md rs with
  |some t,some ts=>some (t::ts)
  |_,_=>none)
 |_,_=>none
noncomputable def oi:List Bool->List R->List Nat
 |true::md,.br j::rs=>j::oi md rs
 |_::md,_::rs=>oi md rs
 |_,_=>[]
noncomputable def qF:List Bool->List R->List Nat
 |false::md,.br j::rs=>j::qF md rs
 |_::md,_::rs=>qF md rs
 |_,_=>[]
noncomputable def mX:T->Bool
 |.lst ts=>ts.all aK
 |.mH _ ts=>ts.all aK
 |t=>aK t
noncomputable def kK:R->Bool
 |.tr t=>aK t
 |.fr c=>mX c
 |.br _=>false
noncomputable def putAll:List Nat->List T->Mu->Mu
 |j::js,c::cs,μ=>putAll js cs (df μ j c)
 |_,_,μ=>μ
theorem rG(h:i≠j):(df μ j c)[i]?=μ[i]?:=by
 unfold df;split
 ·rw[Me (Ne.symm h)]
 ·rfl
theorem BH{s:Sl}(e:μ[j]?=some s):(df μ j c)[j]?=some (s.put c):=by
 unfold df;rw[e];exact LR (K8.mp e).1
theorem yZ:(df μ j c).length=μ.length:=by
 unfold df;split
 ·exact Lp
 ·rfl
theorem jA:∀{js:List Nat} {cs:List T} {μ:Mu},(putAll js cs μ).length=μ.length
 |[],_,_=>rfl
 |_::_,[],_=>rfl
 |j::js,c::cs,μ=>(jA (js:=js)).trans yZ
theorem dU:∀{js:List Nat} {cs:List T} {μ:Mu} {i:Nat},i∉js->(putAll js cs μ)[i]?=μ[i]?
 |[],_,_,_,_=>rfl
 |_::_,[],_,_,_=>rfl
 |j::js,c::cs,μ,i,h=>(dU (js:=js) (fun z=>h (K9 _ z))).trans (rG fun z=>h (z ▸ KD))
theorem dw{P:Addr->T->Prop}:∀{js:List Nat} {cs:List T} {μ:Mu} {i:Nat} {s:Sl},js.Nodup->Paired P (js.map ad) cs->i∈js->μ[i]?=some s->∃ c,(putAll js cs μ)[i]?=some (s.put c)/\P (ad i) c
 |[],_,_,_,_,_,_,h,_=>by cases h
 |j::js,c::cs,μ,i,s,nd,.cons p ps,h,e=>by
  rw[Lv] at nd;by_cases z:i=j
  ·subst z;refine⟨c,?_,p⟩;show (putAll js cs (df μ i c))[i]?=_;rw[dU nd.1];exact BH e
  ·rcases K4.mp h with z'|z'
   ·exact absurd z' z
   ·exact dw (js:=js) nd.2 ps z' (by rw[rG z];exact e)
theorem Rl.call{B2:aL}{js:List Nat}{outs:List T}(l:Rl F ad B σ H μ)(hb:∀ j∈js,∃(s:Sl) (c:T),μ[j]?=some s/\s.box=some c)(nd:js.Nodup)
  (keep:∀ b o,H b=some o->b∉js.map ad->H' b=some o) (sB:∀ b,B b->B2 b) (nB:∀ b o,H b=some o->¬ B b->¬ B2 b) (tB:∀ b,B2 b->¬ B b->∃ o,H' b=some o) (ps:Paired (Bx F.K H' B2) (js.map ad) outs) :
  Rl F ad B2 σ H' (putAll js outs μ)/\Kp μ (putAll js outs μ)/\Fr B H B2 H':=by
 have inB:∀ b∈js.map ad,B b:=fun b hb'=>by
  obtain⟨j,hj,rfl⟩:=Lm.mp hb';obtain⟨s,c,e,q⟩:=hb j hj;exact l.own j s c e q
 have f:Fr B H B2 H':=fun b o e n=>⟨keep b o e fun z=>n (inB b z),nB b o e n⟩;have cases':∀ i s,(putAll js outs μ)[i]?=some s->(i∉js/\μ[i]?=some s)\/(i∈js/\∃ s0 c0 c,μ[i]?=some s0/\s0.box=some c0/\s=s0.put c/\Bx F.K H' B2 (ad i) c):=fun i s e=>by
  by_cases z:i∈js
  ·obtain⟨s0,c0,e0,q0⟩:=hb i z;obtain⟨c,e1,p⟩:=dw nd ps z e0;rw[e1] at e;exact .inr ⟨z,s0,c0,c,e0,q0,(Option.some.inj e).symm,p⟩
  ·rw[dU z] at e;exact .inl ⟨z,e⟩
 have boxOld:∀(i:Nat) (s:Sl) (c:T),(putAll js outs μ)[i]?=some s->s.box=some c->∃(s0:Sl) (c0:T),μ[i]?=some s0/\s0.box=some c0:=fun i s c e b=>by
  rcases cases' i s e with ⟨_,e'⟩|⟨_,s0,c0,_,e0,q0,_⟩
  ·exact⟨s,c,e',b⟩
  ·exact⟨s0,c0,e0,q0⟩
 have ne:∀(i:Nat) (s:Sl) (c:T),i∉js->μ[i]?=some s->s.box=some c->ad i∉js.map ad:=fun i s c z e b hm=>by
  obtain⟨j,hj,q⟩:=Lm.mp hm;obtain⟨s0,c0,e0,q0⟩:=hb j hj;exact z (l.inj i j s s0 c c0 e e0 b q0 q.symm ▸ hj)
 refine⟨⟨by rw[jA];exact l.len,fun i s e=>?_,fun i j s u c d e1 e2 b1 b2 q=>?_,fun i a p=>?_,fun b z=>sB b (l.bc b z),fun b z=>?_,fun b o e n=>?_,fun a ws ga=>?_⟩,fun i=>?_,f⟩
 ·rcases cases' i s e with ⟨z,e'⟩|⟨z,s0,c0,c,e0,q0,rfl,x⟩
  ·have k:=l.slot i s e';unfold iE at k ⊢
   split at k
   ·trivial
   ·obtain⟨v,e1,r1⟩:=k;exact⟨v,e1,r1.fr f⟩
   ·obtain⟨e1,b,z0,p,x⟩:=k;obtain⟨o,eo⟩:=x.gj;exact⟨e1,sB _ b,z0,p,x.of ((keep _ o eo (ne i _ _ z e' rfl)).trans eo.symm) f⟩
   ·obtain⟨e1,b,p,x⟩:=k;obtain⟨o,eo⟩:=x.gj;exact⟨e1,sB _ b,p,x.of ((keep _ o eo (ne i _ _ z e' rfl)).trans eo.symm) f⟩
  ·have k:=l.slot i s0 e0
   cases s0 with
   |un=>cases q0
   |tr t=>cases q0
   |bx d=>exact⟨k.1,sB _ k.2.1,k.2.2.1,k.2.2.2.1,x⟩
   |pb d=>exact⟨k.1,sB _ k.2.1,k.2.2.1,x⟩
 ·obtain⟨s1,c1,g1,g2⟩:=boxOld i s c e1 b1;obtain⟨s2,c2,g3,g4⟩:=boxOld j u d e2 b2;exact l.inj i j s1 s2 c1 c2 g1 g3 g2 g4 q
 ·obtain⟨⟨c,e⟩,ha⟩:=l.par i a p;refine⟨?_,ha⟩;by_cases z:i∈js
  ·obtain⟨c',e1,_⟩:=dw nd ps z e;exact⟨c',e1⟩
  ·exact⟨c,by rw[dU z];exact e⟩
 ·by_cases zb:B b
  ·obtain⟨o,e⟩:=l.gj b zb;by_cases z2:b∈js.map ad
   ·obtain⟨j,hj,rfl⟩:=Lm.mp z2;obtain⟨s0,c0,e0,q0⟩:=hb j hj;obtain⟨c,_,x⟩:=dw nd ps hj e0;exact x.gj
   ·exact⟨o,keep b o e z2⟩
  ·exact tB b z zb
 ·have e2:=l.old b o e n;refine keep b o e2 fun hm=>?_;obtain⟨j,hj,rfl⟩:=Lm.mp hm;obtain⟨s0,c0,e0,q0⟩:=hb j hj;rcases ((l.slot j s0 e0).boxed q0).2.2.2 with z|z
  ·exact n j z
  ·rw[z] at e;cases e
 ·obtain⟨g1,g2,g3⟩:=l.gh a ws ga;refine⟨keep a _ g1 fun hm=>?_,sB a g2,fun i s c e b=>?_⟩
  ·obtain⟨j,hj,q⟩:=Lm.mp hm;obtain⟨s0,c0,e0,q0⟩:=hb j hj;exact g3 j s0 c0 e0 q0 q
  ·obtain⟨s0,c0,e0,q0⟩:=boxOld i s c e b;exact g3 i s0 c0 e0 q0
 ·by_cases z:i∈js
  ·obtain⟨s0,c0,e0,q0⟩:=hb i z;obtain⟨c,e1,_⟩:=dw nd ps z e0;rw[e0,e1];show (s0.box).isSome=((s0.put c).box).isSome;rw[q0,Sl.iO q0];rfl
  ·rw[dU z]
theorem HB(l:Rl F ad B σ H μ)(ro:List Nat):∀{md:List Bool} {xs:List V} {rs:List R} {args:List T},Paired (Hv F ad B H μ) xs rs->C5 μ md rs=some args->(∀ j∈qF md rs,j∈ro)->(∀ j∈oi md rs,j∉ro) ->
  (∀ j∈ro,∃(s:Sl) (c:T),μ[j]?=some s/\s.box=some c) ->
  gc F.K H (fun b=>B b/\∀ j∈ro,b≠ad j) md xs args/\oZ md xs=(oi md rs).map ad/\∀ j∈oi md rs,∃(s:Sl) (c:T),μ[j]?=some s/\s.box=some c:=by
 intro md
 induction md with
 |nil =>
  intro xs rs args p e _ _ _
  cases p with
  |nil=>cases e;exact⟨trivial,rfl,fun j h=>by cases h⟩
  |cons h p=>cases e
 |cons bb md ih =>
  intro xs rs args pp e h1 h2 h3
  cases pp with
  |nil=>cases bb<;>cases e
  |cons h p =>
   rename_i x r xs2 rs
   cases bb with
   |false =>
    unfold C5 at e
    split at e
    ·rename_i t ts e1 e2;cases e;have sub:∀ j∈qF md rs,j∈ro:=fun j hj=>h1 j (by cases r<;>first|exact hj|exact K9 _ hj)
     obtain⟨g1,g2,g3⟩:=ih p e2 sub h2 h3;refine⟨⟨?_,g1⟩,?_,g3⟩
     ·cases r with
      |tr t' =>
       have e1':t'=t:=Option.some.inj e1;subst e1';exact (show Rep F.K H B x t' from h).fr (Fr.less fun _ z=>z.1)
      |br j =>
       obtain⟨rfl,s,c,q1,q2⟩:=h;have e1':(μ[j]?).bind Sl.box=some t:=e1;rw[q1] at e1';have bx:=((l.slot j s q1).boxed (c:=t) e1').2.2.1;exact (bx.of rfl (Fr.less fun _ z=>z.1)).rep fun z=>z.2 j (h1 j KD) rfl
      |fr c=>exact h.elim
     ·show oZ (false::md) (_::_)=_;rw[show oi (false::md) (r::rs)=oi md rs by cases r<;>rfl]
      exact g2
    ·cases e
   |true =>
    cases r with
    |tr t=>cases e
    |fr c=>cases e
    |br j =>
     unfold C5 at e
     split at e
     ·rename_i t ts e1 e2;cases e;obtain⟨g1,g2,g3⟩:=ih p e2 h1 (fun i hi=>h2 i (K9 _ hi)) h3;obtain⟨rfl,s,c,q1,q2⟩:=h;have e1':(μ[j]?).bind Sl.box=some t:=e1;rw[q1] at e1';have bx:=(l.slot j s q1).boxed (c:=t) e1';refine⟨⟨⟨ad j,rfl,⟨bx.2.1,fun i hi z=>?_⟩,bx.2.2.1.of rfl (Fr.less fun _ z=>z.1)⟩,g1⟩,Le (ad j::·) g2,fun i hi=>?_⟩
      ·obtain⟨s',c',q3,q4⟩:=h3 i hi;have:=l.inj j i s s' t c' q1 q3 e1' q4 z;subst this;exact h2 j KD hi
      ·rcases K4.mp hi with z|z
       ·subst z;exact⟨s,t,q1,e1'⟩
       ·exact g3 i z
     ·cases e
theorem mj:∀{md:List Bool} {xs:List V} {rs:List R},Paired (Hv F ad B H μ) xs rs->∀ j∈qF md rs,∃(s:Sl) (c:T),μ[j]?=some s/\s.box=some c
 |[],_,_,_,j,h=>by cases h
 |b::md,_,_,.nil,j,h=>by cases b<;>cases h
 |b::md,_,r::rs,.cons h p,j,hj=>by
  cases b with
  |true=>exact mj (md:=md) p j (by cases r<;>exact hj)
  |false =>
   cases r with
   |tr t=>exact mj (md:=md) p j hj
   |fr c=>exact h.elim
   |br i =>
    rcases K4.mp hj with z|z
    ·subst z;exact h.2
    ·exact mj (md:=md) p j z
theorem Bx.flat(h:Bx K H B a c)(f:mX c=true):Bx K H B' a c:=by
 rcases h.is with ⟨ts,vs,rfl,e,r⟩|⟨ks,ts,vs,rfl,e,l,r⟩
 ·exact⟨vs,e,r.flat f⟩
 ·exact⟨vs,e,l,r.flat f⟩
theorem Paired.y4:∀{as:List Addr} {outs:List T},Paired (Bx K H B) as outs->outs.all mX=true->Paired (Bx K H B') as outs
 |_,_,.nil,_=>.nil
 |_,_,.cons h p,f=>by
  rw[LW,L7] at f;exact .cons (h.flat f.1) (Paired.y4 p f.2)
namespace Y
noncomputable def Ha(md:List Bool)(tsp:eZ)(us:UA):UE:=fun μ Q=>us μ fun rs μ1=>match C5 μ1 md rs with
 |some args=>(oi md rs).Nodup/\(∀ j∈oi md rs,j∉qF md rs)/\tsp args fun r outs=>(qF md rs=[]\/(kK r=true/\outs.all mX=true))/\Q r (putAll (oi md rs) outs μ1)
 |none=>False
theorem Gk{md:List Bool}{E:XK}{t:TA}{us:UA}(ha:RA K t us):RE K (j1 (spT K md tsp) [] E t) (Ha md tsp us):=by
 intro F ad B σ H μ Q Qt hF l q k;refine ha F ad B σ H μ _ _ hF l q fun vs H1 rs μ1 l1 ps f1 k1 q1=>?_
 split at q1
 ·rename_i args ea;obtain⟨nd,dj,q1⟩:=q1;have hro:=mj (md:=md) ps;obtain⟨ag,eb,hb⟩:=HB l1 (qF md rs) ps ea (fun j h=>h) dj hro;rw[hF] at ag;show spT K md tsp (vs++[]) H1 Q E;rw[Lj];have inj:∀{js:List Nat},js.Nodup->(∀ j∈js,∃(s:Sl) (c:T),μ1[j]?=some s/\s.box=some c)->(js.map ad).Nodup:=fun {js}=>by
   induction js with
   |nil=>exact fun _ _=>MV
   |cons j js ih =>
    intro nd hb;rw[Lv] at nd;rw[KN,Lv];refine⟨fun hm=>?_,ih nd.2 fun i hi=>hb i (K9 _ hi)⟩;obtain⟨i,hi,z⟩:=Lm.mp hm;obtain⟨s1,c1,e1,b1⟩:=hb j KD;obtain⟨s2,c2,e2,b2⟩:=hb i (K9 _ hi);exact nd.1 (l1.inj i j s2 s1 c2 c1 e2 e1 b2 b1 z ▸ hi)
  refine⟨_,args,_,ag,fun b z=>l1.gj b z.1,by rw[eb];exact inj nd hb,q1,fun v H2 r outs hq keep res=>?_⟩
  rw[eb] at keep res;obtain⟨hfl,hq⟩:=hq;have nro:∀{b:Addr},qF md rs=[]->B b->B b/\∀ j∈qF md rs,b≠ad j:=fun {b} z h=>⟨h,fun j hj=>by rw[z] at hj;cases hj⟩
  cases r with
  |br i=>exact res.elim
  |tr t =>
   obtain⟨rv,po⟩:=res;have rv':Rep F.K H2 B v t:=by
    rw[hF];rcases hfl with z|z
    ·exact rv.fr (Fr.less fun b h=>nro z h)
    ·exact rv.flat z.1
   have po':Paired (Bx F.K H2 B) ((oi md rs).map ad) outs:=by
    rw[hF];rcases hfl with z|z
    ·exact Paired.tO po fun a c h=>h.of rfl (Fr.less fun b h=>nro z h)
    ·exact Paired.y4 po z.2
   obtain⟨l2,k2,f2⟩:=l1.call hb nd keep (fun _ z=>z) (fun _ _ _ z=>z) (fun b z n=>absurd z n) po';exact k v H2 (.tr t) _ ⟨l2,rv'⟩ (f1.trans f2) (k1.trans k2) hq
  |fr c =>
   obtain⟨a,rfl,ha0,nBa,x,po⟩:=res;have nBa':¬ B a:=l1.v9 ha0;have sub:qF md rs=[]->∀ b,more B a b->more (fun b=>B b/\∀ j∈qF md rs,b≠ad j) a b:=fun z b h=>h.imp id fun h=>nro z h;have x':Bx F.K H2 (more B a) a c:=by
    rw[hF];rcases hfl with z|z
    ·exact x.of rfl (Fr.less (sub z))
    ·exact x.flat z.1
   have po':Paired (Bx F.K H2 (more B a)) ((oi md rs).map ad) outs:=by
    rw[hF];rcases hfl with z|z
    ·exact Paired.tO po fun a' c h=>h.of rfl (Fr.less (sub z))
    ·exact Paired.y4 po z.2
   have po2:Paired (Bx F.K H2 B) ((oi md rs).map ad) outs:=Paired.tO po' fun a' c h=>h.of rfl (Fr.less fun _ z=>.inr z);obtain⟨l2,k2,f2⟩:=l1.call hb nd keep (fun _ z=>z) (fun _ _ _ z=>z) (fun b z n=>absurd z n) po2;obtain⟨l3,_,f3⟩:=l1.call (B2:=more B a) hb nd keep (fun _ z=>.inr z) (fun b o e n z=>z.elim (fun z=>by rw[z,ha0] at e;cases e) n) (fun b z n=>z.elim (fun z=>by rw[z];exact x'.gj) fun z=>absurd z n) po'
   exact k _ H2 (.fr c) _ ⟨l2,a,rfl,nBa',l1.E1 ha0,l3,x'⟩ (f1.trans f3) (k1.trans k2) hq
 ·exact q1.elim
section
variable {X:Cx} {e:Expr} {es:List Expr} {us:UA} {pos p:Pos} {x:Str} {k:Nat} {ps:List Str} {md:List Bool} {tsp:eZ} {E:XK}
theorem fn(K:Pq)(hK:X.K=K)(F:aj X.prog X.w X.K X.mg X.base aV k x ps (spT K md tsp))(hr:ba k X.A)(hg:Gl X x)(hx:Passes aV X E)(ha:YA X (e::es) us)(h1:autoParam (cK e=true) ℜ0)(h2:autoParam (es.all cK=true) ℜ0)(hdb:autoParam ((x ==("__debug__":Str))=false) ℜ1):
  YE X (.Call (.Name x p) (e::es) [] pos) (Ha md tsp us):=by
 obtain⟨t,q,r⟩:=ha;subst hK;exact⟨_,Z.fn F hr hg hx q h1 h2 hdb,Gk r⟩
end
end Y
noncomputable def D9:eZ:=fun args Q=>∃ ns:List Int,args=[.dW (ns.map T.int)]/\ns.length<=63/\Q (.tr (.bl true)) []
section
variable {prog:Program} {w:World} {A:Around} {E:Value->Shared->Prop} {s:Shared}
structure ZA (z TI TO i1 i2 l1 l2:Addr):Prop where
 a1:TI≠z
 a2:TO≠z
 a3:i1≠z
 a4:i2≠z
 a5:TO≠i1
 a6:TO≠i2
 a7:i1≠i2
 a8:l1≠z/\l1≠TO/\l1≠i1/\l1≠i2
 a9:l2≠z/\l2≠TO/\l2≠i1/\l2≠i2
 b1:TI≠TO/\TI≠i1/\TI≠i2
theorem ZA.f1{TI TO:Addr}(D:ZA z TI TO i1 i2 l1 l2){e:Addr}(he:e=z\/e=TO\/e=i2):∀ b∈[i1,l1],b≠e:=fun b hb=>by
 rcases K4.mp hb with rfl|hb
 ·rcases he with rfl|rfl|rfl
  ·exact D.a3
  ·exact D.a5.symm
  ·exact D.a7
 ·have hb:b=l1:=by simpa using hb
  subst hb;rcases he with rfl|rfl|rfl
  ·exact D.a8.1
  ·exact D.a8.2.1
  ·exact D.a8.2.2.2
theorem ZA.f2{TI TO:Addr}(D:ZA z TI TO i1 i2 l1 l2){e:Addr}(he:e=z\/e=TO\/e=i1):∀ b∈[i2,l2],b≠e:=fun b hb=>by
 rcases K4.mp hb with rfl|hb
 ·rcases he with rfl|rfl|rfl
  ·exact D.a4
  ·exact D.a6.symm
  ·exact D.a7.symm
 ·have hb:b=l2:=by simpa using hb
  subst hb;rcases he with rfl|rfl|rfl
  ·exact D.a9.1
  ·exact D.a9.2.1
  ·exact D.a9.2.2.1
theorem dY{P:Nat->Value->Prop}{S:Nat->Heap->Prop}{A':Around}(D:Draws prog w A' it [it,l] n P S){h':Heap}{e:Addr}(st:S i h)(hs:Heap.ExtBut e h h')(ne:∀ b∈[it,l],b≠e):S i h':=D.frame i h h' st fun b hb o q=>hs b o (ne b hb) q
theorem uF{TI TO:Addr}{n1 n2:Nat}{a b:Value}(D:ZA z TI TO i1 i2 l1 l2)(D1:Draws prog w A i1 [i1,l1] n1 P1 S1)(D2:Draws prog w A i2 [i2,l2] n2 P2 S2)
  (hz:IsZip s.heap z TI TO .none) (hTI:IsPair s.heap TI (.ref i1) (.ref i2)) (hTO:IsPair s.heap TO a b) (st1:S1 k s.heap) (vv:S2 k s.heap) (hk1:k<n1) (hk2:k<n2)
  (hQ:∀ x y h' tk,P1 k x->P2 k y->IsZip h' z TI TO (rawInt s.heap.objs.size)->IsPair h' TO x y->S1 (k+1) h'->S2 (k+1) h'->IsPair h' s.heap.objs.size x y ->
   (∀ c o,c≠z->c≠TO->c≠i1->c≠i2->s.heap.get? c=some o->h'.get? c=some o)->Q (.ref s.heap.objs.size) {s with heap:=h',toks:=tk}) :
  wpAny (model prog w) A (Builtin.«zip.__next__» ⟨[.ref z],[]⟩) (fun fin s'=>∃ v,fin=.done (.ret v)/\Q v s') E s:=by
 have zrec:=hz;show wpAny _ _ (field (.ref z) 2 >>= _) _ _ _;refine Ku (LV zrec rfl (x:=.bool false) rfl ?_);show wpAny _ _ (field (.ref z) 3 >>= _) _ _ _;refine Ku (LV zrec rfl (x:=.ref TI) rfl ?_);have tirec:=hTI;refine Ku (Ma tirec rfl ?_);show wpAny _ _ (Builtin.SmallTypes.ownedTupleIsFree (.ref z) >>= _) _ _ _;refine Ku ?_;unfold Builtin.SmallTypes.ownedTupleIsFree;refine Ku (LV zrec rfl (x:=.none) rfl (K1 ?_));simp only[Mg];refine Ku (NC ?_);refine Ku (LV zrec rfl (x:=.ref TO) rfl ?_);refine Ku (Mr zrec (by simp) fun g1 zr1 sb1=>?_)
 replace zr1:IsZip g1 z TI TO .ellipsis:=zr1
 refine Ku ?_;simp only[List.zipIdx_cons,List.zipIdx_nil,Nb,List.forIn_nil];refine Ku (Ku (Oe ?_));show wpAny _ _ (Builtin.SmallTypes.nextOf (.ref i1) >>= _) _ _ _;refine Ku (D1.item k _ _ _ hk1 (dY D1 st1 sb1.extBut (D.f1 (.inl rfl))) fun x g2 tk2 px st1b sb2=>K1 ?_);have to2:IsPair g2 TO a b:=sb2.extBut _ _ D.a5 (sb1.extBut _ _ D.a2 hTO);refine Ku (Ma to2 rfl ?_);refine Ku (NH to2 fun g3 to3 sb3=>?_)
 replace to3:IsPair g3 TO x b:=to3
 refine Ku (wpAny_letGo (K1 ?_));refine Ku (Ku (Oe ?_));show wpAny _ _ (Builtin.SmallTypes.nextOf (.ref i2) >>= _) _ _ _;have st2c:S2 k g3:=dY D2 (dY D2 (dY D2 vv sb1.extBut (D.f2 (.inl rfl))) sb2.extBut (D.f2 (.inr (.inr rfl)))) sb3.extBut (D.f2 (.inr (.inl rfl)));refine Ku (D2.item k _ _ _ hk2 st2c fun y g4 tk4 py st2d sb4=>K1 ?_);have to4:IsPair g4 TO x b:=sb4.extBut _ _ D.a6 to3;refine Ku (Ma to4 rfl ?_);refine Ku (NH to4 fun g5 to5 sb5=>?_)
 replace to5:IsPair g5 TO x y:=to5
 refine Ku (wpAny_letGo (K1 (K1 ?_)));refine Ku (Ma to5 rfl ?_);refine Ku (wpAny_newTuple ?_);have size5:g5.objs.size=s.heap.objs.size:=by rw[sb5.1,sb4.1,sb3.1,sb2.1,sb1.1]
 have zr5:IsZip g5 z TI TO .ellipsis:=sb5.extBut _ _ D.a2.symm (sb4.extBut _ _ D.a4.symm (sb3.extBut _ _ D.a2.symm (sb2.extBut _ _ D.a3.symm zr1)));have keep5:∀ c o,c≠z->c≠TO->c≠i1->c≠i2->s.heap.get? c=some o->g5.get? c=some o:=fun c o e1 e2 e3 e4 q =>
  sb5.extBut _ _ e2 (sb4.extBut _ _ e4 (sb3.extBut _ _ e2 (sb2.extBut _ _ e3 (sb1.extBut _ _ e1 q))))
 have s1e:S1 (k+1) g5:=dY D1 (dY D1 (dY D1 st1b sb3.extBut (D.f1 (.inr (.inl rfl)))) sb4.extBut (D.f1 (.inr (.inr rfl)))) sb5.extBut (D.f1 (.inr (.inl rfl)));have s2e:S2 (k+1) g5:=dY D2 st2d sb5.extBut (D.f2 (.inr (.inl rfl)));have zlt:z<g5.objs.size:=KA zr5;show wpAny _ _ (Builtin.SmallTypes.ownedTupleHandOut (.ref z) (.ref g5.objs.size) >>= _) _ _ _;refine Ku ?_;unfold Builtin.SmallTypes.ownedTupleHandOut;have zr6:IsZip (g5.push {cls:=.type "tuple",data:=.seq #[x,y]}) z TI TO .ellipsis:=Kv _ zr5;refine Ku (Mr zr6 (by simp) fun g7 zr7 sb7=>?_)
 replace zr7:IsZip g7 z TI TO (rawInt g5.objs.size):=zr7
 refine Mr zr7 (by simp) fun g8 zr8 sb8=>?_
 replace zr8:IsZip g8 z TI TO (rawInt g5.objs.size):=zr8
 have up:∀ c o,c≠z->g5.get? c=some o->g8.get? c=some o:=fun c o e1 q=>sb8.extBut _ _ e1 (sb7.extBut _ _ e1 (Kv _ q));have pr8:IsPair g8 g5.objs.size x y:=sb8.extBut _ _ (Mo zlt) (sb7.extBut _ _ (Mo zlt) (K7 _ rfl));rw[size5] at zr8 pr8;refine K1 ⟨_,rfl,?_⟩;show Q (.ref g5.objs.size) _;rw[size5];exact hQ x y g8 _ px py zr8 (up _ _ D.a2 to5) (D1.frame _ _ _ s1e fun b hb o q=>up b o (D.f1 (.inl rfl) b hb) q) (D2.frame _ _ _ s2e fun b hb o q=>up b o (D.f2 (.inl rfl) b hb) q) pr8 fun c o e1 e2 e3 e4 q=>up c o e1 (keep5 c o e1 e2 e3 e4 q)
theorem w6{TI TO:Addr}{n1 n2:Nat}{a b:Value}{Q:Fin->Shared->Prop}(D:ZA z TI TO i1 i2 l1 l2)(D1:Draws prog w A i1 [i1,l1] n1 P1 S1)(D2:Draws prog w A i2 [i2,l2] n2 P2 S2)
  (hz:IsZip s.heap z TI TO .none) (hTI:IsPair s.heap TI (.ref i1) (.ref i2)) (hTO:IsPair s.heap TO a b) (st1:S1 k s.heap) (vv:S2 k s.heap) (hk:k=n1\/(k<n1/\k=n2))
  (hE:∀ h' e tk,(∀ c o,c≠z->c≠TO->c≠i1->c≠i2->s.heap.get? c=some o->h'.get? c=some o)->(∃ o,h'.get? e=some o/\o.cls=.type "StopIteration")->E (.ref e) {s with heap:=h',toks:=tk}) :
  wpAny (model prog w) A (Builtin.«zip.__next__» ⟨[.ref z],[]⟩) Q E s:=by
 have zrec:=hz;show wpAny _ _ (field (.ref z) 2 >>= _) _ _ _;refine Ku (LV zrec rfl (x:=.bool false) rfl ?_);show wpAny _ _ (field (.ref z) 3 >>= _) _ _ _;refine Ku (LV zrec rfl (x:=.ref TI) rfl ?_);have tirec:=hTI;refine Ku (Ma tirec rfl ?_);show wpAny _ _ (Builtin.SmallTypes.ownedTupleIsFree (.ref z) >>= _) _ _ _;refine Ku ?_;unfold Builtin.SmallTypes.ownedTupleIsFree;refine Ku (LV zrec rfl (x:=.none) rfl (K1 ?_));simp only[Mg];refine Ku (NC ?_);refine Ku (LV zrec rfl (x:=.ref TO) rfl ?_);refine Ku (Mr zrec (by simp) fun g1 zr1 sb1=>?_)
 replace zr1:IsZip g1 z TI TO .ellipsis:=zr1
 refine Ku ?_;simp only[List.zipIdx_cons,List.zipIdx_nil,Nb,List.forIn_nil];refine Ku (Ku (Oe ?_));show wpAny _ _ (Builtin.SmallTypes.nextOf (.ref i1) >>= _) _ _ _;rcases hk with hk|⟨hk1,hk2⟩
 ·subst hk;refine Ku (D1.done _ _ _ (dY D1 st1 sb1.extBut (D.f1 (.inl rfl))) fun g2 e sb2 he=>?_);obtain⟨oe,hoe,hce⟩:=he;have zr2:IsZip g2 z TI TO .ellipsis:=sb2 _ _ D.a3.symm zr1;have nez:e≠z:=fun q=>by subst q;rw[zr2] at hoe;cases hoe;simp at hce
  refine Mr zr2 (by simp) fun g3 _ sb3=>hE g3 e _ (fun c o e1 _ e3 _ q=>sb3.extBut _ _ e1 (sb2 _ _ e3 (sb1.extBut _ _ e1 q))) ⟨oe,sb3.extBut _ _ nez hoe,hce⟩
 ·subst hk2;refine Ku (D1.item k _ _ _ hk1 (dY D1 st1 sb1.extBut (D.f1 (.inl rfl))) fun x g2 tk2 px st1b sb2=>K1 ?_);have to2:IsPair g2 TO a b:=sb2.extBut _ _ D.a5 (sb1.extBut _ _ D.a2 hTO);refine Ku (Ma to2 rfl ?_);refine Ku (NH to2 fun g3 to3 sb3=>?_);refine Ku (wpAny_letGo (K1 ?_));refine Ku (Ku (Oe ?_));show wpAny _ _ (Builtin.SmallTypes.nextOf (.ref i2) >>= _) _ _ _;have st2c:S2 k g3:=dY D2 (dY D2 (dY D2 vv sb1.extBut (D.f2 (.inl rfl))) sb2.extBut (D.f2 (.inr (.inr rfl)))) sb3.extBut (D.f2 (.inr (.inl rfl)));refine Ku (D2.done _ _ _ st2c fun g4 e sb4 he=>?_);obtain⟨oe,hoe,hce⟩:=he;have zr4:IsZip g4 z TI TO .ellipsis:=sb4 _ _ D.a4.symm (sb3.extBut _ _ D.a2.symm (sb2.extBut _ _ D.a3.symm zr1));have nez:e≠z:=fun q=>by subst q;rw[zr4] at hoe;cases hoe;simp at hce
  refine Mr zr4 (by simp) fun g5 _ sb5=>hE g5 e _ (fun c o e1 e2 e3 e4 q=>sb5.extBut _ _ e1 (sb4 _ _ e4 (sb3.extBut _ _ e2 (sb2.extBut _ _ e3 (sb1.extBut _ _ e1 q))))) ⟨oe,sb5.extBut _ _ nez hoe,hce⟩
end
noncomputable def mE(K:Pq)(k:Bool)(H:Hp)(a:Addr)(xs:List V):Prop:=if k=true then bz K H a xs else aW K H a xs
noncomputable def iq(k:Bool)(h:Heap)(it a:Addr)(i:Nat):Prop:=if k=true then h.IsListIter it a i else h.IsTupleIter it a i
noncomputable def i5(k:Bool)(h:Heap)(a:Addr)(items:Array Value):Prop:=if k=true then h.IsList a items else h.IsTuple a items
theorem iQ{A:Around}(k:Bool)(hh:A.handled=none)(it l:Addr)(hne:l≠it)(items:Array Value):Draws prog w A it [it,l] items.size (fun i v=>items[i]?=some v) (fun i h=>iq k h it l i/\i5 k h l items):=by
 cases k with
 |true=>exact Draws.list hh it l hne items
 |false=>exact ik hh it l hne items
theorem Inv.uX{k:Bool}(I:Inv X pins σ H s)(h:mE X.K k H a xs):∃ its:List Value,Vals xs its/\i5 k s.heap a its.toArray:=by
 cases k with
 |true=>obtain⟨its,r,p,_⟩:=I.list h;exact⟨its,r,p.isList⟩
 |false=>obtain⟨its,r,p,_⟩:=I.tuple h;exact⟨its,r,p⟩
theorem Inv.nQ{k:Bool}(I:Inv X pins σ H s)(h:mE X.K k H a xs)(h':mE X.K k H a ys):xs=ys:=by
 cases k with
 |true=>exact I.nM h h'
 |false=>exact I.ie h h'
noncomputable def wR(K:Pq)(k1 k2:Bool)(a b:Addr):It:=
  ⟨fun i H=>∃ xs ys x y,mE K k1 H a xs/\mE K k2 H b ys/\xs[i]?=some x/\ys[i]?=some y,
   fun i H v H'=>∃ p x y,(∀ xs,mE K k1 H a xs->xs[i]?=some x)/\(∀ ys,mE K k2 H b ys->ys[i]?=some y)/\H p=none/\v=.ref p/\H'=upd H p (.tup [x,y]),
   fun i H=>∃ xs ys,mE K k1 H a xs/\mE K k2 H b ys/\i=min xs.length ys.length⟩
theorem i5.ty{k:Bool}(x:i5 k h a items):∃ o,h.get? a=some o/\(o.cls=.type "list"\/o.cls=.type "tuple")/\∃ n,o.data=.seq items n:=by
 cases k with
 |true=>obtain⟨o,e,c,n,d⟩:=(show h.IsList a items from x);exact⟨o,e,.inl c,n,d⟩
 |false=>obtain⟨o,e,c,n,d⟩:=(show h.IsTuple a items from x);exact⟨o,e,.inr c,n,d⟩
theorem iq.ty{k:Bool}(x:iq k h it a i):∃ o,h.get? it=some o/\(o.cls=.type "list_iterator"\/o.cls=.type "tuple_iterator")/\o.data=.fields #[.ref a,.int i 0]:=by
 cases k with
 |true=>obtain⟨o,e,c,d⟩:=(show h.IsListIter it a i from x);exact⟨o,e,.inl c,d⟩
 |false=>obtain⟨o,e,c,d⟩:=(show h.IsTupleIter it a i from x);exact⟨o,e,.inr c,d⟩
noncomputable def Jo(k:Bool):String:=if k=true then "list_iterator" else "tuple_iterator"
abbrev HY(h:Heap)(k1:Bool)(a:Addr):Heap:=h.push {cls:=.type (Jo k1),data:=.fields #[.ref a,.int 0 0]}
abbrev HX(h:Heap)(k1 k2:Bool)(a b:Addr):Heap:=(HY h k1 a).push {cls:=.type (Jo k2),data:=.fields #[.ref b,.int 0 0]}
abbrev Ij(h:Heap)(k1 k2:Bool)(a b:Addr):Heap:=(HX h k1 k2 a b).push {cls:=.type "tuple",data:=.seq #[.ref h.objs.size,.ref (HY h k1 a).objs.size]}
abbrev Io(h:Heap)(k1 k2:Bool)(a b:Addr):Heap:=(Ij h k1 k2 a b).push {cls:=.type "tuple",data:=.seq #[.none,.none]}
abbrev Fn(h:Heap)(k1 k2:Bool)(a b:Addr):Heap:=(Io h k1 k2 a b).push {cls:=.type "zip",data:=.fields #[.none,.bool false,.bool false,.ref (HX h k1 k2 a b).objs.size,.ref (Ij h k1 k2 a b).objs.size]}
theorem oB(x:h.IsTuple a items)(o:Obj):(h.push o).IsTuple a items:=by
 obtain⟨ob,e,r⟩:=x;exact⟨ob,Kv _ e,r⟩
theorem pO(k1 k2:Bool)(a b:Addr)(xs ys:Array Value):
  Meets (Builtin.«zip.__new__» ⟨[.type "zip",.ref a,.ref b],[]⟩) (fun _ R s=>i5 k1 s.heap a xs/\i5 k2 s.heap b ys /\
   R (.ok (.ret (.ref (Io s.heap k1 k2 a b).objs.size))) {s with heap:=Fn s.heap k1 k2 a b}):=
 .of_wp fun prog w A R s h=>by
  obtain⟨hp,g,d,tk,os⟩:=s;obtain⟨q1,q2,h⟩:=h;have hsub:=sub_zip
  cases k1 with
  |true =>
   have w1:Heap.IsList (Shared.heap ⟨hp,g,d,tk,os⟩) a xs:=q1
   cases k2 with
   |true =>
    have w2:Heap.IsList (Shared.heap ⟨hp.push {cls:=.type "list_iterator",data:=.fields #[.ref a,.int 0 0]},g,d,tk,os⟩) b ys:=Heap.IsList.push q2 _;wp_walk using LC w1,LC w2;exact⟨_,rfl,h⟩
   |false =>
    have w2:Heap.IsTuple (Shared.heap ⟨hp.push {cls:=.type "list_iterator",data:=.fields #[.ref a,.int 0 0]},g,d,tk,os⟩) b ys:=oB q2 _;wp_walk using LC w1,Lx w2;exact⟨_,rfl,h⟩
  |false =>
   have w1:Heap.IsTuple (Shared.heap ⟨hp,g,d,tk,os⟩) a xs:=q1
   cases k2 with
   |true =>
    have w2:Heap.IsList (Shared.heap ⟨hp.push {cls:=.type "tuple_iterator",data:=.fields #[.ref a,.int 0 0]},g,d,tk,os⟩) b ys:=Heap.IsList.push q2 _;wp_walk using Lx w1,LC w2;exact⟨_,rfl,h⟩
   |false =>
    have w2:Heap.IsTuple (Shared.heap ⟨hp.push {cls:=.type "tuple_iterator",data:=.fields #[.ref a,.int 0 0]},g,d,tk,os⟩) b ys:=oB q2 _;wp_walk using Lx w1,Lx w2;exact⟨_,rfl,h⟩
theorem C7{k:Bool}(e:h.get? it=some {cls:=.type (Jo k),data:=.fields #[.ref a,.int 0 0]}):iq k h it a 0:=by
 cases k with
 |true=>exact⟨_,e,rfl,rfl⟩
 |false=>exact⟨_,e,rfl,rfl⟩
section
variable {prog:Program} {w:World} {A:Around} {E:Value->Shared->Prop} {s:Shared}
theorem vj{k1 k2:Bool}{xs ys:Array Value}(h1:i5 k1 s.heap a xs)(h2:i5 k2 s.heap b ys)
  (h:∀ h',IsZip h' (s.heap.objs.size+4) (s.heap.objs.size+2) (s.heap.objs.size+3) .none->IsPair h' (s.heap.objs.size+2) (.ref s.heap.objs.size) (.ref (s.heap.objs.size+1))->IsPair h' (s.heap.objs.size+3) .none .none ->
   iq k1 h' s.heap.objs.size a 0->iq k2 h' (s.heap.objs.size+1) b 0->(∀ c o,s.heap.get? c=some o->h'.get? c=some o)->Q (.ref (s.heap.objs.size+4)) {s with heap:=h'}) :
  wpAny (model prog w) A (call (.type "zip") [.ref a,.ref b]) Q E s:=by
 refine callType_new F.called_zip (by decide) (F.typeCall_zip_2 _ _) (F.newCall_zip_2 _ _) (fun obj=>F.args_object_init_3 obj _ _) F.entry_zip_new (pO k1 k2 a b xs ys) ⟨h1,h2,?_⟩
 have e1:(HY s.heap k1 a).objs.size=s.heap.objs.size+1:=L3 ..;have e2:(HX s.heap k1 k2 a b).objs.size=s.heap.objs.size+2:=by rw[L3,e1]
 have e3:(Ij s.heap k1 k2 a b).objs.size=s.heap.objs.size+3:=by rw[L3,e2]
 have e4:(Io s.heap k1 k2 a b).objs.size=s.heap.objs.size+4:=by rw[L3,e3]
 have p5:(Fn s.heap k1 k2 a b).get? (Io s.heap k1 k2 a b).objs.size=some _:=K7 _ rfl;have p4:(Fn s.heap k1 k2 a b).get? (Ij s.heap k1 k2 a b).objs.size=some _:=Kv _ (K7 _ rfl);have p3:(Fn s.heap k1 k2 a b).get? (HX s.heap k1 k2 a b).objs.size=some _:=Kv _ (Kv _ (K7 _ rfl));have p2:(Fn s.heap k1 k2 a b).get? (HY s.heap k1 a).objs.size=some _:=Kv _ (Kv _ (Kv _ (K7 _ rfl)));have p1:(Fn s.heap k1 k2 a b).get? s.heap.objs.size=some _:=Kv _ (Kv _ (Kv _ (Kv _ (K7 _ rfl))));show _/\_;rw[e2,e3,e4] at p5;rw[e1,e2] at p3;rw[e3] at p4;rw[e1] at p2;rw[e4];exact⟨⟨_,p5,rfl⟩,h _ p5 p3 p4 (C7 p1) (C7 p2) fun c o x=>Kv _ (Kv _ (Kv _ (Kv _ (Kv _ x))))⟩
end
theorem uw{w:World}{tk:Nat}(k1 k2:Bool)(a b z TI TO i1 i2:Addr)(D:ZA z TI TO i1 i2 a b):
  Turn P w K (.Tuple es tk tp) (wR K k1 k2 a b) [z,TI,TO,i1,i2] z (fun i h=>IsZip h z TI TO .none/\IsPair h TI (.ref i1) (.ref i2)/\(∃ x y,IsPair h TO x y)/\iq k1 h i1 a i/\iq k2 h i2 b i) where
 mem:=by simp
 obj:=fun i h st c hc=>by
  obtain⟨s1,s2,⟨x,y,s3⟩,s4,s5⟩:=st;simp only[K4,KZ,LO] at hc;rcases hc with rfl|rfl|rfl|rfl|rfl
  ·exact⟨_,s1,fun v q=>by cases q⟩
  ·exact⟨_,s2,fun v q=>by cases q⟩
  ·exact⟨_,s3,fun v q=>by cases q⟩
  ·obtain⟨o,e,_,d⟩:=s4.ty;exact⟨o,e,fun v q=>by rw[d] at q;cases q⟩
  ·obtain⟨o,e,_,d⟩:=s5.ty;exact⟨o,e,fun v q=>by rw[d] at q;cases q⟩
 keep:=fun i h h' st k=>by
  obtain⟨s1,s2,⟨x,y,s3⟩,s4,s5⟩:=st;refine⟨k z (by simp) _ s1,k TI (by simp) _ s2,⟨x,y,k TO (by simp) _ s3⟩,?_,?_⟩
  ·cases k1 with
   |true=>obtain⟨o,e,r⟩:=(show h.IsListIter i1 a i from s4);exact⟨o,k i1 (by simp) o e,r⟩
   |false=>obtain⟨o,e,r⟩:=(show h.IsTupleIter i1 a i from s4);exact⟨o,k i1 (by simp) o e,r⟩
  ·cases k2 with
   |true=>obtain⟨o,e,r⟩:=(show h.IsListIter i2 b i from s5);exact⟨o,k i2 (by simp) o e,r⟩
   |false=>obtain⟨o,e,r⟩:=(show h.IsTupleIter i2 b i from s5);exact⟨o,k i2 (by simp) o e,r⟩
 item:=by
  intro X hP hw hK hc i pins s σ H E I hf st hg;subst hP hw hK;obtain⟨xs,ys,x,y,q1,q2,ex,ey⟩:=hg;obtain⟨s1,s2,⟨x0,y0,s3⟩,s4,s5⟩:=st;obtain⟨its1,rv1,p1⟩:=I.uX q1;obtain⟨its2,rv2,p2⟩:=I.uX q2;obtain⟨u1,hu1,ru1⟩:=rv1.get ex;obtain⟨u2,hu2,ru2⟩:=rv2.get ey;have lt1:i<its1.toArray.size:=by have:=(K8.mp hu1).1;simpa using this
  have lt2:i<its2.toArray.size:=by have:=(K8.mp hu2).1;simpa using this
  have hT:s.TypeIs (.ref z) "zip":=⟨_,s1,rfl⟩;have D1:=iQ (prog:=X.prog) (w:=X.w) (A:=X.A.in1) k1 (I.ok.hd hc) i1 a D.a8.2.2.1 its1.toArray;have D2:=iQ (prog:=X.prog) (w:=X.w) (A:=X.A.in1) k2 (I.ok.hd hc) i2 b D.a9.2.2.2 its2.toArray;unfold pyNext;refine Ku (Nu (Ls (name:=Str.ofString "__next__") hT PySem.F.slot_zip_next (L8 PySem.F.slot_zip_next hT PySem.F.entry_zip_next
   (uF D D1 D2 s1 s2 s3 ⟨s4,p1⟩ ⟨s5,p2⟩ lt1 lt2 fun v1 v2 h' tk' px py z1 t1 w1 w2 pr kp=>K1 ?_) (PySem.F.args_zip_next_1 _))))
  have fr:H s.heap.objs.size=none:=I.aD.fresh (K2 _);have ev1:v1=u1:=by rw[La,hu1] at px;exact (Option.some.inj px).symm
  have ev2:v2=u2:=by rw[La,hu2] at py;exact (Option.some.inj py).symm
  subst ev1 ev2;have lt:∀{c o},s.heap.get? c=some o->s.heap.objs.size≠c:=fun e=>Mo (KA e);refine⟨.ref s.heap.objs.size,rfl,wpAny_letOwnedTupleGo_zip z1 fun h2 z2 sb2=>?_⟩;have pr2:IsPair h2 s.heap.objs.size v1 v2:=sb2.extBut _ _ (lt s1) pr;have I2:Inv X pins σ (upd H s.heap.objs.size (.tup [x,y])) {s with heap:=h2,toks:=tk'}:=by
   refine I.rV (fp:=[z,TI,TO,i1,i2]) hf (K2 _) (fun c o hcm ec=>?_) ⟨by show 2<=sizeLine;decide,[v1,v2],.cons ru1 (.cons ru2 .nil),⟨_,pr2,rfl,_,rfl,rfl⟩⟩
   simp only[K4,KZ,LO,Oz] at hcm;exact sb2.extBut _ _ hcm.1 (kp c o hcm.1 hcm.2.2.1 hcm.2.2.2.1 hcm.2.2.2.2 ec)
  refine⟨.ref s.heap.objs.size,_,I2,rfl,⟨s.heap.objs.size,x,y,fun zs hz=>by rw[I.nQ hz q1];exact ex,fun zs hz=>by rw[I.nQ hz q2];exact ey,fr,rfl,rfl⟩,⟨z2,?_,⟨v1,v2,?_⟩,?_,?_⟩,fun c hcm=>?_⟩
  ·exact sb2.extBut _ _ D.a1 (kp _ _ D.a1 D.b1.1 D.b1.2.1 D.b1.2.2 s2)
  ·exact sb2.extBut _ _ D.a2 t1
  ·have:=D1.frame (i+1) h' h2 w1 fun c hcm o q=>sb2.extBut _ _ (D.f1 (.inl rfl) c hcm) q;exact this.1
  ·have:=D2.frame (i+1) h' h2 w2 fun c hcm o q=>sb2.extBut _ _ (D.f2 (.inl rfl) c hcm) q;exact this.1
  ·have hn:=(hf c hcm).1;rw[ab]
   ·exact hn
   ·simp only[K4,KZ,LO] at hcm;rcases hcm with rfl|rfl|rfl|rfl|rfl
    ·exact (lt s1).symm
    ·exact (lt s2).symm
    ·exact (lt s3).symm
    ·obtain⟨o,e,_⟩:=s4.ty;exact (lt e).symm
    ·obtain⟨o,e,_⟩:=s5.ty;exact (lt e).symm
 done:=by
  intro X hP hw hK hc i pins s σ H E I hf st hg;subst hP hw hK;obtain⟨xs,ys,q1,q2,hi⟩:=hg;obtain⟨s1,s2,⟨x0,y0,s3⟩,s4,s5⟩:=st;obtain⟨its1,rv1,p1⟩:=I.uX q1;obtain⟨its2,rv2,p2⟩:=I.uX q2;have n1:its1.toArray.size=xs.length:=by rw[Ky];exact rv1.length.symm
  have n2:its2.toArray.size=ys.length:=by rw[Ky];exact rv2.length.symm
  have hT:s.TypeIs (.ref z) "zip":=⟨_,s1,rfl⟩;have D1:=iQ (prog:=X.prog) (w:=X.w) (A:=X.A.in1) k1 (I.ok.hd hc) i1 a D.a8.2.2.1 its1.toArray;have D2:=iQ (prog:=X.prog) (w:=X.w) (A:=X.A.in1) k2 (I.ok.hd hc) i2 b D.a9.2.2.2 its2.toArray;unfold pyNext;refine Ku (Nu (Ls (name:=Str.ofString "__next__") hT PySem.F.slot_zip_next (L8 PySem.F.slot_zip_next hT PySem.F.entry_zip_next
   (w6 D D1 D2 s1 s2 s3 ⟨s4,p1⟩ ⟨s5,p2⟩ (by rw[n1,n2];lia) fun h' e tk' kp he=>?_) (PySem.F.args_zip_next_1 _))))
  obtain⟨o,ho,hcl⟩:=he;refine Ku (wpAny_isInstance (T:="StopIteration") (b:=true) ⟨o,ho,hcl⟩ isSubtype_stop (K1 ⟨rfl,?_⟩));refine I.turns (t':=tk') hf fun c o hcm ec=>?_;simp only[K4,KZ,LO,Oz] at hcm;exact kp c o hcm.1 hcm.2.2.1 hcm.2.2.2.1 hcm.2.2.2.2 ec
 self:=fun A i s Q E st h=>wpAny_pyIter_zip st.1 h
section
variable {X:Cx} {es:List Expr} {tk:Nat} {tp:Pos}
noncomputable def oV(K:Pq)(ta:TA):TI:=fun σ H R=>ta σ H fun vs H1=>∃ a b k1 k2,vs=[.ref a,.ref b]/\(∃ xs,mE K k1 H1 a xs)/\(∃ ys,mE K k2 H1 b ys)/\R (wR K k1 k2 a b) H1
theorem rf{e1 e2:Expr}{p:Pos}(hg:Gl X "zip")(hm:X.mg "zip"=none)(ha:PA X [e1,e2] ta)(h1:autoParam (cK e1=true) ℜ0)(h2:autoParam (cK e2=true) ℜ0)(hv:autoParam (bootBuiltins "zip"=some (.type "zip")) ℜ6):
  PI X (.Tuple es tk tp) (.Call (.Name "zip" p) [e1,e2] [] pos) (oV X.K ta):=by
 intro pins s σ H R I h;refine Call_ (eR I hg hm hv (LP (bo (ha pos pins s σ H _ I h) fun us s1 ⟨vs,H1,I1,r1,q1⟩=>?_) (by rw[cf h1,cf h2]) (by rw[cf h2];rfl)))
 obtain⟨a,b,k1,k2,e,⟨xs,hx⟩,⟨ys,hy⟩,q⟩:=q1;subst e;obtain⟨u,w',rfl,ru,rw'⟩:=vals2 r1
 cases ru;cases rw'
 obtain⟨its1,rv1,p1⟩:=I1.uX hx;obtain⟨its2,rv2,p2⟩:=I1.uX hy;obtain⟨o1,eo1,_⟩:=p1.ty;obtain⟨o2,eo2,_⟩:=p2.ty;have l1:a<s1.heap.objs.size:=KA eo1;have l2:b<s1.heap.objs.size:=KA eo2;refine vj p1 p2 fun h' z1 z2 z3 z4 z5 kp=>wpAny_pyIter_zip z1 ?_;have I2:Inv X pins σ H1 {s1 with heap:=h'}:=I1.kept (t':=s1.toks) kp
 have ne:∀(m n c:Nat),m≠n->c+m≠c+n:=fun m n c h=>by lia
 have nl:∀(x c m:Nat),x<c->x≠c+m:=fun x c m h=>by lia
 have D:ZA (s1.heap.objs.size+4) (s1.heap.objs.size+2) (s1.heap.objs.size+3) s1.heap.objs.size (s1.heap.objs.size+1) a b:=
  ⟨ne 2 4 _ (by decide),ne 3 4 _ (by decide),ne 0 4 _ (by decide),ne 1 4 _ (by decide),ne 3 0 _ (by decide),ne 3 1 _ (by decide),ne 0 1 _ (by decide),⟨nl _ _ 4 l1,nl _ _ 3 l1,nl _ _ 0 l1,nl _ _ 1 l1⟩,⟨nl _ _ 4 l2,nl _ _ 3 l2,nl _ _ 0 l2,nl _ _ 1 l2⟩,ne 2 3 _ (by decide),ne 2 0 _ (by decide),ne 2 1 _ (by decide)⟩
 refine⟨s1.heap.objs.size+4,[s1.heap.objs.size+4,s1.heap.objs.size+2,s1.heap.objs.size+3,s1.heap.objs.size,s1.heap.objs.size+1],_,_,H1,rfl,I2,uw k1 k2 a b _ _ _ _ _ D,⟨z1,z2,⟨_,_,z3⟩,z4,z5⟩,fun c hc=>?_,q⟩;have hc':s1.heap.objs.size<=c:=by
  simp only[K4,KZ,LO] at hc;rcases hc with rfl|rfl|rfl|rfl|rfl
  ·exact Ny _ _
  ·exact Ny _ _
  ·exact Ny _ _
  ·exact K2 _
  ·exact Ny _ _
 exact I1.pj hc' (I1.aD.fresh hc')
end
noncomputable def km(ts us:List T):List T:=List.zipWith (fun t u=>.tup [t,u]) ts us
noncomputable def pI:T->Option (List T)
 |.lst ts=>some ts
 |.tup ts=>some ts
 |.dW ts=>some ts
 |.dN ts=>some ts
 |_=>none
noncomputable def kdOf:T->Bool
 |.lst _=>true
 |.dW _=>true
 |_=>false
theorem Vw.sq{v:V}{t:T}(h:Vw K H B v t)(e:pI t=some ts):∃ a vs,v=.ref a/\mE K (kdOf t) H a vs/\ai K H B vs ts:=by
 cases h with
 |aM=>cases e
 |bl=>cases e
 |int=>cases e
 |str=>cases e
 |gw=>cases e
 |mH=>cases e
 |exc=>cases e
 |Au=>cases e
 |il=>cases e
 |tup h r=>cases e;exact⟨_,_,rfl,aW.of h,r⟩
 |dN h r=>cases e;exact⟨_,_,rfl,.inr h,r⟩
 |lst h r=>cases e;exact⟨_,_,rfl,bz.of h,r⟩
 |dW h r=>cases e;exact⟨_,_,rfl,h,r⟩
theorem Df{k1 k2:Bool}:jZ K (wR K k1 k2 a b) (fun H B=>(∃ vs,mE K k1 H a vs/\ai K H B vs ts)/\∃ ws,mE K k2 H b ws/\ai K H B ws us) (km ts us):=by
 refine⟨fun H B i t hb ⟨⟨vs,h1,r1⟩,ws,h2,r2⟩ e=>?_,fun H B ⟨⟨vs,h1,r1⟩,ws,h2,r2⟩=>⟨vs,ws,h1,h2,by rw[r1.length,r2.length];simp[km]⟩⟩
 unfold km at e;rw[List.getElem?_zipWith] at e
 cases e1:ts[i]? with
 |none=>rw[e1] at e;cases e
 |some t1=>cases e2:us[i]? with
  |none=>rw[e1,e2] at e;cases e
  |some t2 =>
   rw[e1,e2] at e;have e':T.tup [t1,t2]=t:=Option.some.inj e;subst e';obtain⟨v1,g1,rv1⟩:=r1.get e1;obtain⟨v2,g2,rv2⟩:=r2.get e2;refine⟨⟨vs,ws,v1,v2,h1,h2,g1,g2⟩,fun x H2 y=>?_⟩;obtain⟨p,x',y',hx,hy,hp,rfl,rfl⟩:=y;have z1:=hx vs h1;have z2:=hy ws h2;rw[g1] at z1;rw[g2] at z2
   cases z1;cases z2
   have fs:Fr B H B (upd H p (.tup [v1,v2])):=Fr.same (bQ.new hp);refine⟨bQ.new hp,.tup (fun z=>?_) ae (.cons (rv1.fr fs) (.cons (rv2.fr fs) .nil))⟩;obtain⟨o,q⟩:=hb p z;rw[hp] at q;cases q
namespace Y
section
variable {X:Cx} {e1 e2:Expr} {es:List Expr} {us:UA} {pos p tp:Pos} {k:Nat}
noncomputable def iZ(us:UA):UI:=fun μ Rt=>us μ fun rs μ'=>match rs with
 |[.tr t1,.tr t2]=>(match pI t1,pI t2 with
  |some ts,some vs=>Rt (km ts vs) none μ'
  |_,_=>False)
 |_=>False
theorem zip(K:Pq)(hK:X.K=K)(hg:Gl X "zip")(hm:X.mg "zip"=none)(ha:YA X [e1,e2] us)(h1:autoParam (cK e1=true) ℜ0)(h2:autoParam (cK e2=true) ℜ0):YI X (.Tuple es k tp) (.Call (.Name "zip" p) [e1,e2] [] pos) (iZ us):=by
 obtain⟨t,q,r⟩:=ha;subst hK;refine⟨_,⟨rf hg hm q.h h1 h2⟩,fun F ad B σ H μ R Rt hF l q k=>r F ad B σ H μ _ _ hF l q fun vs H' rs μ' l1 ps f k1 q1=>?_⟩
 split at q1
 ·rename_i t1 t2;obtain⟨_,_,rfl,h1,ps⟩:=Paired.bW ps;obtain⟨_,_,rfl,h2,ps⟩:=Paired.bW ps;obtain rfl:=Paired.jv ps;have r1:=bL h1;have r2:=bL h2
  split at q1
  ·rename_i ts us e1 e2;obtain⟨a,vs,rfl,s1,_⟩:=Vw.sq r1.vw e1;obtain⟨b,ws,rfl,s2,_⟩:=Vw.sq r2.vw e2;rw[hF] at s1 s2;refine⟨a,b,kdOf t1,kdOf t2,rfl,⟨vs,s1⟩,⟨ws,s2⟩,k _ H' μ' _ none (fun H B=>Rep F.K H B (.ref a) t1/\Rep F.K H B (.ref b) t2) l1 f k1 (Df.imp fun H B h=>?_) ⟨r1,r2⟩ (fun B1 H1 B2 H2 f h=>⟨h.1.fr f,h.2.fr f⟩) (fun j ls z=>by cases z) q1⟩
   obtain⟨g1,g2⟩:=h;obtain⟨a',vs',ea,sa,ra⟩:=Vw.sq g1.vw e1;obtain⟨b',ws',eb,sb,rb⟩:=Vw.sq g2.vw e2
   cases ea;cases eb
   rw[hF] at sa sb ra rb;exact⟨⟨vs',sa,ra⟩,ws',sb,rb⟩
  ·exact q1.elim
 ·exact q1.elim
end
end Y
theorem Bb{ps:List Str}(F:iM K x x st fa fd)(S:ar N ps (aa st))(md:List Bool)(hm:md.length=ps.length)(hN:md.length<=N.length)
  (hbody:∀(args:List T) (Qt:R->List T->Prop),args.length=ps.length->tsp args Qt->∀(cdv:Value) (A:Around) (outer:List Env) (s:Shared) (H:Hp) (E:XK),ba k (A.deeper (envOfC x (aa st) s.heap.objs.size fa cdv)) ->
   ∃ us,YB (eE aV P w K mg base N x (aa st) fa cdv A outer s H E).mD (aC st) us/\us (yS md Qt) (startM md args N.length)):bD P w K mg base aV (k+1) fa fd ps (spT K md tsp):=
 mV F S md hm hN fun args Qt hl h cdv A outer s H E hr _=>hbody args Qt hl h cdv A outer s H E hr
namespace Y
section
variable {X:Cx} {es:List Expr} {pos:Pos} {x:Str}
theorem wX{t:T}(hg:Gl X x)(h:∃ w u,X.mg x=some u/\RelV w u/\∀ H B,Rep X.K H B w t)(hd:autoParam ((x ==("__debug__":Str))=false) ℜ1):YE X (.Name x pos) (uC t):=by
 obtain⟨w,u,hm,r,h⟩:=h;exact glob hg hm r h hd
noncomputable def rP:List V->Option (List T)
 |[]=>some []
 |v::vs=>match x_ v,rP vs with
  |some t,some ts=>some (t::ts)
  |_,_=>none
theorem kO:∀{vs:List V} {ts:List T},rP vs=some ts->vs.map x_=ts.map some
 |[],ts,h=>by cases h;rfl
 |v::vs,ts,h=>by
  unfold rP at h
  split at h
  ·rename_i t us e1 e2;cases h;rw[KN,KN,e1,kO e2]
  ·cases h
theorem eF{vs:List V}(h:kL es=some vs)(h2:rP vs=some ts):YA X es (uK ts):=consts h (kO h2)
end
end Y
noncomputable def k_(o:Option (Prop×R))(Q:R->Prop):Prop:=match o with
 |some (C,r)=>C/\Q r
 |none=>False
noncomputable def FV(o:Option (List T×Option (Nat×List T)))(Q:List T->Option (Nat×List T)->Prop):Prop:=match o with
 |some (ts,g)=>Q ts g
 |none=>False
noncomputable def nb:Option Sl->Prop
 |some (.pb _)=>False
 |_=>True
noncomputable def sl:Option T->Sl
 |none=>.un
 |some t=>.tr t
noncomputable def Dw(o:Option Sl)(i:Nat):Option (Prop×R):=match o with
 |some (.tr t)=>some (True,.tr t)
 |some (.bx _)=>some (True,.br i)
 |some (.pb _)=>some (True,.br i)
 |_=>none
noncomputable def v_:R->Option Bool
 |.tr (.bl b)=>some b
 |.tr (.int i)=>some (i != 0)
 |_=>none
noncomputable def En(a b:Option T):Option (Prop×R):=match a,b with
 |some (.int i),some (.int j)=>some (True,.tr (.int (i+j)))
 |some (.str i),some (.str j)=>some (i.length+j.length<=sizeLine,.tr (.str (i++j)))
 |some (.lst xs),some (.lst ys)=>some (xs.length+ys.length<=sizeLine,.fr (.lst (xs++ys)))
 |some (.tup xs),some (.tup ys)=>some (xs.length+ys.length<=sizeLine,.tr (.tup (xs++ys)))
 |_,_=>none
noncomputable def oT(o:Option T):Option (Prop×R):=match o with
 |some t=>some (True,.tr t)
 |none=>none
noncomputable def Jn(a b:Option T):Option (Prop×R):=match a,b with
 |some (.lst xs),some (.int i)=>oT (bC xs i)
 |some (.tup xs),some (.int i)=>oT (bC xs i)
 |some (.dN xs),some (.int i)=>oT (bC xs i)
 |some (.str z),some (.int i)=>(match bC z.cps.toList i with|some c=>some (z.length<=sizeLine,.tr (.str ⟨#[c]⟩))|none=>none)
 |_,_=>none
noncomputable def Gw(a:T):Option (Prop×R):=match a with
 |.lst xs=>some (True,.tr (.int xs.length))
 |.tup xs=>some (True,.tr (.int xs.length))
 |.dW xs=>some (True,.tr (.int xs.length))
 |.dN xs=>some (True,.tr (.int xs.length))
 |.str z=>some (z.length<=sizeLine,.tr (.int z.length))
 |_=>none
noncomputable def qk(a:Option T):Option (Prop×R):=match a with
 |some (.lst xs)=>some (True,.tr (.tup xs))
 |some (.tup xs)=>some (True,.tr (.tup xs))
 |_=>none
noncomputable def wZ(a:T):Option (Prop×R):=match a with
 |.lst xs=>some (True,.fr (.lst xs))
 |.tup xs=>some (True,.fr (.lst xs))
 |.dW xs=>some (True,.fr (.lst xs))
 |.gw lo hi=>some ((hi-lo).toNat<=65536/\-(2^62)<=lo/\lo<2^62/\-(2^62)<=hi/\hi<2^62,.fr (.lst ((List.range (hi-lo).toNat).map fun k=>T.int (lo+(k:Nat)))))
 |_=>none
noncomputable def zv(a:Option T):Option (List T):=match a with
 |some (.tup ts)=>some ts
 |some (.lst ts)=>some ts
 |_=>none
noncomputable def Ep(r:R)(μ:Mu):Option (List T×Option (Nat×List T)):=match r with
 |.br j=>(match cont μ (.br j) with|some (.lst ts)=>some (ts,some (j,ts))|_=>none)
 |.tr (.lst ts)=>some (ts,none)
 |.fr (.lst ts)=>some (ts,none)
 |.tr (.tup ts)=>some (ts,none)
 |.tr (.dW ts)=>some (ts,none)
 |.tr (.dN ts)=>some (ts,none)
 |_=>none
namespace A
open Y
theorem uC(t:T)(μ:Mu)(Q:R->Mu->Prop):Y.uC t μ Q=Q (.tr t) μ:=rfl
theorem mf(i:Nat)(μ:Mu)(Q:R->Mu->Prop):Y.mf i μ Q=k_ (Dw μ[i]? i) fun r=>Q r μ:=by
 unfold Y.mf Dw
 cases μ[i]? with
 |none=>rfl
 |some s=>cases s<;>exact propext ⟨fun h=>by first|exact h|exact⟨trivial,h⟩,fun h=>by first|exact h|exact h.2⟩
theorem mL(ue:UE)(μ:Mu)(Q:Bool->Mu->Prop):Y.mL ue μ Q=ue μ fun r μ'=>match r with|.tr (.bl b)=>Q b μ'|_=>False:=rfl
theorem Ac(ut:UT)(μ:Mu)(Q:Bool->Mu->Prop):Y.Ac ut μ Q=ut μ fun b μ'=>Q (!b) μ':=rfl
theorem zr(u w:UT)(μ:Mu)(Q:Bool->Mu->Prop):Y.zr u w μ Q=u μ fun b μ'=>if b=true then w μ' Q else Q false μ':=rfl
theorem FA(u w:UT)(μ:Mu)(Q:Bool->Mu->Prop):Y.FA u w μ Q=u μ fun b μ'=>if b=true then Q true μ' else w μ' Q:=rfl
theorem nF(ue:UE)(μ:Mu)(Q:Bool->Mu->Prop):Y.nF ue μ Q=ue μ fun r μ'=>match v_ r with|some b=>Q b μ'|none=>False:=by
 unfold Y.nF v_;congr 1
 funext r μ'
 cases r with
 |tr t=>cases t<;>rfl
 |br i=>rfl
 |fr c=>rfl
theorem t9(ue:UE)(μ:Mu)(Q:R->Mu->Prop):Y.t9 ue μ Q=ue μ fun r μ'=>match r with|.tr (.bl b)=>Q (.tr (.bl (!b))) μ'|_=>False:=rfl
theorem rT(ua ub:UE)(μ:Mu)(Q:R->Mu->Prop):Y.rT ua ub μ Q=ua μ fun r μ'=>match r with|.tr (.bl true)=>ub μ' Q|.tr (.bl false)=>Q (.tr (.bl false)) μ'|_=>False:=rfl
theorem H_(uc:UT)(ua ub:UE)(μ:Mu)(Q:R->Mu->Prop):Y.H_ uc ua ub μ Q=uc μ fun b μ'=>if b=true then ua μ' Q else ub μ' Q:=rfl
theorem BG(ue:UE)(μ:Mu)(Q:R->Mu->Prop):Y.BG ue μ Q=ue μ fun r μ'=>match r with|.tr (.int i)=>Q (.tr (.int (-i))) μ'|_=>False:=rfl
theorem zQ(μ:Mu)(Q:List R->Mu->Prop):Y.zQ μ Q=Q [] μ:=rfl
theorem uK(ts:List T)(μ:Mu)(Q:List R->Mu->Prop):Y.uK ts μ Q=Q (ts.map R.tr) μ:=rfl
theorem AQ(us:UA)(μ:Mu)(Q:R->Mu->Prop):Y.AQ us μ Q=us μ fun rs μ'=>match trees rs with|some ts=>ts.length<=sizeLine/\Q (.tr (.tup ts)) μ'|none=>False:=rfl
theorem BD(us:UA)(μ:Mu)(Q:R->Mu->Prop):Y.BD us μ Q=us μ fun rs μ'=>match trees rs with|some ts=>ts.length<=sizeLine/\Q (.fr (.lst ts)) μ'|none=>False:=rfl
theorem BS(u:UC)(us:UA)(μ:Mu)(Q:R->Mu->Prop):Y.BS u us μ Q=us μ fun rs μ'=>u rs μ' Q:=rfl
theorem iP(μ:Mu)(Q:Option Int->Mu->Prop):Y.iP μ Q=Q none μ:=rfl
theorem qW(ue:UE)(μ:Mu)(Q:Option Int->Mu->Prop):Y.qW ue μ Q=ue μ fun r μ'=>match r with|.tr (.int i)=>Q (some i) μ'|_=>False:=rfl
theorem yV(f:T->T->Mu->(R->Mu->Prop)->Prop)(r1 r2:R)(μ:Mu)(Q:R->Mu->Prop):Y.yV f r1 r2 μ Q=(match cont μ r1,cont μ r2 with|some t,some u=>f t u μ Q|_,_=>False):=rfl
theorem GC(C:Int->Int->Prop)(g:Int->Int->Int)(i j:Int)(μ:Mu)(Q:R->Mu->Prop):vV C g (.int i) (.int j) μ Q=(C i j/\Q (.tr (.int (g i j))) μ):=rfl
theorem IU(g:Int->Int->Bool)(i j:Int)(μ:Mu)(Q:R->Mu->Prop):Jh g (.int i) (.int j) μ Q=Q (.tr (.bl (g i j))) μ:=rfl
theorem gJ(r1 r2:R)(μ:Mu)(Q:R->Mu->Prop):Y.gJ r1 r2 μ Q=k_ (En (cont μ r1) (cont μ r2)) fun r=>Q r μ:=by
 unfold Y.gJ En
 cases cont μ r1 with
 |none=>rfl
 |some t=>cases cont μ r2 with
  |none=>cases t<;>rfl
  |some u=>cases t<;>cases u<;>first|rfl|exact propext ⟨fun h=>⟨trivial,h⟩,fun h=>h.2⟩
theorem pw(r1 r2:R)(μ:Mu)(Q:R->Mu->Prop):Y.pw r1 r2 μ Q=k_ (Jn (cont μ r1) (cont μ r2)) fun r=>Q r μ:=by
 unfold Y.pw Jn;have e:∀(xs:List T) (i:Int),(match bC xs i with|some t=>Q (.tr t) μ|none=>False)=k_ (oT (bC xs i)) fun r=>Q r μ:=fun xs i=>by
  cases bC xs i with
  |none=>rfl
  |some t=>exact propext ⟨fun h=>⟨trivial,h⟩,fun h=>h.2⟩
 cases cont μ r1 with
 |none=>rfl
 |some t=>cases cont μ r2 with
  |none=>cases t<;>rfl
  |some u =>
   cases t<;>cases u<;>first|rfl|exact e _ _|skip
   rename_i z i;show (z.length<=sizeLine/\(match bC z.cps.toList i with|some c=>Q (.tr (.str ⟨#[c]⟩)) μ|none=>False))=k_ (match bC z.cps.toList i with|some c=>some (z.length<=sizeLine,.tr (.str ⟨#[c]⟩))|none=>none) fun r=>Q r μ
   cases bC z.cps.toList i with
   |none=>exact propext ⟨fun h=>h.2,fun h=>h.elim⟩
   |some c=>rfl
theorem FD(neg:Bool)(i j:Int)(μ:Mu)(Q:R->Mu->Prop):Y.Hq neg (.int i) (.int j) μ Q=Q (.tr (.bl (if neg then !decide (i=j) else decide (i=j)))) μ:=rfl
theorem IY(neg:Bool)(i j:Str)(μ:Mu)(Q:R->Mu->Prop):Y.Hq neg (.str i) (.str j) μ Q=Q (.tr (.bl (if neg then !decide (i=j) else decide (i=j)))) μ:=rfl
theorem Ji(neg:Bool)(xs ys:List T)(μ:Mu)(Q:R->Mu->Prop):Y.Hq neg (.lst xs) (.lst ys) μ Q=(neg=false/\xs.all aK=true/\ys.all aK=true/\Q (.tr (.bl (nS xs ys))) μ):=rfl
theorem qw(f:T->Mu->(R->Mu->Prop)->Prop)(r:R)(μ:Mu)(Q:R->Mu->Prop):Y.qw f [r] μ Q=(match cont μ r with|some t=>f t μ Q|none=>False):=rfl
theorem ou(t:T)(μ:Mu)(Q:R->Mu->Prop):Y.ou t μ Q=k_ (Gw t) fun r=>Q r μ:=by
 cases t<;>first|rfl|exact propext ⟨fun h=>⟨trivial,h⟩,fun h=>h.2⟩
theorem dP(r:R)(μ:Mu)(Q:R->Mu->Prop):Y.dP [r] μ Q=k_ (qk (cont μ r)) fun r=>Q r μ:=by
 show (match cont μ r with|some (.lst xs)=>Q (.tr (.tup xs)) μ|some (.tup xs)=>Q (.tr (.tup xs)) μ|_=>False)=_
 unfold qk
 cases cont μ r with
 |none=>rfl
 |some t=>cases t<;>first|rfl|exact propext ⟨fun h=>⟨trivial,h⟩,fun h=>h.2⟩
theorem mM(t:T)(μ:Mu)(Q:R->Mu->Prop):Y.mM t μ Q=k_ (wZ t) fun r=>Q r μ:=by
 cases t<;>first|rfl|exact propext ⟨fun h=>⟨trivial,h⟩,fun h=>h.2⟩|exact propext ⟨fun h=>⟨⟨h.1,h.2.1,h.2.2.1,h.2.2.2.1,h.2.2.2.2.1⟩,h.2.2.2.2.2⟩,fun h=>⟨h.1.1,h.1.2.1,h.1.2.2.1,h.1.2.2.2.1,h.1.2.2.2.2,h.2⟩⟩
theorem D0(g:Int->Int->Int)(i j:Int)(μ:Mu)(Q:R->Mu->Prop):Y.D0 g [.tr (.int i),.tr (.int j)] μ Q=Q (.tr (.int (g i j))) μ:=rfl
theorem FN(k:Bool)(μ:Mu)(Q:R->Mu->Prop):Y.xH [.tr (.bl k)] μ Q=Q (.tr (.int (if k=true then 1 else 0))) μ:=rfl
theorem o8(ue:UE)(c:String)(μ:Mu)(Q:R->Mu->Prop):Y.o8 ue c μ Q=ue μ fun r μ'=>match cont μ' r with|some t=>(match Aa t c with|some b=>Q (.tr (.bl b)) μ'|none=>False)|none=>False:=rfl
theorem jO(ue:UE)(g:UG)(E:Ed)(μ:Mu):Y.jO ue g E μ=ue μ fun r μ'=>g r μ' E.nx:=rfl
theorem Ko(i:Nat)(t:T)(μ:Mu)(Q:Mu->Prop):Y.gN i (.tr t) μ Q=(vo μ i/\Q (μ.set i (.tr t))):=rfl
theorem J_(i:Nat)(t:T)(μ:Mu)(Q:Mu->Prop):Y.gN i (.fr t) μ Q=(vo μ i/\Q (μ.set i (.bx t))):=rfl
theorem vo(μ:Mu)(i:Nat):Y.vo μ i=nb μ[i]?:=rfl
theorem G6(t:T):nb (some (.tr t))=True:=rfl
theorem Gr(t:T):nb (some (.bx t))=True:=rfl
theorem HF:nb (some .un)=True:=rfl
theorem FJ(o:Option T):nb (some (sl o))=True:=by cases o<;>rfl
theorem gT(n:Nat)(gs:sL)(r:R)(μ:Mu)(Q:Mu->Prop):Y.gT n gs r μ Q=(match zv (cont μ r.d) with|some ts=>ts.length=n/\gs ts μ Q|none=>False):=by
 unfold Y.gT zv
 cases cont μ r.d with
 |none=>rfl
 |some t=>cases t<;>rfl
theorem Iu(g:UG)(gs:sL)(t:T)(ts:List T)(μ:Mu)(Q:Mu->Prop):Y.Iu g gs (t::ts) μ Q=g (.tr t) μ fun μ'=>gs ts μ' Q:=rfl
theorem Ib(μ:Mu)(Q:Mu->Prop):Y.Ib [] μ Q=Q μ:=rfl
theorem gS(uo ui:UE)(t:T)(μ:Mu)(Q:Mu->Prop):Y.gS uo ui (.tr t) μ Q=uo μ fun ro μ1=>ui μ1 fun ri μ2=>(match ro,ri with
  |.br j,.tr (.int k)=>(match (μ2[j]?).bind Sl.box with
   |some (.lst ts)=>(match jT ts.length k with
    |some n=>Q (df μ2 j (.lst (ts.set n t)))
    |none=>False)
   |_=>False)
  |_,_=>False):=rfl
theorem BK(ue:UE)(E:Ed)(μ:Mu):Y.BK ue E μ=ue μ E.rt:=rfl
theorem rk(ue:UE)(E:Ed)(μ:Mu):Y.rk ue E μ=ue μ fun _ μ'=>E.nx μ':=rfl
theorem yN(c:UT)(u w:US)(E:Ed)(μ:Mu):Y.yN c u w E μ=c μ fun b μ'=>if b=true then u E μ' else w E μ':=rfl
theorem Cz(ue:UE)(μ:Mu)(Rt:List T->Option (Nat×List T)->Mu->Prop):Y.Cz ue μ Rt=ue μ fun r μ'=>FV (Ep r μ') fun ts g=>Rt ts g μ':=by
 unfold Y.Cz Ep;congr 1
 funext r μ'
 cases r with
 |tr t=>cases t<;>rfl
 |br j =>
  show (match cont μ' (.br j) with|some (.lst ts)=>Rt ts (some (j,ts)) μ'|_=>False)=FV (match cont μ' (.br j) with|some (.lst ts)=>some (ts,some (j,ts))|_=>none) fun ts g=>Rt ts g μ'
  cases cont μ' (.br j) with
  |none=>rfl
  |some t=>cases t<;>rfl
 |fr c=>cases c<;>rfl
theorem Im(us:UA)(μ:Mu)(Rt:List T->Option (Nat×List T)->Mu->Prop):Y.Im us μ Rt=us μ fun rs μ'=>match rs with
 |[.tr (.int j)]=>-(2^62)<=j/\j<2^62/\Rt ((List.range j.toNat).map fun k=>T.int (0+(k:Nat))) none μ'
 |_=>False:=rfl
theorem HU(us:UA)(μ:Mu)(Rt:List T->Option (Nat×List T)->Mu->Prop):Y.HU us μ Rt=us μ fun rs μ'=>match rs with
 |[.tr (.int i),.tr (.int j)]=>(-(2^62)<=i/\i<2^62/\-(2^62)<=j/\j<2^62)/\Rt ((List.range (j-i).toNat).map fun k=>T.int (i+(k:Nat))) none μ'
 |_=>False:=rfl
theorem HZ(us:UA)(μ:Mu)(Rt:List T->Option (Nat×List T)->Mu->Prop):Y.HZ us μ Rt=us μ fun rs μ'=>match rs with |[.tr (.tup ts)]=>Rt (pairs ts) none μ'|_=>False:=rfl
theorem iZ(us:UA)(μ:Mu)(Rt:List T->Option (Nat×List T)->Mu->Prop):Y.iZ us μ Rt=us μ fun rs μ'=>match rs with
 |[.tr t1,.tr t2]=>(match pI t1,pI t2 with|some ts,some vs=>Rt (km ts vs) none μ'|_,_=>False)
 |_=>False:=rfl
theorem wo(ui:UI)(g:UG)(body:US)(E:Ed)(μ:Mu):Y.wo ui g body E μ=ui μ fun items gd μ'=>match gd with
 |none=>fv g body E items μ'
 |some (j,_)=>(match μ'[j]? with
  |some (.bx c)=>fv g body E items (μ'.set j (.tr c))
  |_=>False):=rfl
theorem i4(own:T->Mu->Option Mu)(dr:Mu->Mu)(ui:UI)(ut:UT)(ue:UE)(μ:Mu)(Q:R->Mu->Prop):Y.i4 own dr ui ut ue μ Q=ui μ fun items gd μ'=>pP gd own dr ut ue Q items [] μ':=rfl
theorem HS(um:UM)(uo:UE)(us:UA)(μ:Mu)(Q:R->Mu->Prop):Y.HS um uo us μ Q=uo μ fun ro μ1=>match ro with|.br j=>Y.Ip ((μ1[j]?).bind Sl.box) (us μ1 fun rs μ2=>um j rs μ2 Q)|_=>False:=rfl
theorem gy(j:Nat)(t:T)(μ:Mu)(Q:R->Mu->Prop):Y.gy j [.tr t] μ Q=(match (μ[j]?).bind Sl.box with|some (.lst ts)=>ts.length<sizeLine/\Q (.tr .aM) (df μ j (.lst (ts++[t])))|_=>False):=rfl
theorem Ha(md:List Bool)(tsp:eZ)(us:UA)(μ:Mu)(Q:R->Mu->Prop):Y.Ha md tsp us μ Q=us μ fun rs μ1=>match C5 μ1 md rs with
 |some args=>(oi md rs).Nodup/\(∀ j∈oi md rs,j∉qF md rs)/\tsp args fun r outs=>(qF md rs=[]\/(kK r=true/\outs.all mX=true))/\Q r (putAll (oi md rs) outs μ1)
 |none=>False:=rfl
theorem Kc(ts:List T):pI (.lst ts)=some ts:=rfl
theorem Km(ts:List T):pI (.tup ts)=some ts:=rfl
noncomputable def Jm:Option T->Nat->Option (List T×Option (Nat×List T))
 |some (.lst ts),j=>some (ts,some (j,ts))
 |_,_=>none
theorem Ja(xs:List T):qk (some (.lst xs))=some (True,.tr (.tup xs)):=rfl
theorem JI(xs:List T):wZ (.lst xs)=some (True,.fr (.lst xs)):=rfl
theorem IT(xs:List T):wZ (.tup xs)=some (True,.fr (.lst xs)):=rfl
theorem Jv(xs:List T):zv (some (.tup xs))=some xs:=rfl
theorem GY(ts:List T)(μ:Mu):Ep (.fr (.lst ts)) μ=some (ts,none):=rfl
theorem HE(ts:List T)(μ:Mu):Ep (.tr (.tup ts)) μ=some (ts,none):=rfl
theorem G2(j:Nat)(μ:Mu):Ep (.br j) μ=Jm (cont μ (.br j)) j:=by
 show (match cont μ (.br j) with|some (.lst ts)=>some (ts,some (j,ts))|_=>none)=_
 unfold Jm
 cases cont μ (.br j) with
 |none=>rfl
 |some t=>cases t<;>rfl
theorem Ga(ts:List T)(j:Nat):Jm (some (.lst ts)) j=some (ts,some (j,ts)):=rfl
theorem IZ(μ:Mu)(t:T):cont μ (.tr t)=some t:=rfl
theorem Js(μ:Mu)(i:Nat):cont μ (.br i)=(μ[i]?).bind Sl.box:=rfl
theorem Jx(t:T):R.d (.tr t)=.tr t:=rfl
theorem IB(i:Nat):R.d (.br i)=.br i:=rfl
theorem IM(b:Bool):v_ (.tr (.bl b))=some b:=rfl
end A
theorem di{g:UG}{body:US}{E:Ed}(I:List T->Mu->Prop){items:List T}(h0:I items μ)(hn:∀ μ,I [] μ->E.nx μ)
  (hs:∀ t ts μ (N:Mu->Prop),I (t::ts) μ->(∀ μ',I ts μ'->N μ')->g (.tr t) μ fun μ1=>body {E with nx:=N,ct:=N,bk:=E.nx} μ1):Y.fv g body E items μ:=by
 induction items generalizing μ with
 |nil=>exact hn μ h0
 |cons t ts ih=>exact hs t ts μ _ h0 fun μ' h=>ih h
theorem cx{gd:Option (Nat×List T)}{own:T->Mu->Option Mu}{ut:UT}{Q:R->Mu->Prop}(I:List T->List T->Mu->Prop){items acc:List T}(h0:I items acc μ)(hn:∀ acc μ,I [] acc μ->Y.HL gd μ/\Q (.fr (.lst acc)) μ)
  (hs:∀ t r acc μ (N:List T->Mu->Prop),I (t::r) acc μ->(∀ acc' μ',I r acc' μ'->N acc' μ')->Y.HL gd μ/\acc.length<sizeLine/\(match own t μ with
   |none=>False
   |some μ1=>ut μ1 fun b μ2=>if b=true then ue μ2 fun rr μ3=>(match rr.d with
     |.tr t'=>N (acc++[t']) (dr μ3)
     |_=>False) else N acc (dr μ2))):Y.pP gd own dr ut ue Q items acc μ:=by
 induction items generalizing μ acc with
 |nil=>exact hn acc μ h0
 |cons t ts ih=>exact hs t ts acc μ (fun a m=>Y.pP gd own dr ut ue Q ts a m) h0 fun a' μ' h=>ih h
noncomputable def kJ(K:Pq):Sp:=fun vs H Q _=>∃(a:Addr) (ns:List Int),vs=[.ref a]/\bz K H a (ns.map V.int)/\ns.length<=63/\∀ H',Q (.bl true) H'
theorem cG:∀ ns:List Int,ai K H B (ns.map V.int) (ns.map T.int)
 |[]=>.nil
 |n::ns=>.cons (.int n) (cG ns)
theorem DV{ps:List Str}(h:bD P w K mg base aV k fa fd ps (spT K [false] D9)):bD P w K mg base aV k fa fd ps (kJ K):=by
 refine h.imp fun vs H Q E ⟨a,ns,e,hs,hl,q⟩=>?_;subst e;refine⟨fun _=>False,[.dW (ns.map T.int)],fun r outs=>r=.tr (.bl true),⟨.dW ?_ (cG ns),trivial⟩,fun b z=>z.elim,MV,⟨ns,rfl,hl,rfl⟩,fun v H' r outs hr _ res=>?_⟩
 ·rcases hs with hs|hs
  ·exact .inl ⟨fun z=>z,hs⟩
  ·exact .inr hs
 ·subst hr;have rv:=res.1;obtain rfl:=Rep.zq rv;exact q H'
namespace Y
theorem DL(hu:X.A.units<cLine):cW X (compareOp .NotEq) (AK X.K true):=by
 intro pins s σ H x y v u Q I rx ry h;obtain⟨a,b,xs,ys,rfl,rfl,hq,fx,fy,q⟩:=h
 cases rx;cases ry
 have item:∀(its its2:List Value),Vals xs its->Vals ys its2->∀ j (h1:j<its.toArray.size) (h2:j<its2.toArray.size),SeqAt.EqAt X.A.in1 s its.toArray[j] its2.toArray[j] (match xs[j]?,ys[j]? with|some x,some y=>uP x y|_,_=>true):=fun its its2 r1 r2 j h1 h2=>by
  have l1:=r1.length;have l2:=r2.length;rw[Ky] at h1 h2;obtain⟨u1,e1,g1⟩:=r1.get (i:=j) (x:=xs[j]) (Kw (by lia))
  obtain⟨u2,e2,g2⟩:=r2.get (i:=j) (x:=ys[j]) (Kw (by lia))
  rw[Kw (show j<xs.length by lia),Kw (show j<ys.length by lia)]
  have z1:its.toArray[j]=u1:=by
   rw[Kw h1] at e1;simpa using e1
  have z2:its2.toArray[j]=u2:=by
   rw[Kw h2] at e2;simpa using e2
  rw[z1,z2];exact pU g1 g2 (Ml.mp fx _ (Ll _)) (Ml.mp fy _ (Ll _))
 rcases hq with ⟨ha,hb⟩|⟨ha,hb⟩
 ·obtain⟨its,r1,p1,_⟩:=I.list ha;obtain⟨its2,r2,p2,_⟩:=I.list hb;have l1:=r1.length;have l2:=r2.length;by_cases e:xs.length=ys.length
  ·refine SeqAt.RcNeAt.lists p1.isList p2.isList (by rw[Ky,Ky];lia) hu (item its its2 r1 r2) X.prog X.w X.xe _ ⟨.bl _,H,I,rfl,q _ ?_⟩
   rw[Ky,<- l1,<- e,NF,Mm,Bool.true_and]
   try rfl
  ·refine SeqAt.RcNeAt.lists_lengths p1.isList p2.isList (by rw[Ky,Ky,bne_iff_ne];lia) hu X.prog X.w X.xe _ ⟨.bl true,H,I,rfl,?_⟩
   exact q false (by rw[Lh.mpr e,OR])
 ·obtain⟨its,r1,p1,_⟩:=I.tuple ha;obtain⟨its2,r2,p2,_⟩:=I.tuple hb;have l1:=r1.length;have l2:=r2.length;refine SeqAt.RcNeAt.tuples p1 p2 hu (item its its2 r1 r2) X.prog X.w X.xe _ ⟨.bl _,H,I,rfl,q _ ?_⟩;rw[Ky,Ky,<- l1,<- l2,Bool.and_comm]
  try rfl
noncomputable def Hc(K:Pq):R2:=fun x y H Q=>Gz x y H Q\/AK K true x y H Q
theorem vE(K:Pq)(hK:X.K=K)(hu:X.A.units<cLine):cW X (compareOp .NotEq) (Hc K):=by subst hK;exact Ca.or (DL hu)
noncomputable def Ju:T->T->Mu->(R->Mu->Prop)->Prop:=fun t u μ Q=>match t,u with
 |.int i,.int j=>Q (.tr (.bl (!decide (i=j)))) μ
 |.str i,.str j=>Q (.tr (.bl (!decide (i=j)))) μ
 |.bl i,.bl j=>Q (.tr (.bl (!decide (i=j)))) μ
 |.lst xs,.lst ys=>xs.all aK=true/\ys.all aK=true/\Q (.tr (.bl (!nS xs ys))) μ
 |.tup xs,.tup ys=>xs.all aK=true/\ys.all aK=true/\Q (.tr (.bl (!nS xs ys))) μ
 |_,_=>False
theorem yq:me K (Hc K) (yV Ju):=gY fun F ad B σ H μ Q Qt x y t u hK l v1 v2 q k=>by
 subst hK;unfold Ju at q
 split at q
 ·obtain rfl:=Vw.cA v1;obtain rfl:=Vw.cA v2;refine .inl ⟨rfl,?_⟩;rw[dV (f:=V.int) (fun a b h=>by injection h)]
  exact k _ H _ (Vr.flat l (.bl _)) Fr.refl q
 ·obtain rfl:=Vw.fP v1;obtain rfl:=Vw.fP v2;refine .inl ⟨rfl,?_⟩;rw[dV (f:=V.str) (fun a b h=>by injection h)]
  exact k _ H _ (Vr.flat l (.bl _)) Fr.refl q
 ·obtain rfl:=Vw.zq v1;obtain rfl:=Vw.zq v2;refine .inl ⟨rfl,?_⟩;rw[dV (f:=V.bl) (fun a b h=>by injection h)]
  exact k _ H _ (Vr.flat l (.bl _)) Fr.refl q
 ·obtain⟨_,_,rfl,ha,ra⟩:=Vw.dX v1;obtain⟨_,_,rfl,hb,rb⟩:=Vw.dX v2;exact .inr ⟨_,_,_,_,rfl,rfl,.inl ⟨bz.of ha,bz.of hb⟩,bO ra q.1,bO rb q.2.1,fun c hc=>by
   rw[<- lY ra rb q.1 q.2.1] at hc;subst hc;exact k _ H _ (Vr.flat l (.bl _)) Fr.refl q.2.2⟩
 ·obtain⟨_,_,rfl,ha,ra⟩:=Vw.tupI v1;obtain⟨_,_,rfl,hb,rb⟩:=Vw.tupI v2;exact .inr ⟨_,_,_,_,rfl,rfl,.inr ⟨aW.of ha,aW.of hb⟩,bO ra q.1,bO rb q.2.1,fun c hc=>by
   rw[<- lY ra rb q.1 q.2.1] at hc;subst hc;exact k _ H _ (Vr.flat l (.bl _)) Fr.refl q.2.2⟩
 ·exact q.elim
theorem d9:fillsNumberSlot (.type "tuple") "mul"=pure false:=
 PySem.fillsNumberSlot_seq (id:="tuple.__mul__") (r:=some (.builtin "tuple.__rmul__")) PySem.F.slot_tuple_mul.lookup (by decide +kernel) PySem.F.slot_tuple_rmul.lookup (by decide +kernel)
theorem gi:seqRepeat? (.type "tuple")=pure (some (.builtin "tuple.__mul__")):=by
 unfold seqRepeat?;rw[PySem.seqSlot_of (T:="tuple") (name:="__mul__") (id:="tuple.__mul__") PySem.F.slot_tuple_mul.lookup (by decide +kernel),PySem.seqSlot_of (T:="tuple") (name:="__rmul__") (id:="tuple.__rmul__") PySem.F.slot_tuple_rmul.lookup (by decide +kernel)];rfl
theorem jD(a:Int)(t:Tok)(l:Addr)(ob:Obj)(items:Array Value)(n:Nat)(hc:ob.cls=.type "tuple")(hd:ob.data=.seq items n):
  Meets (Builtin.«int.__rmul__» ⟨[.int a t,.ref l],[]⟩) (fun _ R s=>s.heap.get? l=some ob/\R (.ok (.ret Value.notImplemented)) s):=
 .of_wp fun prog w A R s h=>by
  obtain⟨hp,g,d,tk,os⟩:=s;obtain⟨hl,h⟩:=h;obtain⟨c,dd,da,sl⟩:=ob;simp only at hc hd;subst hc hd
  wp_walk
  exact⟨_,rfl,h⟩
theorem AB(l:Addr)(items:Array Value)(ob:Obj)(n:Nat)(k:Int)(t:Tok)(hc:ob.cls=.type "tuple")(hd:ob.data=.seq items n)(hne:items.isEmpty=false)(h1:1<k)(h2:k<=1000)(hsz:items.size<=1000):
  Meets (Builtin.«tuple.__mul__» ⟨[.ref l,.int k t],[]⟩) (fun _ R s=>s.heap.get? l=some ob/\R (.ok (.ret (.ref s.heap.objs.size))) {s with heap:=s.heap.push {cls:=.type "tuple",data:=.seq ((List.replicate k.toNat items).foldl (·++·) #[])}}):=
 .of_wp fun prog w A R s h=>by
  obtain⟨hp,g,d,tk,os⟩:=s;obtain⟨hl,h⟩:=h;obtain⟨c,dd,da,sl⟩:=ob;simp only at hc hd;subst hc hd;have e1:(decide (k < -(2^63)) || decide (k >= 2^63))=false:=by rw[KO (by lia),KO (by lia)];rfl
  have e2:(items.isEmpty || k == 1)=false:=by rw[hne,Lh.mpr (by lia)];rfl
  have e3:(decide (k<=0) || items.isEmpty)=false:=by rw[hne,KO (by lia)];rfl
  wp_walk using Ni hl;rw[Kx (by rw[e1];exact K5)]
  have ht:IsTup (Shared.heap ⟨hp,g,d,tk,os⟩) l items:=⟨_,hl,rfl,n,rfl⟩;show wpAny _ _ (Builtin.Tuple.tupleItemsOf (.ref l) >>= _) _ _ _;refine Ku (tupleItemsOf_ ht ?_);rw[Kx (by rw[e2];exact K5)]
  show wpAny _ _ (if (decide (k<=0) || items.isEmpty)=true then _ else _) _ _ _
  rw[Kx (by rw[e3];exact K5)]
  have hm:(items.size:Int)*k<=1000*1000:=Int.mul_le_mul (by lia) h2 (by lia) (by lia)
  show wpAny _ _ (if (items.size:Int)*k >(2^63-1) / 8 then _ else _) _ _ _
  rw[Kx (by lia)]
  show wpAny _ _ (if Builtin.Tuple.tupleTooMany ((items.size:Int)*k)=true then _ else _) _ _ _
  have e4:Builtin.Tuple.tupleTooMany ((items.size:Int)*k)=false:=KO (by
   have:((sizeLine:Nat):Int) >= 1000000:=by decide
   lia)
  rw[Kx (by rw[e4];exact K5)]
  have hl2:((List.replicate k.toNat items).foldl (·++·) #[]).size<=sizeLine:=by
   have fs:∀(m:Nat) (acc:Array Value),((List.replicate m items).foldl (·++·) acc).size=acc.size+m*items.size:=fun m=>by
    induction m with
    |zero=>intro acc;simp
    |succ m ih=>intro acc;rw[Li,O9,ih,Array.size_append,Mq];lia
   rw[fs];have h3:k.toNat*items.size<=1000*1000:=NV (by lia) hsz
   have h4:(1000000:Nat)<=sizeLine:=by decide
   simp;lia
  exact Ku (m:=Builtin.Tuple.tupleExact _) (LN (K1 ⟨_,rfl,h⟩) hl2)
theorem uI(its:List Value):∀(m:Nat) (acc:List Value),(List.replicate m its.toArray).foldl (·++·) acc.toArray=(acc++(List.replicate m its).flatten).toArray:=fun m acc=>foldl_rep its m acc
noncomputable def CL(K:Pq):R2:=fun x y H Q=>∃ a k xs,x=.ref a/\y=.int k/\aW K H a xs/\xs≠[]/\xs.length<=1000/\1<k/\k<=1000/\∀ p,H p=none->Q (.ref p) (upd H p (.tup (List.replicate k.toNat xs).flatten))
theorem AY:cW X (binaryOp .Mult) (CL X.K):=by
 intro pins s σ H x y v u Q I rx ry h;obtain⟨a,k,xs,rfl,rfl,hx,hne,hsz,h1,h2,q⟩:=h;cases rx;obtain⟨t,rfl⟩:=ry;obtain⟨its,r,p,hz⟩:=I.tuple hx;obtain⟨ob,ho,hc,n,hd⟩:=id p;have hlen:=r.length;have hemp:its.toArray.isEmpty=false:=by
  cases its with
  |nil=>cases r;exact absurd rfl hne
  |cons a b=>rfl
 refine Mx (T:="tuple") (U:="int") (by decide) ⟨_,ho,hc⟩ (fun s'=>MK s' k t) d9 PySem.F.fills_int_mul PySem.F.slot_int_rmul gi PySem.F.slot_int_index.lookup
  (LF PySem.F.slot_int_rmul (MK s k t) PySem.F.entry_int_rmul (PySem.F.args_int_rmul_2 _ _) (jD k t a ob its.toArray n hc hd)
   ⟨ho,rfl,⟨_,ho,hc⟩,LF PySem.F.slot_tuple_mul ⟨_,ho,hc⟩ PySem.F.entry_tuple_mul (PySem.F.args_tuple_mul_2 _ _) (AB a its.toArray ob n k t hc hd hemp h1 h2 (by rw[Ky];lia)) ⟨ho,?_⟩⟩)
 have e0:=uI its k.toNat [];rw[OA] at e0;have e0':(List.replicate k.toNat its.toArray).foldl (·++·) #[]=(List.replicate k.toNat its).flatten.toArray:=e0;rw[e0'];refine⟨.ref s.heap.objs.size,_,I.laid (t':=s.toks) (o:=.tup (List.replicate k.toNat xs).flatten) (fun b ob q=>Kv _ q) (K2 _) ?_,rfl,q _ (I.aD.fresh (K2 _))⟩;refine⟨?_,_,r.rep k.toNat,cX.new _ _⟩;rw[len_rep];have h3:k.toNat*xs.length<=1000*1000:=NV (by lia) hsz
 exact KG h3 (by decide)
noncomputable def xF(K:Pq):R2:=fun x y H Q=>Di x y H Q\/CL K x y H Q
theorem dB(K:Pq)(hK:X.K=K):cW X (binaryOp .Mult) (xF K):=by subst hK;exact rj.or AY
noncomputable def kR:U2:=fun r1 r2 μ Q=>match cont μ r1,cont μ r2 with
 |some (.int i),some (.int j)=>mO i j/\Q (.tr (.int (i*j))) μ
 |some (.lst xs),some (.int k)=>-(2^63)<=k/\k<2^63/\xs.length*k.toNat<=sizeLine/\Q (.fr (.lst (List.replicate k.toNat xs).flatten)) μ
 |some (.tup xs),some (.int k)=>(xs≠[]/\xs.length<=1000/\1<k/\k<=1000)/\Q (.tr (.tup (List.replicate k.toNat xs).flatten)) μ
 |_,_=>False
theorem cL:me K (xF K) kR:=by
 intro F ad B σ H μ Q Qt x y r1 r2 hK l h1 h2 q k;unfold kR at q
 split at q
 ·rename_i i j e1 e2;exact .inl (xK F ad B σ H μ Q Qt x y r1 r2 hK l h1 h2 (by unfold r_;rw[e1,e2];exact q) k)
 ·rename_i xs j e1 e2;exact .inl (xK F ad B σ H μ Q Qt x y r1 r2 hK l h1 h2 (by unfold r_;rw[e1,e2];exact q) k)
 ·rename_i xs j e1 e2;have a:=h1.vw l e1;have b:=h2.vw l e2;subst hK;obtain rfl:=Vw.cA b;obtain⟨_,_,rfl,ha,ra⟩:=Vw.tupI a;refine .inr ⟨_,_,_,rfl,rfl,aW.of ha,?_,by rw[ra.length];exact q.1.2.1,q.1.2.2.1,q.1.2.2.2,fun p hp=>k _ _ _ μ (Vr.uV l (ra.rep _) hp) (Fr.same (bQ.new hp)) (Kp.refl μ) q.2⟩
  rintro rfl;cases ra;exact q.1.1 rfl
 ·exact q.elim
end Y
namespace A
theorem DQ(i j:Int)(μ:Mu)(Q:R->Mu->Prop):Y.kR (.tr (.int i)) (.tr (.int j)) μ Q=(mO i j/\Q (.tr (.int (i*j))) μ):=rfl
theorem G7(i j:Int)(μ:Mu)(Q:R->Mu->Prop):Y.Ju (.int i) (.int j) μ Q=Q (.tr (.bl (!decide (i=j)))) μ:=rfl
end A
open PySem PySem.Spec PyProof PyProof.Rows
namespace Y
theorem dk:∀{us:List Value} {ns:List Int},IntsAre us ns->Vals (ns.map V.int) us
 |_,_,.nil=>.nil
 |_,_,.cons n t h=>.cons ⟨t,rfl⟩ (dk h)
theorem d7:∀{us:List Value} {ns:List Int},IntsAre us ns->us.length=ns.length
 |_,_,.nil=>rfl
 |_,_,.cons n t h=>by simp[d7 h]
theorem cO:∀{us:List Value} {ns:List Int} {i:Nat} {v:Value},IntsAre us ns->us[i]?=some v->∃ t,v=.int (ns.getD i 0) t
 |_,_,_,_,.nil,e=>by simp at e
 |_,_,0,_,.cons n t h,e=>⟨t,by simpa using e.symm⟩
 |_,_,i+1,_,.cons n t h,e=>by
  obtain⟨t',e'⟩:=cO (i:=i) h (by simpa using e)
  exact⟨t',by simpa using e'⟩
section
variable {prog:Program} {w:World} {A:Around} {E:Value->Shared->Prop} {s:Shared}
theorem iB{vs:List Value}{Q:List Value->Shared->Prop}(hl:IsTup s.heap l vs.toArray)(hsz:vs.length<=sizeLine)
  (h:Q vs {s with heap:=(s.heap.push (seqObj "list" #[] 0)).update s.heap.objs.size (Obj.mapSeq (·++vs.toArray))}):wpAny (model prog w) A (collect (.ref l)) Q E s:=by
 obtain⟨o,ho,hc,n,hd⟩:=id hl;unfold collect;refine Ku (wpAny_runValue (NI entry_proto_collect' ?_));show wpAny _ _ (do again (.builtin "list.__iadd__" ⟨[<- newList [],.ref l],[]⟩)) _ _ s
 refine Ku (Nv (K1 ⟨Code.quiet_builtin _ (by decide +kernel),NI entry_list_iadd' ?_⟩))
 show wpAny _ _ (Builtin.List.listExtendWith (.ref s.heap.objs.size) (.ref l) (.ref s.heap.objs.size)) _ _ {s with heap:=s.heap.push (seqObj "list" #[] 0)}
 unfold Builtin.List.listExtendWith;have ho':(s.heap.push (seqObj "list" #[] 0)).get? l=some o:=Kv _ ho;refine Ku (NG (T:="tuple") ⟨o,ho',hc⟩ ?_);have ht:(Value.type "tuple" == Value.type "tuple")=true:=by rfl
 rw[Kz (by rw[ht];simp)]
 refine Ku (O0 ho' hd ?_);refine Ku (O0 (xs:=#[]) (n:=0) (K7 _ rfl) rfl ?_);rw[Kx (by simp)]
 refine Ku (listUpdate_at (xs:=#[]) (n:=0) (K7 _ rfl) rfl ?_ (KY _) (by show (#[]++vs.toArray).size<=sizeLine+1;simp only[Array.size_append,Ky,Lf];lia))
 refine K1 ?_;show wpAny (model prog w) A (load s.heap.objs.size >>= _) Q E {s with heap:=(s.heap.push (seqObj "list" #[] 0)).update s.heap.objs.size (Obj.mapSeq (·++vs.toArray))}
 refine Ku (wpAny_load (NJ (K7 _ rfl) _) ?_);show wpAny _ _ (pure ((#[]:Array Value)++vs.toArray).toList) Q E _;rw[show ((#[]:Array Value)++vs.toArray).toList=vs by simp]
 exact K1 h
theorem qD{vs:List Value}(hl:IsTup s.heap l vs.toArray)(hI:IntsAre vs ns)(h64:vs.length<64)
  (h:∀(out:Array Value) (ns':List Int),IntsAre out.toList ns'->ns'.Perm ns->ns'.Pairwise (·<=·)->Q (.ref (s.heap.objs.size+1)) {s with heap:=sortedAll s.heap vs out}) :
  wpAny (model prog w) A (call (.builtin "sorted") [.ref l]) Q E s:=by
 have hz:vs.length<=sizeLine:=KG (Mn h64) (by decide)
 refine Calls.call_function_entry kind_sorted plain_sorted entry_sorted (args_sorted1 _) ?_;unfold Builtin.«sorted»;refine Ku (m:=checkCount "sorted" 1 1 _) (K1 ?_);refine Ku (iB hl hz ?_);refine Ku (Nv ?_ hz);have hs:((s.heap.push (seqObj "list" #[] 0)).update s.heap.objs.size (Obj.mapSeq (·++vs.toArray))).objs.size=s.heap.objs.size+1:=by rw[Nz,size_push']
 have ho:(((s.heap.push (seqObj "list" #[] 0)).update s.heap.objs.size (Obj.mapSeq (·++vs.toArray))).push (seqObj "list" vs.toArray 0)).get? (s.heap.objs.size+1)=some (seqObj "list" vs.toArray 0):=by
  rw[<- hs];exact K7 _ rfl
 show wpAny _ _ _ _ _ {s with heap:=((s.heap.push (seqObj "list" #[] 0)).update s.heap.objs.size (Obj.mapSeq (·++vs.toArray))).push (seqObj "list" vs.toArray 0)}
 rw[hs];refine Ku (Lg (L8 slot_list_sort ⟨_,ho,rfl⟩ entry_list_sort (list_sort_tree ho hI h64 fun out ns' a1 a2 a3=>⟨_,rfl,?_⟩) (args_list_sort _)));exact K1 ⟨_,rfl,h out ns' a1 a2 a3⟩
theorem je{vs:List Value}{b:Bool}(hl:IsTup s.heap l vs.toArray)(hI:IntsAre vs ns)(h64:vs.length<64)
  (h:∀(out:Array Value) (ns':List Int),IntsAre out.toList ns'->ns'.Perm ns->Ordered b ns'->Q (.ref (s.heap.objs.size+1)) {s with heap:=sortedAll s.heap vs out}) :
  wpAny (model prog w) A (call (.builtin "sorted") [.ref l] [(Str.ofString "reverse",.bool b)]) Q E s:=by
 have hz:vs.length<=sizeLine:=KG (Mn h64) (by decide)
 refine call_function_entry_kw kind_sorted plain_sorted entry_sorted (args_sorted_rev _ _) ?_;unfold Builtin.«sorted»;refine Ku (m:=checkCount "sorted" 1 1 _) (K1 ?_);refine Ku (iB hl hz ?_);refine Ku (Nv ?_ hz);have hs:((s.heap.push (seqObj "list" #[] 0)).update s.heap.objs.size (Obj.mapSeq (·++vs.toArray))).objs.size=s.heap.objs.size+1:=by rw[Nz,size_push']
 have ho:(((s.heap.push (seqObj "list" #[] 0)).update s.heap.objs.size (Obj.mapSeq (·++vs.toArray))).push (seqObj "list" vs.toArray 0)).get? (s.heap.objs.size+1)=some (seqObj "list" vs.toArray 0):=by
  rw[<- hs];exact K7 _ rfl
 show wpAny _ _ _ _ _ {s with heap:=((s.heap.push (seqObj "list" #[] 0)).update s.heap.objs.size (Obj.mapSeq (·++vs.toArray))).push (seqObj "list" vs.toArray 0)}
 rw[hs];refine Ku (Lg (wpAny_call_entry_kw slot_list_sort ⟨_,ho,rfl⟩ entry_list_sort (list_sort_tree_rev ho hI h64 fun out ns' a1 a2 a3=>⟨_,rfl,?_⟩) (args_list_sort_rev _ _)));exact K1 ⟨_,rfl,h out ns' a1 a2 a3⟩
theorem Aw{vs:List Value}(hh:A.handled=none)(hl:IsTup s.heap l vs.toArray)(hI:IntsAre vs ns)(hne:0<ns.length)
  (h:∀ M h' tk t',M∈ns->(∀ a∈ns,a<=M)->(∀ b o,s.heap.get? b=some o->h'.get? b=some o)->Q (.int M t') {s with heap:=h',toks:=tk}) :
  wpAny (model prog w) A (call (.builtin "max") [.ref l]) Q E s:=by
 have ht:s.heap.IsTuple l vs.toArray:=hl;have hlt:l<s.heap.objs.size:=by obtain⟨o,ho,_⟩:=id hl;exact KA ho
 have hlen:=d7 hI;refine call_max_walk (Lx ht ?_);refine⟨_,[_,l],[_],_,_,_,_,rfl,Walks.tuple (A:=A.in1) hh _ l (KJ hlt) vs.toArray,⟨⟨_,K7 _ rfl,rfl,rfl⟩,ht.push _⟩,fun c hc=>?_,by simpa[hlen] using hne,CmpOf.ints_gt (fun i=>ns.getD i 0) (fun i v e=>cO hI (by simpa using e)),fun v h' tk hP hk=>?_⟩
 ·show c<(s.heap.push _).objs.size;rw[L3];rcases K4.mp hc with rfl|hc
  ·exact M6 _
  ·rcases K4.mp hc with rfl|hc
   ·exact Mv hlt
   ·cases hc
 ·obtain⟨t,rfl⟩:=cO (i:=argBest (fun i j=>decide (ns.getD i 0 > ns.getD j 0)) (vs.toArray.size-1)) hI (by rw[<- La];exact hP)
  obtain⟨h1,h2⟩:=argBest_gt (fun i=>ns.getD i 0) (vs.toArray.size-1);have hsz:vs.toArray.size=ns.length:=by simpa using hlen
  refine h _ h' tk t ?_ (fun a ha=>?_) (fun b o e=>hk b o (fun hm=>?_) (Kv _ e))
  ·have:argBest (fun i j=>decide (ns.getD i 0 > ns.getD j 0)) (vs.toArray.size-1)<ns.length:=by lia
   rw[KP,Kw this];exact Ll _
  ·obtain⟨j,hj,rfl⟩:=NK.mp ha;have:=h2 j (by lia)
   rw[KP,Kw hj] at this;exact this
  ·rcases K4.mp hm with rfl|hm
   ·exact absurd (KA e) (L9 _)
   ·cases hm
end
noncomputable def Cq(K:Pq):List V->Hp->VK->Prop:=fun xs H Q=>∃ p ns,xs=[.ref p]/\aW K H p (ns.map V.int)/\ns.length<64/\∀ ns':List Int,ns'.Perm ns->ns'.Pairwise (·<=·)->∀ l,H l=none->Q (.ref l) (upd H l (.lst (ns'.map V.int)))
theorem uj(K:Pq)(hK:X.K=K):aH X (.builtin "sorted") (Cq K):=by
 subst hK;intro pins s σ H xs us Q I r h;obtain⟨p,ns,rfl,hq,h64,q⟩:=h;obtain⟨u,rfl,ru⟩:=vals1 r;cases ru;obtain⟨its,rv,pl,hz⟩:=I.tuple hq;have hi:=intsAre_of rv;refine qD pl hi (by rw[d7 hi];exact h64) fun out ns' a1 a2 a3=>?_
 obtain⟨e,he⟩:=sortedAll_at s.heap its out;refine⟨.ref (s.heap.objs.size+1),_,I.laid (t':=s.toks) (fun b ob q=>sortedAll_old q) (Ly _) (show aP X.prog X.w _ _ _ (.lst (ns'.map V.int)) from⟨?_,out.toList,e,dk a1,by simpa using he⟩),rfl,q ns' a2 a3 _ (I.aD.fresh (Ly _))⟩
 rw[K3,a2.length_eq];exact KG (Mn h64) (by decide)
noncomputable def Cd(K:Pq):List V->Hp->VK->Prop:=fun xs H Q=>E5 xs H Q\/∃(p:Addr) (ns:List Int),xs=[.ref p]/\aW K H p (ns.map V.int)/\0<ns.length/\∀ M:Int,M∈ns->(∀ a∈ns,a<=M)->Q (.int M) H
theorem kB(K:Pq)(hK:X.K=K)(hc:X.calm=true):aH X (.builtin "max") (Cd K):=by
 subst hK;refine (g_ hc).or ?_;intro pins s σ H xs us Q I r h;obtain⟨p,ns,rfl,hq,hne,q⟩:=h;obtain⟨u,rfl,ru⟩:=vals1 r;cases ru;obtain⟨its,rv,pl,hz⟩:=I.tuple hq;refine Aw (I.ok.hd hc) pl (intsAre_of rv) hne fun M h' tk t' m1 m2 hk=>?_;exact⟨.int M,H,I.kept hk,⟨_,rfl⟩,q M m1 m2⟩
theorem cG:∀ ns:List Int,ai K H B (ns.map V.int) (ns.map T.int)
 |[]=>.nil
 |n::ns=>.cons (.int _) (cG ns)
theorem bF:∀{ns:List Int} {vs:List V},ai K H B vs (ns.map T.int)->vs=ns.map V.int
 |[],_,.nil=>rfl
 |n::ns,_,.cons h r=>by cases h;rw[bF r];rfl
noncomputable def yH:UC:=fun rs μ Q=>match rs with
 |[.tr (.int i),.tr (.int j)]=>Q (.tr (.int (if j > i then j else i))) μ
 |[.tr (.tup xs)]=>∃ ns:List Int,xs=ns.map T.int/\0<ns.length/\∀ M:Int,M∈ns->(∀ a∈ns,a<=M)->Q (.tr (.int M)) μ
 |_=>False
theorem sU:RC K (Cd K) yH:=by
 intro F ad B σ H μ Q Qt xs rs hK l p q k;unfold yH at q
 split at q
 ·exact .inl (qj F ad B σ H μ Q Qt xs _ hK l p q k)
 ·obtain⟨ns,rfl,hne,q⟩:=q;subst hK;obtain⟨_,_,rfl,h1,p⟩:=Paired.bW p;obtain rfl:=Paired.jv p;have v1:=h1.vw l (show cont μ (.tr (.tup (ns.map T.int)))=some _ from rfl);obtain⟨_,_,rfl,ha,ra⟩:=Vw.tupI v1;exact .inr ⟨_,ns,rfl,by rw[<- bF ra];exact aW.of ha,hne,fun M m1 m2=>k _ H _ μ (Vr.flat l (.int _)) Fr.refl (Kp.refl μ) (q M m1 m2)⟩
 ·exact q.elim
noncomputable def FE(K:Pq):List V->Hp->VK->Prop:=fun xs H Q=>∃(p:Addr) (ns:List Int),xs=[.ref p]/\bz K H p (ns.map V.int)/\Q (.int ns.sum) H
theorem ve(K:Pq)(hK:X.K=K)(hc:X.calm=true):aH X (.builtin "sum") (FE K):=by subst hK;exact vg hc
noncomputable def CO:T->Mu->(R->Mu->Prop)->Prop:=fun t μ Q=>match t with
 |.lst xs=>∃ ns:List Int,xs=ns.map T.int/\Q (.tr (.int ns.sum)) μ
 |_=>False
theorem D5:RC K (FE K) (qw CO):=gu fun F ad B σ H μ Q Qt x t hK l v1 q k=>by
 subst hK;unfold CO at q
 split at q
 ·obtain⟨ns,rfl,q⟩:=q;obtain⟨_,_,rfl,ha,ra⟩:=Vw.dX v1;exact⟨_,ns,rfl,by rw[<- bF ra];exact bz.of ha,k _ _ _ (Vr.flat l (.int _)) Fr.refl q⟩
 ·exact q.elim
noncomputable def GR(i j:Int):Prop:=0<j/\j<4611686018427387904
theorem ji:cW X (binaryOp .FloorDiv) (rI GR fun i j=>.int (i / j)):=Fc fun i j _ _ _ _ _ hc q=>by
 have h1:(0:Int)<j:=hc.1;have h2:j<4611686018427387904:=hc.2;exact floordiv_int (by lia) (by rw[Od i (by lia)];exact q) (.inl (PyProof.noPylong_of_log2 (MT ((Nat.log2_lt (k:=62) (by lia)).mpr (by lia)) (by decide))))
noncomputable def yb(K:Pq):List V->Hp->VK->Prop:=fun xs H Q=>∃ p ns,xs=[.ref p]/\aW K H p (ns.map V.int)/\ns.length<64/\∀ ns':List Int,ns'.Perm ns->ns'.Pairwise (· >= ·)->∀ l,H l=none->Q (.ref l) (upd H l (.lst (ns'.map V.int)))
theorem wb{t:TA}{p kpos:Pos}{cj:Nat}(hg:Gl X "sorted")(hm:X.mg "sorted"=none)(ha:PA X [e] t)(h1:cK e=true):
  PE X (.Call (.Name "sorted" p) [e] [⟨some "reverse",.Constant (.bool true) cj cpos,kpos⟩] pos) (vf (yb X.K) t):=by
 intro pins s σ H Q I h;refine Mp (eR I hg hm (u:=.builtin "sorted") (by decide +kernel) ?_ (by decide) (by decide))
 have hk:PK X [⟨some "reverse",.Constant (.bool true) cj cpos,kpos⟩] (fY (tC (.bl true)) iX):=rK yW vx;refine callWith_kw ?_ (by rw[cf h1];rfl) (by rw[cf h1];rfl) rfl rfl
 refine bo (ha pos pins s σ H _ I h) fun us s1 ⟨vs,H1,I1,r1,q1⟩=>?_;refine bo (hk pos pins s1 σ H1 (fun zs H2=>zs=[.bl true]/\H2=H1) I1 ⟨rfl,rfl⟩) fun ws s2 ⟨zs,H2,I2,rz,e1,e2⟩=>?_;subst e1 e2;obtain⟨wv,rfl,rw1⟩:=vals1 rz;cases rw1;obtain⟨p,ns,rfl,hq,h64,q⟩:=q1;obtain⟨u,rfl,ru⟩:=vals1 r1;cases ru;obtain⟨its,rv,pl,hz⟩:=I2.tuple hq;have hi:=intsAre_of rv;refine je (b:=true) pl hi (by rw[d7 hi];exact h64) fun out ns' a1 a2 a3=>?_
 obtain⟨e,he⟩:=sortedAll_at s2.heap its out;refine⟨.ref (s2.heap.objs.size+1),_,I2.laid (t':=s2.toks) (fun b ob q=>sortedAll_old q) (Ly _) (show aP X.prog X.w _ _ _ (.lst (ns'.map V.int)) from⟨?_,out.toList,e,dk a1,by simpa using he⟩),rfl,q ns' a2 a3 _ (I2.aD.fresh (Ly _))⟩
 rw[K3,a2.length_eq];exact KG (Mn h64) (by decide)
noncomputable def lZ:T->Mu->(R->Mu->Prop)->Prop:=fun t μ Q=>match t with
 |.tup xs=>∃ ns:List Int,xs=ns.map T.int/\ns.length<64/\∀ ns':List Int,ns'.Perm ns->ns'.Pairwise (· >= ·)->Q (.fr (.lst (ns'.map T.int))) μ
 |_=>False
theorem xt:RC K (yb K) (qw lZ):=gu fun F ad B σ H μ Q Qt x t hK l v1 q k=>by
 subst hK;unfold lZ at q
 split at q
 ·obtain⟨ns,rfl,h64,q⟩:=q;obtain⟨_,_,rfl,ha,ra⟩:=Vw.tupI v1;exact⟨_,ns,rfl,by rw[<- bF ra];exact aW.of ha,h64,fun ns' a2 a3 p hp=>k _ _ _ (Vr.gz l (cG _) hp) (Fr.more hp) (q ns' a2 a3)⟩
 ·exact q.elim
theorem GG{us:UA}{p kpos:Pos}{cj:Nat}(hg:Gl X "sorted")(hm:X.mg "sorted"=none)(ha:YA X [e] us)(h1:autoParam (cK e=true) ℜ0):
  YE X (.Call (.Name "sorted" p) [e] [⟨some "reverse",.Constant (.bool true) cj cpos,kpos⟩] pos) (BS (qw lZ) us):=by
 obtain⟨t,q,rr⟩:=ha;exact⟨_,⟨wb hg hm q.h h1⟩,t5 xt rr⟩
end Y
namespace A
theorem As(xs:List T)(μ:Mu)(Q:R->Mu->Prop):Y.lZ (.tup xs) μ Q=(∃ ns:List Int,xs=ns.map T.int/\ns.length<64/\∀ ns':List Int,ns'.Perm ns->ns'.Pairwise (· >= ·)->Q (.fr (.lst (ns'.map T.int))) μ):=rfl
theorem Gu(xs:List T)(μ:Mu)(Q:R->Mu->Prop):Y.CO (.lst xs) μ Q=(∃ ns:List Int,xs=ns.map T.int/\Q (.tr (.int ns.sum)) μ):=rfl
theorem FZ(xs:List T)(μ:Mu)(Q:R->Mu->Prop):Y.yH [.tr (.tup xs)] μ Q=(∃ ns:List Int,xs=ns.map T.int/\0<ns.length/\∀ M:Int,M∈ns->(∀ a∈ns,a<=M)->Q (.tr (.int M)) μ):=rfl
end A
namespace Y
theorem kP:∀ ns:List Str,ai K H B (ns.map V.str) (ns.map T.str)
 |[]=>.nil
 |n::ns=>.cons (.str _) (kP ns)
theorem hZ:∀{ns:List Str} {vs:List V},ai K H B vs (ns.map T.str)->vs=ns.map V.str
 |[],_,.nil=>rfl
 |n::ns,_,.cons h r=>by cases h;rw[hZ r];rfl
abbrev HP:=Str->List R->Mu->(R->Mu->Prop)->Prop
noncomputable def HV(um:HP)(uo:UE)(us:UA):UE:=fun μ Q=>uo μ fun ro μ1=>match ro with
 |.tr (.str z)=>us μ1 fun rs μ2=>um z rs μ2 Q
 |_=>False
noncomputable def JR(K:Pq)(r:V->List V->Hp->VK->Prop)(um:HP):Prop:=∀(F:Fx) (ad:Nat->Addr) (B:aL) (σ:St) (H:Hp) (μ:Mu) (Q:VK) (Qt:R->Mu->Prop) (z:Str) (xs:List V) (rs:List R),F.K=K->Rl F ad B σ H μ->Paired (Hv F ad B H μ) xs rs->um z rs μ Qt ->
 (∀ v H' r μ',Vr F ad B σ H' μ' v r->Fr B H (Bv B v r) H'->Kp μ μ'->Qt r μ'->Q v H')->r (.str z) xs H Q
theorem sm{o:Expr}{uo:UE}{us:UA}(K:Pq)(hK:X.K=K){id:String}{r:V->List V->Hp->VK->Prop}{um:HP}(slot:Slot "str" name id)(hty:typeOf (.builtin id)=pure (.type "method_descriptor"))(hm:zz X id r)(hr:JR X.K r um)(ho:YE X o uo)(ha:YA X (e::es) us)
  (hbase:autoParam (attributeBase o name X.env (eval o X.env)=eval o X.env) ℜ0) (hline:autoParam ((apos.endLine == pos.line)=true) ℜ0) (h:autoParam ((e::es).all cK=true) ℜ0) (hl:autoParam ((e::es).length<30) ℜ1):YE X (.Call (.Attribute o name apos) (e::es) [] pos) (HV um uo us):=by
 obtain⟨t,q,rr⟩:=ho;obtain⟨t',q',r'⟩:=ha;refine⟨_,Z.bm K hK PySem.F.plainAttrs_str slot hty hm q q' hbase hline h hl,fun F ad B σ H μ Q Qt hF l q k=>rr F ad B σ H μ _ _ hF l q fun v H1 r1 μ1 v1 f1 k1 q1=>?_⟩
 split at q1
 ·rename_i z;obtain⟨l1,rp⟩:=v1;obtain rfl:=Rep.fP rp;refine⟨rfl,?_⟩;refine r' F ad B σ H1 μ1 _ _ hF l1 q1 fun xs H2 rs μ2 l2 ps f2 k2 q2=>?_;exact hr F ad B σ H2 μ2 _ _ z xs rs hF l2 ps q2 fun v H3 r3 μ3 v3 f3 k3 q3=>k v H3 r3 μ3 v3 ((f1.d.trans f2).trans f3) ((k1.trans k2).trans k3) q3
 ·exact q1.elim
theorem wk(l:List Nat):∀(n a:Nat),((List.range n).map (fun k=>a+k)).filterMap (l[·]?)=(l.drop a).take n
 |0,_=>by simp
 |n+1,a=>by
  rw[MM,KI,List.filterMap_append,wk l n a,List.take_add_one,L_]
  cases h:l[a+n]?<;>simp[h]
theorem nK(lo hi:Option Int)(n:Nat):Builtin.Str.strSliceIndices lo hi 1 n=(List.range (HT.bq n n hi-HT.bq n 0 lo)).map (fun k=>HT.bq n 0 lo+k):=by
 have ea:∀(v:Int),max 0 (min (if v<0 then v+(n:Int) else v) (n:Int))=(((if v<0 then (v+(n:Int)).toNat else min v.toNat n):Nat):Int):=by
  intro v;split<;>lia
 have e:Builtin.Str.strSliceIndices lo hi 1 n=sliceRange (HT.bq n 0 lo) (HT.bq n n hi) 1:=by
  cases lo with
  |none=>cases hi with
   |none=>rfl
   |some j=>show sliceRange 0 (max 0 (min (if j<0 then j+(n:Int) else j) (n:Int))) 1=_;rw[ea];rfl
  |some i=>cases hi with
   |none=>show sliceRange (max 0 (min (if i<0 then i+(n:Int) else i) (n:Int))) n 1=_;rw[ea];rfl
   |some j=>show sliceRange (max 0 (min (if i<0 then i+(n:Int) else i) (n:Int))) (max 0 (min (if j<0 then j+(n:Int) else j) (n:Int))) 1=_;rw[ea,ea];rfl
 rw[e];generalize HT.bq n 0 lo=a;generalize HT.bq n n hi=b;unfold sliceRange;simp only[show ((1:Int) > 0)=True from by simp,Mg,Int.one_mul]
 have c:(if (a:Int)<(b:Int) then ((b:Int)-a+1-1) / 1 else 0).toNat=b-a:=by split<;>lia
 rw[c];refine Na fun k _=>?_;lia
theorem pE(z:Str)(lo hi:Option Int):Txt.slice z lo hi=⟨((z.cps.toList.drop (HT.bq z.cps.toList.length 0 lo)).take (HT.bq z.cps.toList.length z.cps.toList.length hi-HT.bq z.cps.toList.length 0 lo)).toArray⟩:=by
 have hl:z.cps.toList.length=z.length:=Lq;rw[hl];have hp:(Builtin.Str.strSliceIndices lo hi 1 z.length).filterMap (z.cps[·]?)=(z.cps.toList.drop (HT.bq z.length 0 lo)).take (HT.bq z.length z.length hi-HT.bq z.length 0 lo):=by
  rw[nK];have:=wk z.cps.toList (HT.bq z.length z.length hi-HT.bq z.length 0 lo) (HT.bq z.length 0 lo)
  simpa using this
 unfold Txt.slice;split
 ·rename_i h;rw[nK] at h;simp at h;have h2:=HT.qM z.length z.length (K2 _) hi;have h3:=HT.qM z.length 0 (KY _) lo;have a0:HT.bq z.length 0 lo=0:=by lia
  have b0:HT.bq z.length z.length hi=z.length:=by lia
  rw[a0,b0,MU,Nj,<- hl,List.take_length]
 ·rw[hp]
noncomputable def AZ(z:Str)(lo hi:Option Int):Str:=⟨(bB z.cps.toList lo hi).toArray⟩
theorem uy(z:Str)(lo hi:Option Int):Txt.slice z lo hi=AZ z lo hi:=pE z lo hi
noncomputable def Gx:V->Option Int->Option Int->Hp->VK->Prop:=fun x lo hi H Q=>∃ z,x=.str z/\z.length<=sizeLine/\Q (.str (AZ z lo hi)) H
theorem Ee:vn X Gx:=by
 intro pins s σ H x v vl vu lo hi sl Q I rx hs pl pu h;obtain⟨z,rfl,hz,q⟩:=h;rw[<- uy] at q;obtain⟨t,rfl⟩:=rx;refine⟨"str",_,PySem.F.slot_str_getitem.lookup,typeIs_str _ _ _,?_⟩
 cases pl<;>cases pu
 ·exact MH (l:=none) (u:=none) (st:=none) hs rfl (NL ⟨KG (Txt.slice_le z _ _) hz,fun t' k=>⟨.str _,H,I.tok _,⟨_,rfl⟩,q⟩⟩)
 ·exact MH (l:=none) (u:=some (_,_)) (st:=none) hs rfl (NL ⟨KG (Txt.slice_le z _ _) hz,fun t' k=>⟨.str _,H,I.tok _,⟨_,rfl⟩,q⟩⟩)
 ·exact MH (l:=some (_,_)) (u:=none) (st:=none) hs rfl (NL ⟨KG (Txt.slice_le z _ _) hz,fun t' k=>⟨.str _,H,I.tok _,⟨_,rfl⟩,q⟩⟩)
 ·exact MH (l:=some (_,_)) (u:=some (_,_)) (st:=none) hs rfl (NL ⟨KG (Txt.slice_le z _ _) hz,fun t' k=>⟨.str _,H,I.tok _,⟨_,rfl⟩,q⟩⟩)
noncomputable def II(K:Pq):V->Option Int->Option Int->Hp->VK->Prop:=fun x lo hi H Q=>Hi K x lo hi H Q\/Gx x lo hi H Q
theorem Jc(K:Pq)(hK:X.K=K):vn X (II K):=(Jz K hK).or Ee
noncomputable def CQ(a:Option T)(lo hi:Option Int):Option (Prop×R):=match a with
 |some (.lst xs)=>some (True,.fr (.lst (bB xs lo hi)))
 |some (.dW xs)=>some (True,.fr (.lst (bB xs lo hi)))
 |some (.tup xs)=>some (True,.tr (.tup (bB xs lo hi)))
 |some (.str z)=>some (z.length<=sizeLine,.tr (.str (AZ z lo hi)))
 |_=>none
noncomputable def Dl(ue:UE)(ul uh:UO):UE:=fun μ Q=>ue μ fun r μ1=>ul μ1 fun lo μ2=>uh μ2 fun hi μ3=>k_ (CQ (cont μ3 r.d) lo hi) fun r=>Q r μ3
theorem EZ{p2:Pos}{ul uh:UO}(K:Pq)(hK:X.K=K)(he:YE X e ue)(hl:YO X lo ul)(hu:YO X hi uh):YE X (.Subscript e (.Slice lo hi none p2) pos) (Dl ue ul uh):=by
 obtain⟨t,q,r⟩:=he;obtain⟨tl,ql,rl⟩:=hl;obtain⟨th,qh,rh⟩:=hu;refine⟨_,Z.slice (Jc K hK) q ql qh,fun F ad B σ H μ Q Qt hF l q k=>r F ad B σ H μ _ _ hF l q fun v H1 r1 μ1 v1 f1 k1 q1=>rl F ad B σ H1 μ1 _ _ hF v1.rl q1 fun i H2 μ2 l2 f2 k2 q2=>rh F ad B σ H2 μ2 _ _ hF l2 q2 fun j H3 μ3 l3 f3 k3 q3=>?_⟩;have hF':F.K=K:=hF.trans hK;clear hF;subst hF';have hv:=v1.hv.fr (f2.trans f3) (k2.trans k3);have ff:=(f1.d.trans f2).trans f3;have kk:=(k1.trans k2).trans k3;generalize eo:cont μ3 r1.d=o at q3;unfold CQ k_ at q3
 cases o with
 |none=>exact q3.elim
 |some o=>cases o with
  |il n=>exact q3.elim
  |lst xs =>
   have w:=hv.vw l3 eo;obtain⟨_,_,rfl,ha,ra⟩:=Vw.dX w;exact .inl (.inl ⟨_,_,rfl,bz.of ha,fun p hp=>k _ _ _ μ3 (Vr.gz l3 (ai.cut ra i j) hp) (ff.trans (Fr.more hp)) kk q3.2⟩)
  |dW xs =>
   have w:=hv.vw l3 eo;obtain⟨_,_,rfl,ha,ra⟩:=Vw.uz w;exact .inl (.inl ⟨_,_,rfl,ha,fun p hp=>k _ _ _ μ3 (Vr.gz l3 (ai.cut ra i j) hp) (ff.trans (Fr.more hp)) kk q3.2⟩)
  |tup xs =>
   have w:=Hv.nX l3 hv eo;have w':=w;obtain⟨_,_,rfl,na,ha,ra⟩:=Rep.tupI w;by_cases z:HT.bq xs.length 0 i=0/\HT.bq xs.length xs.length j=xs.length
   ·have e0:bB xs i j=xs:=by unfold bB;rw[z.1,z.2,Nj,MU,List.take_length]
    have q4:=q3.2;rw[e0] at q4;exact .inl (.inr (.inr ⟨_,_,rfl,aW.of ha,by rw[ra.length];exact z.1,by rw[ra.length];exact z.2,k _ H3 _ μ3 (Vr.flat l3 w') ff kk q4⟩))
   ·exact .inl (.inr (.inl ⟨_,_,rfl,aW.of ha,by rw[ra.length];exact z,fun p hp=>k _ _ _ μ3 (Vr.uV l3 (ai.cut ra i j) hp) (ff.trans (Fr.same (bQ.new hp))) kk q3.2⟩))
  |str z =>
   have w:=hv.vw l3 eo;obtain rfl:=Vw.fP w;exact .inr ⟨z,rfl,q3.1,k _ H3 _ μ3 (Vr.flat l3 (.str _)) ff kk q3.2⟩
  |aM=>exact q3.elim
  |bl b=>exact q3.elim
  |int n=>exact q3.elim
  |gw a b=>exact q3.elim
  |mH a b=>exact q3.elim
  |exc a b=>exact q3.elim
  |dN xs=>exact q3.elim
noncomputable def jH:UM:=fun j rs μ Q=>match rs with
 |[.tr (.int i)]=>(match (μ[j]?).bind Sl.box with
  |some (.lst ts)=>-(2^63)<=i/\i<2^63/\∃ k t,seqIndex? i ts.length=some k/\ts[k]?=some t/\Q (.tr t) (df μ j (.lst (ts.eraseIdx k)))
  |_=>False)
 |_=>False
theorem xS:RM K ym jH:=by
 intro F ad B σ H μ Q Qt j s c xs rs hF l e b ps q k;unfold jH at q
 split at q
 ·rename_i i;obtain⟨_,_,rfl,h,ps⟩:=Paired.bW ps;obtain rfl:=Paired.jv ps;rw[e] at q
  cases bL h
  have q':(match s.box with|some (.lst ts)=>-(2^63)<=i/\i<2^63/\∃ k t,seqIndex? i ts.length=some k/\ts[k]?=some t/\Qt (.tr t) (df μ j (.lst (ts.eraseIdx k)))|_=>False):=q
  rw[b] at q';rcases ((l.slot j s e).boxed b).2.2.1.is with ⟨ts,vs,rfl,hl,rv⟩|⟨_,_,_,rfl,_⟩
  case inr=>exact q'.elim
  simp only at q';obtain⟨h1,h2,n,t,hk,ht,q2⟩:=q';obtain⟨y,hy,ry⟩:=rv.get ht;have fs:Fr B H B (upd H (ad j) (.lst (vs.eraseIdx n))):=Fr.set ((l.slot j s e).boxed b).2.1;refine⟨_,_,i,n,y,rfl,rfl,hl,h1,h2,by rw[rv.length];exact hk,hy,?_⟩
  have l3:=l.put e b (rv.erase n);unfold df at q2;rw[e] at q2;exact k _ _ (.tr t) _ (Vr.flat l3 (ry.fr fs)) fs (Kp.set e b (Sl.iO b)) q2
 ·exact q.elim
noncomputable def HW(i:Nat):UG:=fun r μ Q=>match r with
 |.tr t=>vo μ i/\Q (μ.set i (.tr t))
 |.fr t=>vo μ i/\Q (μ.set i (.tr t))
 |.br _=>False
theorem o9:RG K (bJ i) (HW i):=fun F ad B σ H μ v r B0 H0 Q Qt hK h f q k=>by
 cases r with
 |tr t=>exact k ad B _ H _ (h.1.EJ (lN q.1) h.2) f q.2
 |br i=>exact q.elim
 |fr c =>
  refine k ad B _ H _ (h.rl.EJ (lN q.1) h.hv) (f.trans (Fr.less fun b z=>?_)) q.2;obtain⟨_,a,rfl,_⟩:=h;exact Or.inr z
section
variable {X:Cx} {e elt tg iter:Expr} {ifs:List Expr} {ue:UE} {ut:UT} {ui:UI} {pos pos' p2:Pos} {x:Str} {osc scope:Scope} {ON own N:List Str}
theorem Gv(hN:X.N.Nodup)(hi:X.N[i]?=some x)(hx:Loc X.env.scope x)(he:YE X e ue)(hs:autoParam (Z.Fq e=true) ℜ0)(hf:autoParam (X.fn x=true\/X.env.scope.names.lookup x=some .local) ℜ2):
  YS X (.Assign [.Name x pos'] e pos) (jO ue (HW i)):=by
 obtain⟨t,q,r⟩:=he;exact⟨_,Z.set hN hi hx q hs hf,j9 r o9⟩
theorem DA(K:Pq)(hK:X.K=K)(hN:X.N.Nodup)(hj:X.N[j]?=some x)(hx:Loc X.env.scope x)(S:bT osc ON scope own N)(hosc:X.env.scope=osc)(hON:X.N=ON)(hc:X.calm=true)(ho:own.length=2)(hi:YI X tg iter ui)
  (hg:∀ C s H fp,QG (aE X scope N C s H fp) tg (nJ K 2 (eY (bJ 0) (eY (bJ 1) mU)))) (ht:∀ C s H fp,CF (aE X scope N C s H fp) ifs ut) (he:∀ C s H fp,YE (aE X scope N C s H fp) elt ue)
  (hsw:autoParam (swapsWith (.ListComp elt [⟨tg,iter,ifs,0⟩] scope p2) (some (.Name x pos')) pos.line X.env=pure true) ℜ0)
  (hf:autoParam (X.fn x=true\/X.env.scope.names.lookup x=some .local) ℜ2) (hs:autoParam (∀ x,foldedSetIterable iter X.env x=pure x) ℜ3) :
  YS X (.Assign [.Name x pos'] (.ListComp elt [⟨tg,iter,ifs,0⟩] scope p2) pos) (jO (i4 tI Ii ui ut ue) (HW j)):=by
 obtain⟨t,q,r⟩:=hi;subst hK;have h:=Z.setC (tc:=uY X.K ut) (te:=uL X.K ue) hN hj hx S hosc hON hc q hg (fun C s H fp=>(ht C s H fp).B8) (fun C s H fp=>(he C s H fp).B8) hsw hf hs;rw[ho] at h;exact⟨_,h,j9 (iK r8 r qY sX) o9⟩
end
end Y
namespace A
theorem HV(um:Y.HP)(uo:UE)(us:UA)(μ:Mu)(Q:R->Mu->Prop):Y.HV um uo us μ Q=uo μ fun ro μ1=>match ro with|.tr (.str z)=>us μ1 fun rs μ2=>um z rs μ2 Q|_=>False:=rfl
theorem jH(j:Nat)(i:Int)(μ:Mu)(Q:R->Mu->Prop):Y.jH j [.tr (.int i)] μ Q=(match (μ[j]?).bind Sl.box with
  |some (.lst ts)=>-(2^63)<=i/\i<2^63/\∃ k t,seqIndex? i ts.length=some k/\ts[k]?=some t/\Q (.tr t) (df μ j (.lst (ts.eraseIdx k)))
  |_=>False):=rfl
theorem JD(i:Nat)(t:T)(μ:Mu)(Q:Mu->Prop):Y.HW i (.fr t) μ Q=(Y.vo μ i/\Q (μ.set i (.tr t))):=rfl
end A
namespace Y
theorem xw(l:Addr)(items:Array Value)(ob:Obj)(n:Nat)(k:Int)(t:Tok)(hc:ob.cls=.type "tuple")(hd:ob.data=.seq items n)(h1:k=1):
  Meets (Builtin.«tuple.__mul__» ⟨[.ref l,.int k t],[]⟩) (fun _ R s=>s.heap.get? l=some ob/\R (.ok (.ret (.ref l))) s):=
 .of_wp fun prog w A R s h=>by
  obtain⟨hp,g,d,tk,os⟩:=s;obtain⟨hl,h⟩:=h;obtain⟨c,dd,da,sl⟩:=ob;simp only at hc hd;subst hc hd;have e1:(decide (k < -(2^63)) || decide (k >= 2^63))=false:=by rw[KO (by lia),KO (by lia)];rfl
  have e2:(items.isEmpty || k == 1)=true:=by rw[NB.mpr h1,Bool.or_true]
  wp_walk using Ni hl;exact⟨_,rfl,h⟩
theorem yO(l:Addr)(items:Array Value)(ob:Obj)(n:Nat)(k:Int)(t:Tok)(hc:ob.cls=.type "tuple")(hd:ob.data=.seq items n)(hne:items.isEmpty=false)(h1:k<=0)(h2:-(2^63)<=k):
  Meets (Builtin.«tuple.__mul__» ⟨[.ref l,.int k t],[]⟩) (fun _ R s=>s.heap.get? l=some ob/\R (.ok (.ret (.ref s.heap.objs.size))) {s with heap:=s.heap.push {cls:=.type "tuple",data:=.seq #[]}}):=
 .of_wp fun prog w A R s h=>by
  obtain⟨hp,g,d,tk,os⟩:=s;obtain⟨hl,h⟩:=h;obtain⟨c,dd,da,sl⟩:=ob;simp only at hc hd;subst hc hd;have e1:(decide (k < -(2^63)) || decide (k >= 2^63))=false:=by rw[KO (by lia),KO (by lia)];rfl
  have e2:(items.isEmpty || k == 1)=false:=by rw[hne,Lh.mpr (by lia)];rfl
  have e3:(decide (k<=0) || items.isEmpty)=true:=by rw[L4 h1];rfl
  wp_walk using Ni hl;rw[Kx (by rw[e1];exact K5)]
  have ht:IsTup (Shared.heap ⟨hp,g,d,tk,os⟩) l items:=⟨_,hl,rfl,n,rfl⟩;show wpAny _ _ (Builtin.Tuple.tupleItemsOf (.ref l) >>= _) _ _ _;refine Ku (tupleItemsOf_ ht ?_);rw[Kx (by rw[e2];exact K5)]
  show wpAny _ _ (if (decide (k<=0) || items.isEmpty)=true then _ else _) _ _ _
  rw[Kz e3];exact Ku (m:=Builtin.Tuple.tupleExact _) (LN (K1 ⟨_,rfl,h⟩) (show (#[]:Array Value).size<=sizeLine by decide))
noncomputable def C6(K:Pq):R2:=fun x y H Q=>∃ a k xs,x=.ref a/\y=.int k/\aW K H a xs/\xs≠[]/\k<=1/\-(2^63)<=k/\(k=1->Q (.ref a) H)/\(k<=0->∀ p,H p=none->Q (.ref p) (upd H p (.tup [])))
theorem BL:cW X (binaryOp .Mult) (C6 X.K):=by
 intro pins s σ H x y v u Q I rx ry h;obtain⟨a,k,xs,rfl,rfl,hx,hne,h1,h2,q1,q0⟩:=h;cases rx;obtain⟨t,rfl⟩:=ry;obtain⟨its,r,p,hz⟩:=I.tuple hx;obtain⟨ob,ho,hc,n,hd⟩:=id p;have hlen:=r.length;have hemp:its.toArray.isEmpty=false:=by
  cases its with
  |nil=>cases r;exact absurd rfl hne
  |cons a b=>rfl
 by_cases c:k=1
 ·exact Mx (T:="tuple") (U:="int") (by decide) ⟨_,ho,hc⟩ (fun s'=>MK s' k t) d9 PySem.F.fills_int_mul PySem.F.slot_int_rmul gi PySem.F.slot_int_index.lookup
   (LF PySem.F.slot_int_rmul (MK s k t) PySem.F.entry_int_rmul (PySem.F.args_int_rmul_2 _ _) (jD k t a ob its.toArray n hc hd)
    ⟨ho,rfl,⟨_,ho,hc⟩,LF PySem.F.slot_tuple_mul ⟨_,ho,hc⟩ PySem.F.entry_tuple_mul (PySem.F.args_tuple_mul_2 _ _) (xw a its.toArray ob n k t hc hd c) ⟨ho,⟨.ref a,H,I,rfl,q1 c⟩⟩⟩)
 ·refine Mx (T:="tuple") (U:="int") (by decide) ⟨_,ho,hc⟩ (fun s'=>MK s' k t) d9 PySem.F.fills_int_mul PySem.F.slot_int_rmul gi PySem.F.slot_int_index.lookup
   (LF PySem.F.slot_int_rmul (MK s k t) PySem.F.entry_int_rmul (PySem.F.args_int_rmul_2 _ _) (jD k t a ob its.toArray n hc hd)
    ⟨ho,rfl,⟨_,ho,hc⟩,LF PySem.F.slot_tuple_mul ⟨_,ho,hc⟩ PySem.F.entry_tuple_mul (PySem.F.args_tuple_mul_2 _ _) (yO a its.toArray ob n k t hc hd hemp (by lia) h2) ⟨ho,?_⟩⟩)
  refine⟨.ref s.heap.objs.size,_,I.laid (t':=s.toks) (o:=.tup []) (fun b ob q=>Kv _ q) (K2 _) ?_,rfl,q0 (by lia) _ (I.aD.fresh (K2 _))⟩
  exact⟨KY _,[],.nil,cX.new _ _⟩
noncomputable def C2(K:Pq):R2:=fun x y H Q=>xF K x y H Q\/C6 K x y H Q
theorem zM(K:Pq)(hK:X.K=K):cW X (binaryOp .Mult) (C2 K):=by subst hK;exact (dB X.K rfl).or BL
noncomputable def vO:U2:=fun r1 r2 μ Q=>match cont μ r1,cont μ r2 with
 |some (.int i),some (.int j)=>mO i j/\Q (.tr (.int (i*j))) μ
 |some (.lst xs),some (.int k)=>-(2^63)<=k/\k<2^63/\xs.length*k.toNat<=sizeLine/\Q (.fr (.lst (List.replicate k.toNat xs).flatten)) μ
 |some (.tup xs),some (.int k)=>(xs≠[]/\xs.length<=1000/\-(2^63)<=k/\k<=1000)/\Q (.tr (.tup (List.replicate k.toNat xs).flatten)) μ
 |_,_=>False
theorem A6:me K (C2 K) vO:=by
 intro F ad B σ H μ Q Qt x y r1 r2 hK l h1 h2 q k;unfold vO at q
 split at q
 ·rename_i i j e1 e2;exact .inl (cL F ad B σ H μ Q Qt x y r1 r2 hK l h1 h2 (by unfold kR;rw[e1,e2];exact q) k)
 ·rename_i xs j e1 e2;exact .inl (cL F ad B σ H μ Q Qt x y r1 r2 hK l h1 h2 (by unfold kR;rw[e1,e2];exact q) k)
 ·rename_i xs j e1 e2;by_cases c:1<j
  ·exact .inl (cL F ad B σ H μ Q Qt x y r1 r2 hK l h1 h2 (by unfold kR;rw[e1,e2];exact⟨⟨q.1.1,q.1.2.1,c,q.1.2.2.2⟩,q.2⟩) k)
  ·have a:=Hv.nX l h1 e1;have b:=h2.vw l e2;subst hK;obtain rfl:=Vw.cA b;have a':=a;obtain⟨_,_,rfl,na,ha,ra⟩:=Rep.tupI a;refine .inr ⟨_,_,_,rfl,rfl,aW.of ha,?_,by lia,q.1.2.2.1,fun e=>?_,fun e p hp=>?_⟩
   ·rintro rfl;cases ra;exact q.1.1 rfl
   ·subst e;have q2:=q.2;rw[show (1:Int).toNat=1 from rfl] at q2;simp only[List.replicate,LA,List.flatten_nil,Lj] at q2;exact k _ H _ μ (Vr.flat l a') Fr.refl (Kp.refl μ) q2
   ·have q2:=q.2;rw[show j.toNat=0 by lia] at q2
    exact k _ _ _ μ (Vr.uV l .nil hp) (Fr.same (bQ.new hp)) (Kp.refl μ) q2
 ·exact q.elim
theorem AU{e c:Option Expr}:YS X (.Raise e c pos) (fun _ _=>False):=⟨fun _ _ _=>False,⟨fun _ _ _ _ _ _ h=>h.elim⟩,fun _ _ _ _ _ _ _ _ _ _ h _=>h⟩
end Y
namespace A
theorem Dq(xs:List T)(k:Int)(μ:Mu)(Q:R->Mu->Prop):Y.vO (.tr (.tup xs)) (.tr (.int k)) μ Q=((xs≠[]/\xs.length<=1000/\-(2^63)<=k/\k<=1000)/\Q (.tr (.tup (List.replicate k.toNat xs).flatten)) μ):=rfl
end A
abbrev Xw:=T->Mu->Prop
abbrev UX:=Mu->(R->Mu->Prop)->Xw->Prop
abbrev Kn:=Ed->Xw->Mu->Prop
noncomputable def De(K:Pq)(mg:Str->Option Value)(x:Str)(f:Addr)(cdv:Value):Prop:=mg x=some (.ref f)/\∃(o:Obj) (fd:FuncData),K.lookup f=some o/\o.data=.func fd/\fd.code=cdv
abbrev UJ:=Mu->(Mu->Prop)->Prop
namespace Y
noncomputable def oX(t:T)(xs:List T):Bool:=xs.any fun y=>IL y t
theorem sE{x:V}{t:T}(h:Rep K H B x t)(f:aK t=true):∀{ys:List V} {us:List T},ai K H B ys us->us.all aK=true->dz x=true/\ys.all dz=true/\Iq x ys=oX t us
 |_,_,.nil,_=>by
  refine⟨?_,rfl,rfl⟩
  cases h<;>first|rfl|cases f
 |_,_,.cons h2 r,f2=>by
  rw[LW,L7] at f2;obtain⟨a1,a2,a3⟩:=sE h f r f2.2;obtain⟨b1,b2,b3⟩:=Ck h2 h f2.1 f;refine⟨a1,by rw[LW,b1,a2];rfl,?_⟩
  unfold Iq oX at a3 ⊢;rw[MI,MI,b3,a3]
noncomputable def Gi(K:Pq)(neg:Bool):R2:=fun x y H Q=>JX K neg x y H Q\/∃ i j,x=.str i/\y=.str j/\Q (.bl (if neg then !(!(Builtin.Str.occurrences j i 0 j.length 1).isEmpty) else !(Builtin.Str.occurrences j i 0 j.length 1).isEmpty)) H
theorem Dy(K:Pq)(hK:X.K=K):cW X (compareOp .In) (Gi K false):=by subst hK;exact ud.or tQ
noncomputable def JN(i j:Str):Bool:=!(Builtin.Str.occurrences j i 0 j.length 1).isEmpty
noncomputable def JG(neg:Bool):T->T->Mu->(R->Mu->Prop)->Prop:=fun t u μ Q=>match u with
 |.tup xs=>aK t=true/\xs.all aK=true/\Q (.tr (.bl (if neg then !oX t xs else oX t xs))) μ
 |.lst xs=>aK t=true/\xs.all aK=true/\Q (.tr (.bl (if neg then !oX t xs else oX t xs))) μ
 |.dN xs=>aK t=true/\xs.all aK=true/\Q (.tr (.bl (if neg then !oX t xs else oX t xs))) μ
 |.str j=>(match t with|.str i=>Q (.tr (.bl (if neg then !JN i j else JN i j))) μ|_=>False)
 |_=>False
theorem Vw.kK{v:V}{t:T}(h:Vw K H B v t)(f:aK t=true):Rep K H B v t:=by
 cases h with
 |aM=>exact .aM
 |bl b=>exact .bl b
 |int i=>exact .int i
 |str x=>exact .str x
 |tup=>cases f
 |dN=>cases f
 |lst=>cases f
 |dW=>cases f
 |gw=>cases f
 |mH=>cases f
 |exc=>cases f
 |Au=>cases f
 |il=>cases f
theorem FK{neg:Bool}:me K (Gi K neg) (yV (JG neg)):=gY fun F ad B σ H μ Q Qt x y t u hK l v1 v2 q k=>by
 subst hK;unfold JG at q
 split at q
 ·obtain⟨f1,f2,q⟩:=q;obtain⟨_,_,rfl,ha,ra⟩:=Vw.tupI v2;obtain⟨a1,a2,a3⟩:=sE (Vw.kK v1 f1) f1 ra f2;exact .inl ⟨_,_,rfl,.inr (aW.of ha),a1,a2,by rw[a3];exact k _ H _ (Vr.flat l (.bl _)) Fr.refl q⟩
 ·obtain⟨f1,f2,q⟩:=q;obtain⟨_,_,rfl,ha,ra⟩:=Vw.dX v2;obtain⟨a1,a2,a3⟩:=sE (Vw.kK v1 f1) f1 ra f2;exact .inl ⟨_,_,rfl,.inl (bz.of ha),a1,a2,by rw[a3];exact k _ H _ (Vr.flat l (.bl _)) Fr.refl q⟩
 ·obtain⟨f1,f2,q⟩:=q;obtain⟨_,_,rfl,ha,ra⟩:=Vw.qC v2;obtain⟨a1,a2,a3⟩:=sE (Vw.kK v1 f1) f1 ra f2;exact .inl ⟨_,_,rfl,.inr (.inr ha),a1,a2,by rw[a3];exact k _ H _ (Vr.flat l (.bl _)) Fr.refl q⟩
 ·split at q
  ·obtain rfl:=Vw.fP v1;obtain rfl:=Vw.fP v2;exact .inr ⟨_,_,rfl,rfl,k _ H _ (Vr.flat l (.bl _)) Fr.refl q⟩
  ·exact q.elim
 ·exact q.elim
end Y
namespace A
theorem Jk(neg:Bool)(t:T)(xs:List T)(μ:Mu)(Q:R->Mu->Prop):Y.JG neg t (.dN xs) μ Q=(aK t=true/\xs.all aK=true/\Q (.tr (.bl (if neg then !Y.oX t xs else Y.oX t xs))) μ):=rfl
end A
theorem jB{k:Str}{t t':Tok}{prog:Program}{w:World}{A:Around}{E:Value->Shared->Prop}{Q:Option Fin×Unit->Shared->Prop}(hit:items[j]?=some (.str k t'))(hno:∀ m,m<j->∃ y ty,items[m]?=some (.str y ty)/\y≠k):∀(m i c:Nat) (s:Shared),i+m=j->m<c->Q (some (.done (.ret (.int (j:Nat) s.toks))),()) {s with toks:=s.toks+1} ->
  wpAny (model prog w) A (forIn (List.range' i c) ((none,()):Option Fin×Unit) fun i __s=>match items[i]? with
      |some y=>do
       let __do_lift <- eqBool y (Value.str k t)
       if __do_lift=true then do
         let __do_lift <- retInt (i:Nat)
         pure (ForInStep.done (some __do_lift,()))
        else pure (ForInStep.yield (none,()))
      |x=>pure (ForInStep.yield (none,()))) Q E s:=by
 intro m
 induction m with
 |zero =>
  intro i c s e hc h
  cases c with
  |zero=>exact absurd hc (MO _)
  |succ c =>
   obtain rfl:i=j:=e;rw[LK,Nb];simp only[hit];refine Ku (Ku (Ot ?_));rw[L4 rfl]
   wp_walk
   exact h
 |succ m ih =>
  intro i c s e hc h
  cases c with
  |zero=>exact absurd hc (MO _)
  |succ c =>
   obtain⟨y,ty,hy,ne⟩:=hno i (by lia)
   rw[LK,Nb];simp only[hy];refine Ku (Ku (Ot ?_));rw[KO ne];exact K1 (ih (i+1) c s (by lia) (by lia) h)
theorem tZ{n:Nat}{dd:Option Addr}{sl:Array (Option Value)}{k:Str}{t t':Tok}(hit:items[j]?=some (.str k t'))(hno:∀ m,m<j->∃ y ty,items[m]?=some (.str y ty)/\y≠k):
  Meets (Builtin.«tuple.index» ⟨[.ref p,.str k t],[]⟩) (fun A R s=>s.heap.get? p=some {cls:=.type "tuple",dict:=dd,data:=.seq items n,slots:=sl}/\R (.ok (.ret (.int (j:Nat) s.toks))) {s with toks:=s.toks+1}):=by
 intro prog w A R s h;obtain⟨hp,g,d,tk,os⟩:=s;obtain⟨ho,h⟩:=h;unfold Builtin.«tuple.index»;simp only[Std.Legacy.Range.forIn_eq_forIn_range'];wp_walk using ND ho;have hj:j<items.size:=by
  rcases LJ j items.size with z|z
  ·exact z
  ·rw[Of.mpr z] at hit;cases hit
 refine jB hit hno j 0 _ _ (Nh _) ?_ ?_
 ·simp[Std.Legacy.Range.size];exact hj
 ·exact K1 h
noncomputable def IP(K:Pq):V->List V->Hp->VK->Prop:=fun x vs H Q=>∃(a:Addr) (ws:List Str) (k:Str) (j:Nat),x=.ref a/\aW K H a (ws.map V.str)/\vs=[.str k]/\ws[j]?=some k/\(∀ m,m<j->ws[m]?≠some k)/\Q (.int (j:Nat)) H
theorem gG:∀{ws:List Str} {its:List Value},Vals (ws.map V.str) its->∀(m:Nat) (y:Str),ws[m]?=some y->∃ t,its[m]?=some (.str y t):=fun r m y e=>by
 obtain⟨u,h1,h2⟩:=r.get (i:=m) (x:=V.str y) (by rw[KL,e];rfl)
 obtain⟨t,rfl⟩:=(show RelV (.str y) u from h2);exact⟨t,h1⟩
theorem E4:zz X "tuple.index" (IP X.K):=by
 intro pins s σ H x xs v us Q I rx rs h;obtain⟨a,ws,k,j,rfl,hq,rfl,hj,hno,q⟩:=h;obtain rfl:v=Value.ref a:=rx;obtain⟨u,rfl,t,rfl⟩:=vals1 rs;obtain⟨its,r,pl,hz⟩:=I.tuple hq;obtain⟨⟨oc,od,oda,osl⟩,ho,hc,n,hd⟩:=id pl;obtain rfl:oc=.type "tuple":=hc;obtain rfl:oda=.seq its.toArray n:=hd;obtain⟨t',hit⟩:=gG r j k hj;refine LF PySem.F.slot_tuple_index ⟨_,ho,rfl⟩ PySem.F.entry_tuple_index (PySem.F.args_tuple_index_2 _ _) (tZ (j:=j) (t':=t') (by rw[La];exact hit) fun m hm=>?_) ⟨ho,⟨.int (j:Nat),H,I.tok _,⟨_,rfl⟩,q⟩⟩
 have hl:m<ws.length:=MT hm (K8.mp hj).1;have e:=Kw hl;obtain⟨ty,hy⟩:=gG r m _ e;exact⟨_,ty,by rw[La];exact hy,fun z=>hno m hm (by rw[e,z])⟩
open Builtin Builtin.Str
open PySem PySem.Spec PyProof PyProof.Rows
noncomputable def xA(K:Pq)(ws:List Str)(v:Value):Prop:=∃ p,v=.ref p/\zA K p (ws.map V.str)
structure lF (K:Pq) (a:Addr) (D:List (Str×List Str)):Prop where
 low:(a == sysModules)=false
 ex:∃ o es ep,K.lookup a=some o/\o.ExactDict/\o.data=.dict es ep/\KTD.Rows (xA K) es.toList D
section
variable {prog:Program} {w:World} {A:Around} {E:Value->Shared->Prop} {s:Shared} {K:Pq} {a:Addr} {D:List (Str×List Str)} {k:Str} {tk:Tok}
theorem lF.typeIs(T:lF K a D)(X:K.In s.heap):s.TypeIs (.ref a) "dict":=let ⟨o,_,_,ho,hc,_⟩:=T.ex;⟨o,X _ _ ho,hc.1⟩
theorem zw{Q:Option Value->Shared->Prop}(T:lF K a D)(X:K.In s.heap)(h1:∀ d v,KTD.datumAt k D=some d->xA K d v->Q (some v) {s with toks:=s.toks+1})(h2:KTD.datumAt k D=none->Q none {s with toks:=s.toks+1}):
  wpAny (model prog w) A (dictGet a (.str k tk)) Q E s:=by
 obtain⟨o,es,ep,ho,hc,hd,hr⟩:=T.ex;have ho:=X _ _ ho;unfold dictGet
 try with_reducible refine Lg ?_
 refine Ku (wpAny_pyHash_str (Ku (KTD.kt_dictFind_strs (s:={s with toks:=s.toks+1}) ho hd (by obtain⟨l⟩:=es;simpa using hr.exact) ?_)))
 have hq:Q (findBy (fun k v=>v.isStr k) es k) {s with toks:=s.toks+1}:=by
  have hf:findBy (fun k v=>v.isStr k) es k=(es.toList.find? fun e=>e.key.isStr k).map (·.val):=by
   obtain⟨l⟩:=es;simp[findBy]
  rw[hf]
  cases hat:KTD.datumAt k D with
  |some d=>obtain⟨v,hv,hfl⟩:=hr.find_some hat;rw[hv];exact h1 d v hat hfl
  |none=>rw[hr.find_none hat];exact h2 hat
 rw[findBy_of_findIdx?] at hq
 cases hi:es.findIdx? fun e=>e.key.isStr k with
 |none=>rw[hi] at hq;exact K1 hq
 |some i=>rw[hi] at hq;exact Ku (Np (s:={s with toks:=s.toks+1}) ho hd (K1 hq))
end
namespace Y
theorem kT:∀(more kvs:List (Key×V)),((kvs++more).map (·.1)).Nodup->fj kvs more=kvs++more
 |[],kvs,_=>by rw[Lj];rfl
 |p::r,kvs,h=>by
  have hn:gr kvs p.1=none:=by
   cases hv:gr kvs p.1 with
   |none=>rfl
   |some v =>
    have hm:=Ak hv;rw[KI,KN] at h;have:=List.nodup_append.mp h;exact absurd rfl (this.2.2 _ hm _ KD)
  show fj (putK kvs p.1 p.2) r=_;rw[v8 p.2 hn,kT r _ (by rw[KH];exact h),KH]
  rfl
noncomputable def Cg:V->List V->Hp->VK->Prop:=fun x vs H Q=>∃ z y,x=.str z/\vs=[.str y]/\Q (.int (Txt.find z y)) H
theorem BF{X:Cx}:zz X "str.find" Cg:=by
 intro pins s σ H x xs v us Q I rx rs h;obtain⟨z,y,rfl,rfl,q⟩:=h;obtain⟨t,rfl⟩:=rx;obtain⟨u,rfl,k,rfl⟩:=vals1 rs;exact SC.find ⟨.int _,H,I.tok _,⟨_,rfl⟩,q⟩
noncomputable def oo:HP:=fun z rs μ Q=>match rs with
 |[.tr (.str y)]=>Q (.tr (.int (Txt.find z y))) μ
 |_=>False
theorem B5{K:Pq}:JR K Cg oo:=by
 intro F ad B σ H μ Q Qt z xs rs hF l ps q k;unfold oo at q
 split at q
 ·obtain⟨_,_,rfl,h,ps⟩:=Paired.bW ps;obtain rfl:=Paired.jv ps
  cases bL h
  exact⟨z,_,rfl,rfl,k _ H _ μ (Vr.flat l (.int _)) Fr.refl (Kp.refl μ) q⟩
 ·exact q.elim
end Y
namespace A
theorem oo(z y:Str)(μ:Mu)(Q:R->Mu->Prop):Y.oo z [.tr (.str y)] μ Q=Q (.tr (.int (Txt.find z y))) μ:=rfl
end A
open Builtin Builtin.Str
open PySem PySem.Spec PyProof PyProof.Rows
variable{X:Cx}{pos:Pos}{K:Pq}{name:Str}{tk:Tok}{Q:Value->Shared->Prop}
inductive Ou where
 |no
 |ok (r:R)
 |ck (c:Prop) (r:R)
noncomputable def mG(o:Ou)(Q:R->Prop):Prop:=match o with
 |.no=>False
 |.ok r=>Q r
 |.ck c r=>c/\Q r
noncomputable def uJ(o:Option Sl)(i:Nat):Ou:=match o with
 |some (.tr t)=>.ok (.tr t)
 |some (.bx _)=>.ok (.br i)
 |some (.pb _)=>.ok (.br i)
 |_=>.no
noncomputable def tN(a b:Option T):Ou:=match a,b with
 |some (.int i),some (.int j)=>.ok (.tr (.int (i+j)))
 |some (.str i),some (.str j)=>.ck (i.length+j.length<=sizeLine) (.tr (.str (i++j)))
 |some (.lst xs),some (.lst ys)=>.ck (xs.length+ys.length<=sizeLine) (.fr (.lst (xs++ys)))
 |some (.tup xs),some (.tup ys)=>.ck (xs.length+ys.length<=sizeLine) (.tr (.tup (xs++ys)))
 |_,_=>.no
noncomputable def oQ(o:Option T):Ou:=match o with
 |some t=>.ok (.tr t)
 |none=>.no
noncomputable def Fd(a b:Option T):Ou:=match a,b with
 |some (.lst xs),some (.int i)=>oQ (bC xs i)
 |some (.tup xs),some (.int i)=>oQ (bC xs i)
 |some (.dN xs),some (.int i)=>oQ (bC xs i)
 |some (.str z),some (.int i)=>(match bC z.cps.toList i with|some c=>.ck (z.length<=sizeLine) (.tr (.str ⟨#[c]⟩))|none=>.no)
 |_,_=>.no
noncomputable def pf(a:T):Ou:=match a with
 |.lst xs=>.ok (.tr (.int xs.length))
 |.tup xs=>.ok (.tr (.int xs.length))
 |.dW xs=>.ok (.tr (.int xs.length))
 |.dN xs=>.ok (.tr (.int xs.length))
 |.str z=>.ck (z.length<=sizeLine) (.tr (.int z.length))
 |_=>.no
noncomputable def Fj(a:Option T)(lo hi:Option Int):Ou:=match a with
 |some (.lst xs)=>.ok (.fr (.lst (Y.bB xs lo hi)))
 |some (.dW xs)=>.ok (.fr (.lst (Y.bB xs lo hi)))
 |some (.tup xs)=>.ok (.tr (.tup (Y.bB xs lo hi)))
 |some (.str z)=>.ck (z.length<=sizeLine) (.tr (.str (Y.AZ z lo hi)))
 |_=>.no
theorem jE(p:Prop):(True/\p)=p:=propext ⟨fun h=>h.2,fun h=>⟨trivial,h⟩⟩
theorem Jf(o:Option Sl)(i:Nat)(Q:R->Prop):k_ (Dw o i) Q=mG (uJ o i) Q:=by
 cases o with
 |none=>rfl
 |some s=>cases s<;>first|rfl|exact jE _
theorem JC(a b:Option T)(Q:R->Prop):k_ (En a b) Q=mG (tN a b) Q:=by
 cases a with
 |none=>rfl
 |some a=>cases b with
  |none=>cases a<;>rfl
  |some b=>cases a<;>cases b<;>first|rfl|exact jE _
theorem bq(a b:Option T)(Q:R->Prop):k_ (Jn a b) Q=mG (Fd a b) Q:=by
 cases a with
 |none=>rfl
 |some a=>cases b with
  |none=>cases a<;>rfl
  |some b =>
   cases a<;>cases b<;>first
    |rfl
    | (rename_i xs i;show k_ (oT (bC xs i)) Q=mG (oQ (bC xs i)) Q;cases bC xs i with|none=>rfl|some t=>exact jE _)
    | (rename_i z i;show k_ (match bC z.cps.toList i with|some c=>some (z.length<=sizeLine,.tr (.str ⟨#[c]⟩))|none=>none) Q=mG (match bC z.cps.toList i with|some c=>.ck (z.length<=sizeLine) (.tr (.str ⟨#[c]⟩))|none=>.no) Q;cases bC z.cps.toList i<;>rfl)
theorem IH(a:T)(Q:R->Prop):k_ (Gw a) Q=mG (pf a) Q:=by cases a<;>first|rfl|exact jE _
theorem Kd(a:Option T)(lo hi:Option Int)(Q:R->Prop):k_ (Y.CQ a lo hi) Q=mG (Fj a lo hi) Q:=by
 cases a with
 |none=>rfl
 |some a=>cases a<;>first|rfl|exact jE _
namespace Y
noncomputable def xN(i:Nat):UE:=fun μ Q=>mG (uJ μ[i]? i) fun r=>Q r μ
noncomputable def vT:U2:=fun r1 r2 μ Q=>mG (tN (cont μ r1) (cont μ r2)) fun r=>Q r μ
noncomputable def EN:U2:=fun r1 r2 μ Q=>mG (Fd (cont μ r1) (cont μ r2)) fun r=>Q r μ
noncomputable def xW(t:T)(μ:Mu)(Q:R->Mu->Prop):Prop:=mG (pf t) fun r=>Q r μ
noncomputable def Ax(ue:UE)(ul uh:UO):UE:=fun μ Q=>ue μ fun r μ1=>ul μ1 fun lo μ2=>uh μ2 fun hi μ3=>mG (Fj (cont μ3 r.d) lo hi) fun r=>Q r μ3
noncomputable def vP(ue:UE):UI:=fun μ Rt=>ue μ fun r μ'=>FV (Ep r μ') fun ts g=>Rt ts g μ'
noncomputable def Ft(n:Nat)(gs:sL):UG:=fun r μ Q=>match zv (cont μ r.d) with|some ts=>ts.length=n/\gs ts μ Q|none=>False
noncomputable def vW(ue:UE):UT:=fun μ Q=>ue μ fun r μ'=>match v_ r with|some b=>Q b μ'|none=>False
theorem JJ(i:Nat):mf i=xN i:=funext fun μ=>funext fun Q=>(A.mf i μ Q).trans (Jf _ _ _)
theorem Jd:gJ=vT:=funext fun r1=>funext fun r2=>funext fun μ=>funext fun Q=>(A.gJ r1 r2 μ Q).trans (JC _ _ _)
theorem Kk:pw=EN:=funext fun r1=>funext fun r2=>funext fun μ=>funext fun Q=>(A.pw r1 r2 μ Q).trans (bq _ _ _)
theorem J8:ou=xW:=funext fun t=>funext fun μ=>funext fun Q=>(A.ou t μ Q).trans (IH _ _)
theorem Ke(ue:UE)(ul uh:UO):Dl ue ul uh=Ax ue ul uh:=funext fun μ=>funext fun Q=>by
 unfold Dl Ax;congr 1;funext r μ1;congr 1;funext lo μ2;congr 1;funext hi μ3;exact Kd _ _ _ _
theorem Kj(ue:UE):Cz ue=vP ue:=funext fun μ=>funext fun Rt=>A.Cz ue μ Rt
theorem eT(n:Nat)(gs:sL):gT n gs=Ft n gs:=funext fun r=>funext fun μ=>funext fun Q=>A.gT n gs r μ Q
theorem Jb(ue:UE):nF ue=vW ue:=funext fun μ=>funext fun Q=>A.nF ue μ Q
theorem vS{x:Str}(i:Nat)(hN:autoParam (X.N[i]?=some x) ℜ0)(hv:autoParam (Dm X.env.scope x) ℜ4)(hd:autoParam ((x ==("__debug__":Str))=false) ℜ1)
  (hcd:autoParam ((x ==("__classdict__":Str))=false) ℜ1):YE X (.Name x pos) (xN i):=JJ i ▸ v i hN hv hd hcd
theorem aI:me K (wz K) vT:=Jd ▸ DP
theorem aA:me K (Ik K) EN:=Kk ▸ GJ
theorem bS:RC K (xE K) (qw xW):=J8 ▸ EO
theorem fq{e:Expr}{ue:UE}{p2:Pos}{lo hi:Option Expr}{ul uh:UO}(K:Pq)(hK:X.K=K)(he:YE X e ue)(hl:YO X lo ul)(hu:YO X hi uh):YE X (.Subscript e (.Slice lo hi none p2) pos) (Ax ue ul uh):=Ke ue ul uh ▸ EZ K hK he hl hu
theorem anyS{tg e:Expr}{ue:UE}(K:Pq)(hK:X.K=K)(he:YE X e ue):YI X tg e (vP ue):=Kj ue ▸ any K hK he
theorem zj{es:List Expr}(K:Pq)(hK:X.K=K){k n:Nat}{gs:sL}(hc:X.calm=true)(h:FH X es gs)(hn:autoParam ((assignEach es X.env).length=n) ℜ0)(hst:autoParam ((assignEach es X.env).findIdx? (·.1)=none) ℜ0):YG X (.Tuple es k pos) (Ft n gs):=eT n gs ▸ qd K hK hc h hn hst
theorem i6{a:Expr}{ua:UE}(K:Pq)(hK:X.K=K)(ha:YE X a ua)(he:autoParam (Z.Ia a=true) ℜ0):YT X a (vW ua):=Jb ua ▸ Ae K hK ha he
end Y
namespace A3
theorem Ah(t:T):oQ (some t)=.ok (.tr t):=rfl
theorem mf(i:Nat)(μ:Mu)(Q:R->Mu->Prop):Y.xN i μ Q=mG (uJ μ[i]? i) fun r=>Q r μ:=rfl
theorem gJ(r1 r2:R)(μ:Mu)(Q:R->Mu->Prop):Y.vT r1 r2 μ Q=mG (tN (cont μ r1) (cont μ r2)) fun r=>Q r μ:=rfl
theorem Fp(r1 r2:R)(μ:Mu)(Q:R->Mu->Prop):Y.EN r1 r2 μ Q=mG (Fd (cont μ r1) (cont μ r2)) fun r=>Q r μ:=rfl
theorem ou(t:T)(μ:Mu)(Q:R->Mu->Prop):Y.xW t μ Q=mG (pf t) fun r=>Q r μ:=rfl
theorem IG(ue:UE)(ul uh:UO)(μ:Mu)(Q:R->Mu->Prop):Y.Ax ue ul uh μ Q=ue μ fun r μ1=>ul μ1 fun lo μ2=>uh μ2 fun hi μ3=>mG (Fj (cont μ3 r.d) lo hi) fun r=>Q r μ3:=rfl
theorem Cz(ue:UE)(μ:Mu)(Rt:List T->Option (Nat×List T)->Mu->Prop):Y.vP ue μ Rt=ue μ fun r μ'=>FV (Ep r μ') fun ts g=>Rt ts g μ':=rfl
theorem gT(n:Nat)(gs:sL)(r:R)(μ:Mu)(Q:Mu->Prop):Y.Ft n gs r μ Q=(match zv (cont μ r.d) with|some ts=>ts.length=n/\gs ts μ Q|none=>False):=rfl
theorem nF(ue:UE)(μ:Mu)(Q:Bool->Mu->Prop):Y.vW ue μ Q=ue μ fun r μ'=>match v_ r with|some b=>Q b μ'|none=>False:=rfl
theorem IV(t:T)(i:Nat):uJ (some (.tr t)) i=.ok (.tr t):=rfl
theorem IQ(t:T)(i:Nat):uJ (some (.bx t)) i=.ok (.br i):=rfl
theorem Jj(t:T)(i:Nat):uJ (some (.pb t)) i=.ok (.br i):=rfl
theorem Gb(i j:Int):tN (some (.int i)) (some (.int j))=.ok (.tr (.int (i+j))):=rfl
theorem add_l(xs ys:List T):tN (some (.lst xs)) (some (.lst ys))=.ck (xs.length+ys.length<=sizeLine) (.fr (.lst (xs++ys))):=rfl
theorem FY(xs ys:List T):tN (some (.tup xs)) (some (.tup ys))=.ck (xs.length+ys.length<=sizeLine) (.tr (.tup (xs++ys))):=rfl
theorem Jt(xs:List T)(i:Int):Fd (some (.lst xs)) (some (.int i))=oQ (bC xs i):=rfl
theorem ID(xs:List T)(i:Int):Fd (some (.tup xs)) (some (.int i))=oQ (bC xs i):=rfl
theorem Jl(z:Str)(i:Int):Fd (some (.str z)) (some (.int i))=(match bC z.cps.toList i with|some c=>.ck (z.length<=sizeLine) (.tr (.str ⟨#[c]⟩))|none=>.no):=rfl
theorem FP(xs:List T):pf (.lst xs)=.ok (.tr (.int xs.length)):=rfl
theorem G5(xs:List T):pf (.tup xs)=.ok (.tr (.int xs.length)):=rfl
theorem FO(xs:List T):pf (.dW xs)=.ok (.tr (.int xs.length)):=rfl
theorem Jy(xs:List T)(lo hi:Option Int):Fj (some (.lst xs)) lo hi=.ok (.fr (.lst (Y.bB xs lo hi))):=rfl
theorem JE(xs:List T)(lo hi:Option Int):Fj (some (.dW xs)) lo hi=.ok (.fr (.lst (Y.bB xs lo hi))):=rfl
theorem Iy(xs:List T)(lo hi:Option Int):Fj (some (.tup xs)) lo hi=.ok (.tr (.tup (Y.bB xs lo hi))):=rfl
end A3
open Builtin Builtin.Str
section
variable {prog:Program} {w:World} {A:Around} {E:Value->Shared->Prop} {h:Heap} {g:Array GenState} {d:Drawn} {t:Nat} {os:OsState} {a:Addr} {items:Array Value} {cn:Nat}
theorem AN:typeLookup (.type "list") "keys"=pure none:=am_miss_of_fast (by kernel_rfl)
theorem qr:typeLookup (.type "list") "__getattr__"=pure none:=by rw[typeLookup_type,builtinLookup_eq_fast];kernel_rfl
theorem wu{Q:Fin->Shared->Prop}(hx:h.get? a=some {cls:=.type "list",dict:=none,data:=.seq items cn,slots:=#[]})(hmiss:typeLookup (.type "list") name=pure none)(hnc:(["__module__","__name__","__qualname__","__doc__","__annotations__"]:List Str).contains name=false)(hh:A.handled=none)
  (hq:∀ h' tk' e,Heap.NewAttrErr h h' e (.ref a) name->E (.ref e) ⟨h',g,d,tk',os⟩) (hsz:name.length+100<=sizeLine:=by size_fits) :
  wpAny (model prog w) A (Builtin.«object.__getattribute__» ⟨[.ref a,.str name tk],[]⟩) Q E ⟨h,g,d,t,os⟩:=by
 have hT:(⟨h,g,d,t,os⟩:Shared).TypeIs (.ref a) "list":=⟨_,hx,rfl⟩;unfold Builtin.«object.__getattribute__»
 repeat (any_goals (first|assumption|wp_step))
 rw[Kx (by rw[hnc];decide)]
 repeat (any_goals (first|assumption|wp_step))
 exact wpAny_raiseAttrError hh hq (attrMsg_fits (by decide +kernel) hsz)
theorem AL{R:Result->Shared->Prop}(hx:h.get? a=some {cls:=.type "list",dict:=none,data:=.seq items cn,slots:=#[]})(hmiss:typeLookup (.type "list") name=pure none)(hnc:(["__module__","__name__","__qualname__","__doc__","__annotations__"]:List Str).contains name=false)(hh:A.handled=none)
  (hq:∀ h' tk' e,Heap.NewAttrErr h h' e (.ref a) name->R (.error (.ref e)) ⟨h',g,d,tk',os⟩) (hsz:name.length+100<=sizeLine:=by size_fits) :
  codeAny (model prog w) A (.call (.builtin "list.__getattribute__") ⟨[.ref a,.str name tk],[]⟩) R ⟨h,g,d,t,os⟩:=
 codeAny_call_builtin M9.plain F.entry_list_ga (M9.check _ _ _ _ _ _ _ _ (show (⟨h,g,d,t,os⟩:Shared).TypeIs (.ref a) "list" from⟨_,hx,rfl⟩) (F.args_list_getattribute_2 _ _) (wu hx hmiss hnc hh hq hsz))
theorem FL(hx:h.get? a=some {cls:=.type "list",dict:=none,data:=.seq items cn,slots:=#[]})(hmiss:typeLookup (.type "list") name=pure none)(hnc:(["__module__","__name__","__qualname__","__doc__","__annotations__"]:List Str).contains name=false)(hh:A.handled=none)
  (hq:∀ h' tk' e,Heap.NewAttrErr h h' e (.ref a) name->E (.ref e) ⟨h',g,d,tk',os⟩) (hsz:name.length+100<=sizeLine:=by size_fits) :
  wpAny (model prog w) A (getAttrBy (.ref a) (.str name tk) false) Q E ⟨h,g,d,t,os⟩:=by
 have hT:(⟨h,g,d,t,os⟩:Shared).TypeIs (.ref a) "list":=⟨_,hx,rfl⟩;have f1:=sub_AttributeError;have f2:=M9.lookup;have f3:=M9.bind (.ref a);have f5:=qr
 repeat (any_goals (first|assumption|wp_step))
 refine AL hx hmiss hnc hh (fun h' tk' e x=>?_) hsz;obtain⟨t',u',he⟩:=x.there;show wpAny _ _ (getattributeRaised _ _ _ _ _ _ _) _ _ _;unfold getattributeRaised
 repeat (any_goals (first|assumption|wp_step))
 exact hq _ _ _ x
theorem Bz{Q:Option Value->Shared->Prop}(hx:h.get? a=some {cls:=.type "list",dict:=none,data:=.seq items cn,slots:=#[]})(hmiss:typeLookup (.type "list") name=pure none)(hnc:(["__module__","__name__","__qualname__","__doc__","__annotations__"]:List Str).contains name=false)(hh:A.handled=none)
  (hq:∀ h' tk',(∀ b o,h.get? b=some o->h'.get? b=some o)->Q none ⟨h',g,d,tk',os⟩) (hsz:name.length+100<=sizeLine:=by size_fits) :
  wpAny (model prog w) A (getAttr? (.ref a) name) Q E ⟨h,g,d,t,os⟩:=by
 have f1:=sub_AttributeError;unfold getAttr? getAttrBy?;refine Ku (wpAny_mkText (Ku (Nu (FL hx hmiss hnc hh (fun h' tk' e x=>?_) hsz))));obtain⟨t',u',he⟩:=x.there;have k:=x.keeps
 repeat (any_goals (first|assumption|wp_step))
 exact hq _ _ x.keeps
end
section
variable {prog:Program} {w:World} {K:Type} [DecidableEq K] {knd:KeyKind prog w K} {A:Around} {R:Result->Shared->Prop}
theorem gO:plainId "dict.update.loop"=true:=by decide +kernel
theorem fW:entryFor table "dict.update.loop"=some Builtin.«dict.update.loop»:=entryFor_of_fast (by kernel_rfl)
theorem qB(kvs:List (K×Value))(k:K)(v:Value):(stored kvs k v).length<=kvs.length+1:=by
 unfold stored;split
 ·rw[K3];lia
 ·rw[K0];simp
theorem ju:∀(more kvs:List (K×Value)),(merged kvs more).length<=kvs.length+more.length
 |[],kvs=>by unfold merged;simp
 |p::more,kvs=>by
  have h1:=ju more (stored kvs p.1 p.2);have h2:=qB kvs p.1 p.2;have e:merged kvs (p::more)=merged (stored kvs p.1 p.2) more:=rfl;rw[e,K6];lia
theorem BI{it l dd:Addr}{items:Array Value}{more:List (K×Value)}(hh:A.handled=none)(hn:more.length=items.size)(h1:dd≠it)(h2:dd≠l)(h3:it≠l)(ps:Nat->Addr)(hps:∀ i,i<items.size->items[i]?=some (.ref (ps i))/\ps i≠it/\ps i≠dd)(hsz:more.length<=1000):
  ∀(k i:Nat) (s:Shared),items.size-i=k->i<=items.size->s.heap.IsListIter it l i->s.heap.IsList l items->s.heap.DictOf knd dd (merged [] (more.take i)) ->
  (∀ j,j<items.size->∃ key v,s.heap.IsTuple (ps j) #[key,v]/\∃ kk,more[j]?=some (kk,v)/\knd.is kk key=true) ->
  (∀ h' tk,h'.DictOf knd dd (merged [] more)->(∀ b o,b≠it->b≠dd->s.heap.get? b=some o->h'.get? b=some o)->R (.ok (.ret .none)) {s with heap:=h',toks:=tk}) ->
  codeAny (model prog w) A (.builtin "dict.update.loop" ⟨[.ref dd,.ref it,rawInt i,.none],[]⟩) R s:=by
 intro k
 induction k with
 |zero =>
  intro i s hk hi hit hl hd hp hR;have hin:i=items.size:=by lia
  subst hin;refine NI fW ?_;rw[Around.under_plainId gO _];show wpAny _ A.in1 (pyNext (.ref it) >>= _) _ _ s;refine Ku (N2 hh hit hl (by simp) fun h' he=>?_)
  refine Ku (K1 (K1 ?_));refine hR h' s.toks ?_ fun b o b1 b2 e=>he b o b1 e;rw[LU (by lia)] at hd
  exact hd.extBut he h1
 |succ k ih =>
  intro i s hk hi hit hl hd hp hR;have hlt:i<items.size:=by lia
  refine NI fW ?_;rw[Around.under_plainId gO _];show wpAny _ A.in1 (pyNext (.ref it) >>= _) _ _ s;obtain⟨e1,e2,e3⟩:=hps i hlt;refine Ku (Nq hit hl e1 fun h' hit' hs'=>?_);obtain⟨key,v,ht,kk,em,hkk⟩:=hp i hlt;have ht':h'.IsTuple (ps i) #[key,v]:=by obtain⟨o,ho,r⟩:=ht;exact⟨o,(hs'.2 _ e2).trans ho,r⟩
  have hd':h'.DictOf knd dd (merged [] (more.take i)):=by obtain⟨o,es,ep,ho,r⟩:=hd;exact⟨o,es,ep,(hs'.2 _ h1).trans ho,r⟩
  refine Ku (Lg (Ku (wpAny_tryCatch ?_)));unfold Dict.pairItems;refine Ku (NG ht'.typeIs ?_);rw[Kz (by decide)]
  obtain⟨o,ho,hoc,nn,hod⟩:=id ht';refine Ku (Ma ho hod (K1 ?_));show wpAny _ A.in1 (holding [key,v] (dictSet dd key v)) _ _ _;refine Lg (wpAny_dictSet_pairs hkk hd' (fun h2' hd2 hs2=>?_) ?_)
  rotate_left
  ·exact KG (ju _ _) (KG (by rw[Lf,Nh,Ld];exact KG (Nat.min_le_right _ _) hsz) (by decide))
  have et:merged [] (more.take (i+1))=stored (merged [] (more.take i)) kk v:=by
   have hlt':i<more.length:=by lia
   have:more[i]=(kk,v):=by rw[Kw hlt'] at em;exact Option.some.inj em
   rw[N0 hlt',this];unfold merged;rw[List.foldl_append];rfl
  refine K1 ⟨plainId_quiet gO _,?_⟩;have:=ih (i+1) {s with heap:=h2',toks:=s.toks+1} (by lia) hlt (by obtain⟨o,ho,r⟩:=hit';exact⟨o,(hs2.2 _ (Ne.symm h1)).trans ho,r⟩) (by obtain⟨o,ho,r⟩:=hl;exact⟨o,(hs2.2 _ (Ne.symm h2)).trans ((hs'.2 _ (Ne.symm h3)).trans ho),r⟩) (by rw[et];exact hd2) (fun j hj=>by
   obtain⟨key,v,⟨o,ho,r⟩,rr⟩:=hp j hj;obtain⟨f1,f2,f3⟩:=hps j hj;exact⟨key,v,⟨o,(hs2.2 _ f3).trans ((hs'.2 _ f2).trans ho),r⟩,rr⟩) (fun h3' tk hd3 hk3=>hR h3' tk hd3 fun b o b1 b2 e=>hk3 b o b1 b2 ((hs2.2 _ b2).trans ((hs'.2 _ b1).trans e)))
  exact this
theorem qL{E:Value->Shared->Prop}{s:Shared}{l:Addr}{items:Array Value}{cn:Nat}{more:List (K×Value)}(hl:s.heap.get? l=some {cls:=.type "list",dict:=none,data:=.seq items cn,slots:=#[]})(hh:A.handled=none)(hn:more.length=items.size)(hsz:more.length<=1000)
  (ps:Nat->Addr) (hps:∀ i,i<items.size->items[i]?=some (.ref (ps i))) (hp:∀ j,j<items.size->∃ key v,s.heap.IsTuple (ps j) #[key,v]/\∃ kk,more[j]?=some (kk,v)/\knd.is kk key=true)
  (h:∀ h' tk,h'.DictOf knd s.heap.objs.size (merged [] more)->(∀ b o,s.heap.get? b=some o->h'.get? b=some o)->Q (.ref s.heap.objs.size) {s with heap:=h',toks:=tk}) :
  wpAny (model prog w) A (call (.type "dict") [.ref l]) Q E s:=by
 refine callType_codes (Q₁:=fun obj s₁=>obj=.ref s.heap.objs.size/\s₁={s with heap:=s.heap.push {cls:=.type "dict",data:=.dict #[]}}) F.kt_called_dict (F.kt_typeCall_dict_1 _) F.entry_dict_init (kt_code_dict_new _ ⟨rfl,rfl⟩) ?_
 rintro obj s₁ ⟨rfl,rfl⟩;have hnew:(s.heap.push {cls:=.type "dict",data:=.dict #[]}).DictOf knd s.heap.objs.size []:=Heap.DictOf.new s.heap;refine⟨hnew.typeIs,F.args_dict_init_2 _ _,?_⟩;unfold Builtin.«dict.__init__»;refine Ku ?_;unfold Builtin.Dict.selfAndRest;refine Ku (wpAny_notOrdered_dict hnew.typeIs ?_);show wpAny _ _ (pure (s.heap.objs.size,[Value.ref l])) _ _ _;refine K1 ?_;show wpAny _ _ (Builtin.Dict.updateFrom "dict.__init__" s.heap.objs.size (.ref l) [] .none) _ _ _;unfold Builtin.Dict.updateFrom;have hl1:(s.heap.push {cls:=.type "dict",data:=.dict #[]}).get? l=some {cls:=.type "list",dict:=none,data:=.seq items cn,slots:=#[]}:=Kv _ hl;have hT:({s with heap:=s.heap.push {cls:=.type "dict",data:=.dict #[]}}:Shared).TypeIs (.ref l) "list":=⟨_,hl1,rfl⟩
 refine Ku (NG hT ?_);rw[Kz (by decide)]
 refine Ku ?_;refine Bz hl1 AN (by decide +kernel) hh (fun h1 tk1 k1=>?_)
 rw[Kz (show (none:Option Value).isNone=true from rfl)];have hl2:h1.IsList l items:=⟨_,k1 _ _ hl1,rfl,cn,rfl⟩;have up:∀ b o,s.heap.get? b=some o->h1.get? b=some o:=fun b o e=>k1 b o (Kv _ e);obtain⟨od,es,ep,hod,hor⟩:=hnew;have hdl:s.heap.objs.size<h1.objs.size:=KA (k1 _ _ hod);have hll:l<s.heap.objs.size:=KA hl;have hpl:∀ j,j<items.size->ps j<s.heap.objs.size:=fun j hj=>by obtain⟨key,v,⟨o,ho,_⟩,_⟩:=hp j hj;exact KA ho
 refine Ku (NC (Ku (LC hl2 (K1 ⟨plainId_quiet gO _,?_⟩))));refine BI (knd:=knd) (it:=h1.objs.size) (l:=l) (items:=items) (more:=more) (A:=A.in1) hh hn (KJ hdl) (Mo hll) (Mo (MT hll hdl)) ps (fun i hi=>⟨hps i hi,KJ (MT (hpl i hi) hdl),KJ (hpl i hi)⟩) hsz _ 0 _ rfl (KY _) ⟨_,K7 _ rfl,rfl,rfl⟩ ?_ ⟨od,es,ep,Kv _ (k1 _ _ hod),hor⟩ (fun j hj=>?_) (fun h' tk hd hk=>⟨rfl,h h' tk hd fun b o e=>hk b o ?_ ?_ (Kv _ (up b o e))⟩)
 ·obtain⟨o,ho,r⟩:=hl2;exact⟨o,Kv _ ho,r⟩
 ·obtain⟨key,v,⟨o,ho,r⟩,rr⟩:=hp j hj;exact⟨key,v,⟨o,Kv _ (up _ _ ho),r⟩,rr⟩
 ·exact KJ (MT (KA e) hdl)
 ·exact KJ (KA e)
end
theorem kM{α β:Type}{F:α->β->Prop}:∀{l₁:List α} {l₂:List β},l₁.length=l₂.length->(∀(j:Nat) a b,l₁[j]?=some a->l₂[j]?=some b->F a b)->Paired F l₁ l₂
 |[],[],_,_=>.nil
 |[],_::_,h,_=>by cases h
 |_::_,[],h,_=>by cases h
 |a::l₁,b::l₂,h,f=>.cons (f 0 a b rfl rfl) (kM (Nat.succ.inj h) fun j x y hx hy=>f (j+1) x y (by simpa using hx) (by simpa using hy))
noncomputable def Bq(K:Pq)(H:Hp)(vs:List V)(kvs:List (Key×V)):Prop:=vs.length=kvs.length/\∀(j:Nat) (k:Key) (x:V),kvs[j]?=some (k,x)->∃ p,vs[j]?=some (.ref p)/\H p=some (.tup [kV k,x])
noncomputable def ET(K:Pq):List V->Hp->VK->Prop:=fun xs H Q=>∃ l vs kvs,xs=[.ref l]/\H l=some (.lst vs)/\Bq K H vs kvs/\kvs.length<=1000/\∀ p,H p=none->Q (.ref p) (upd H p (.dK (fj [] kvs)))
theorem nh(K:Pq)(hc:X.calm=true):aH X (.type "dict") (ET K):=by
 intro pins s σ H xs us Q I r h;obtain⟨l,vs,kvs,rfl,hl,hp,hk,q⟩:=h;obtain⟨u,rfl,e0⟩:=vals1 r;have e1:u=.ref l:=e0;subst e1;obtain⟨hlen,its,n,hv,hget⟩:=(show aP X.prog X.w H s.heap l (.lst vs) from I.aD l _ hl);have hsz:its.toArray.size=kvs.length:=by rw[<- hp.1,Ky,<- Paired.length hv]
 have key:∀ j,j<kvs.length->∃ p k x,kvs[j]?=some (k,x)/\its[j]?=some (.ref p)/\∃ ku xu,s.heap.IsTuple p #[ku,xu]/\gD k ku=true/\RelV x xu:=fun j hj=>by
  obtain⟨p,e1,e2⟩:=hp.2 j kvs[j].1 kvs[j].2 (Kw hj);obtain⟨u,e3,e4⟩:=Vals.get hv e1;have e5:u=.ref p:=e4;subst e5;obtain⟨_,ts,tv,hT⟩:=(show aP X.prog X.w H s.heap p (.tup [kV kvs[j].1,kvs[j].2]) from I.aD p _ e2);obtain⟨ku,xu,rfl,r1,r2⟩:=vals2 tv;exact⟨p,_,_,Kw hj,e3,ku,xu,hT.to,rY (P:=X.prog) (w:=X.w) r1,r2⟩
 obtain⟨f,hf⟩:=Classical.axiomOfChoice (r:=fun (j:Nat) (y:Addr×Value×Value)=>∀ hj:j<kvs.length,s.heap.IsTuple y.1 #[y.2.1,y.2.2]/\gD kvs[j].1 y.2.1=true/\RelV kvs[j].2 y.2.2/\its[j]?=some (.ref y.1)) (fun j=>by
  by_cases hj:j<kvs.length
  ·obtain⟨p,k,x,e1,e2,ku,xu,hT,h1,h2⟩:=key j hj;rw[Kw hj] at e1;have e1':kvs[j]=(k,x):=Option.some.inj e1;exact⟨(p,ku,xu),fun _=>⟨hT,by rw[e1'];exact h1,by rw[e1'];exact h2,e2⟩⟩
  ·exact⟨(0,.none,.none),fun h=>absurd h hj⟩)
 let mv:List (Key×Value):=(List.range kvs.length).map fun j=>((kvs[j]?.getD (.inl 0,.aM)).1,(f j).2.2)
 have hmv:mv.length=kvs.length:=by simp[mv]
 have hmj:∀ j (hj:j<kvs.length),mv[j]?=some (kvs[j].1,(f j).2.2):=fun j hj=>by
  simp only[mv,KL,M_ hj,Option.map_some,Kw hj,Option.getD_some]
 have at':∀ j (hj:j<kvs.length),∃ ku xu,s.heap.IsTuple (f j).1 #[ku,xu]/\gD kvs[j].1 ku=true/\RelV kvs[j].2 xu/\its[j]?=some (.ref (f j).1)/\mv[j]?=some (kvs[j].1,xu):=fun j hj=>by
  obtain⟨h1,h2,h3,h4⟩:=hf j hj;exact⟨_,_,h1,h2,h3,h4,hmj j hj⟩
 have hKV:KV kvs mv:=by
  refine kM (by rw[hmv]) fun j a b ha hb=>?_
  have hj:j<kvs.length:=by
   rcases LJ j kvs.length with c|c
   ·exact c
   ·rw[K_.mpr c] at ha;cases ha
  obtain⟨ku,xu,_,_,h2,_,h3⟩:=at' j hj;rw[Kw hj] at ha;cases ha;rw[h3] at hb;cases hb;exact⟨rfl,h2⟩
 refine qL (knd:=b7 X.prog X.w) hget (I.ok.hd hc) (by rw[hmv,hsz]) (by rw[hmv];exact hk) (fun j=>(f j).1) (fun i hi=>?_) (fun j hj=>?_) (fun h' tk hd hkp=>?_)
 ·rw[hsz] at hi;obtain⟨_,_,_,_,_,e,_⟩:=at' i hi;rw[La];exact e
 ·rw[hsz] at hj;obtain⟨ku,xu,hT,h1,_,_,h3⟩:=at' j hj;exact⟨ku,xu,hT,_,h3,h1⟩
 ·have hz:(fj [] kvs).length<=sizeLine:=by
   have h1:=fX kvs [];rw[Lf] at h1;exact KG (show _<=1000 by lia) (by decide)
  exact⟨.ref s.heap.objs.size,_,I.laid (t':=tk) hkp (K2 _) (wj hz (Lh.mpr (Ne.symm (KJ I.big))) (hKV.merge .nil) hd),rfl,q _ (I.aD.fresh (K2 _))⟩
open PySem PySem.Spec PyProof PyProof.Rows
namespace Z
section
variable {X:Cx} {CX:m_} {k:Nat} {f C:Addr} {fd:FuncData} {ps:List Str} {sp:Sp} {E:XK} {x m nm:Str} {p pos pos' apos:Pos} {e o i value:Expr} {es:List Expr} {ta tv td ty:TE} {t:TA}
theorem fld(K:Pq)(hK:X.K=K)(he:QE X e ta)(hb:autoParam (attributeBase e nm X.env (eval e X.env)=eval e X.env) ℜ0):QE X (.Attribute e nm pos) (we K ta nm):=by subst hK;exact⟨EE he.h hb⟩
theorem yk(K:Pq)(hK:X.K=K)(ha:QE X o ta)(hv:QE X value tv)(hs:autoParam (swapsWith value (some (.Attribute o nm pos')) pos.line X.env=pure false) ℜ0):QS X (.Assign [.Attribute o nm pos'] value pos) (vD K ta tv nm):=by subst hK;exact⟨E6 ha.h hv.h hs⟩
theorem Ei(K:Pq)(hK:X.K=K){pl:Sem Bool}(he:QE X o ta)(c:jU K C)(hm:Meth K C m f)(F:bD X.prog X.w K X.mg X.base CX k f fd ps sp)(hr:ba k X.A)(hb:Binds K fd ps [])(hx:Passes CX X E)(ha:QA X (e::es) t)
  (hst:autoParam (starEach (e::es) X.env=(false,eval e X.env)::starEach es X.env) ℜ0) (hpl:autoParam ((backTo pos (starEach es X.env)).any (·.1)=false) ℜ0)
  (ht:autoParam (eval (.Call (.Attribute o m apos) (e::es) [] pos) X.env=(do
   let ov <- eval o X.env
   standAt apos.atName
   let (f,first) <- holding [ov] (getMethod ov m pl)
   callWith pos f first (backTo pos (starEach (e::es) X.env)) (backToKw pos (keywordEach [] X.env)))) ℜ0) :
  QE X (.Call (.Attribute o m apos) (e::es) [] pos) (j7 C m sp [] E ta t):=by subst hK;exact⟨Bn (pl:=pl) he.h c hm F hr hb .nil hx ha.h hst hpl ht⟩
theorem xU(K:Pq)(hK:X.K=K){pl:Sem Bool}(he:QE X o ta)(c:jU K C)(hm:Meth K C m f)(F:bD X.prog X.w K X.mg X.base CX k f fd ps sp)(hr:ba k X.A)(hb:Binds K fd ps [])(hx:Passes CX X E)
  (ht:autoParam (eval (.Call (.Attribute o m apos) [] [] pos) X.env=(do
   let ov <- eval o X.env
   standAt apos.atName
   let (f,first) <- holding [ov] (getMethod ov m pl)
   callWith pos f first (backTo pos (starEach [] X.env)) (backToKw pos (keywordEach [] X.env)))) ℜ0) :
  QE X (.Call (.Attribute o m apos) [] [] pos) (j7 C m sp [] E ta iX):=by subst hK;exact⟨xJ (pl:=pl) he.h c hm F hr hb .nil hx ht⟩
theorem make(K:Pq)(hK:X.K=K)(M:Mk K C f)(F:bD X.prog X.w K X.mg X.base CX k f fd ps sp)(hr:ba (k+1) X.A)(hg:Gl X x)(hm:X.mg x=some (.ref C))(hb:Binds K fd ps [])(hx:Passes CX X E)
  (ha:QA X (e::es) t) (hdb:autoParam ((x ==("__debug__":Str))=false) ℜ1) (he:autoParam (starEach (e::es) X.env=(false,eval e X.env)::starEach es X.env) ℜ0) (hpl:autoParam ((backTo pos (starEach es X.env)).any (·.1)=false) ℜ0) :
  QE X (.Call (.Name x p) (e::es) [] pos) (oz C sp [] E t):=by subst hK;exact⟨Al M F hr hg hm hb .nil hx ha.h hdb he hpl⟩
theorem yx(hu:X.A.units+1<cLine)(ho:QE X o td)(hi:QE X i ty)(hs:wB i:=by exact fun _ _=>rfl):QE X (.Subscript o i pos) (oA td ty):=⟨Av hu ho.h hi.h hs⟩
theorem dput(hu:X.A.units+1<cLine)(ho:QE X o td)(hi:QE X i ty)(hv:QE X value tv)(hs:autoParam (swapsWith value (some (.Subscript o i pos')) pos.line X.env=pure false) ℜ0):QS X (.Assign [.Subscript o i pos'] value pos) (mW td ty tv):=⟨A9 hu ho.h hi.h hv.h hs⟩
end
end Z
namespace Ap
theorem we(K:Pq)(ta:TE)(f:Str)(σ:St)(H:Hp)(Q:VK):L2.we K ta f σ H Q=ta σ H fun x H1=>∃ a C dx fs v,x=.ref a/\H1 a=some (.ins C dx fs)/\jU K C/\aY K C f/\fs.lookup f=some v/\Q v H1:=rfl
theorem vD(K:Pq)(ta tv:TE)(f:Str)(D:Ends)(σ:St)(H:Hp):L2.vD K ta tv f D σ H=tv σ H fun y H1=>ta σ H1 fun x H2=>∃ a C dx fs,x=.ref a/\H2 a=some (.ins C dx fs)/\jU K C/\aY K C f/\fs.length<1000/\D.nx σ (upd H2 a (.ins C dx (cZ f y fs))):=rfl
theorem j7(C:Addr)(m:Str)(sp:Sp)(dvs:List V)(E:XK)(ta:TE)(t:TA)(σ:St)(H:Hp)(Q:VK):L2.j7 C m sp dvs E ta t σ H Q=ta σ H fun x H1=>∃ a dx fs,x=.ref a/\H1 a=some (.ins C dx fs)/\fs.lookup m=none/\t σ H1 fun vs H2=>sp (x::(vs++dvs)) H2 Q E:=rfl
theorem oz(C:Addr)(sp:Sp)(dvs:List V)(E:XK)(t:TA)(σ:St)(H:Hp)(Q:VK):L2.oz C sp dvs E t σ H Q=t σ H fun vs H1=>∀ x dx,H1 x=none->H1 dx=none->dx≠x->sp (.ref x::(vs++dvs)) (upd (upd H1 dx (.own x)) x (.ins C dx [])) (fun v H2=>v=.aM/\Q (.ref x) H2) E:=rfl
theorem oA(td ty:TE)(σ:St)(H:Hp)(Q:VK):L2.oA td ty σ H Q=td σ H fun x H1=>ty σ H1 fun y H2=>∃ a v,x=.ref a/\va H2 a y (some v)/\Q v H2:=rfl
theorem mW(td ty tv:TE)(D:Ends)(σ:St)(H:Hp):L2.mW td ty tv D σ H=tv σ H fun v H1=>td σ H1 fun x H2=>ty σ H2 fun y H3=>∃ a H4,x=.ref a/\EU H3 a y v H4/\D.nx σ H4:=rfl
end Ap
section
variable {prog:Program} {w:World} {A:Around} {E:Value->Shared->Prop} {s:Shared} {K:Pq} {a:Addr} {D:List (Str×List Str)} {k:Str} {tk:Tok}
theorem tV{ws:List Str}{Q:Value->Shared->Prop}(T:lF K a D)(X:K.In s.heap)(hk:KTD.datumAt k D=some ws)(h:∀ v,xA K ws v->Q v {s with toks:=s.toks+1}):wpAny (model prog w) A (getItem (.ref a) (.str k tk)) Q E s:=by
 have hT:=T.typeIs X;unfold getItem
 try with_reducible refine Lg ?_
 refine Ku (wpAny_sequenceKey hT (by decide) ?_)
 refine Ku (Ls (name:=Str.ofString "__getitem__") hT PySem.F.slot_dict_getitem
  (L8 PySem.F.slot_dict_getitem hT PySem.F.entry_dict_getitem ?_ (args_dict_getitem _ _)))
 show wpAny _ _ (dictGet a (.str k tk) >>= _) _ _ s;refine Ku (zw T X (fun d v e r=>?_) fun e=>?_)
 ·rw[hk] at e;cases e;exact K1 ⟨v,rfl,K1 (h v r)⟩
 ·rw[hk] at e;cases e
end
variable{Q:Value->Shared->Prop}{X:Cx}{body e:Expr}{apos kpos lpos p1 p2 p3 pos:Pos}{D:List (Str×List Str)}{c' f kS l:Addr}{ue:UE}{q x:Str}{p:Array Nat}{K:Pq}{a b c:List Nat}{e1 ep i j k m:Nat}{α:Type}{s:Shared}{N:List Str}{σf:List (Option V)}{scope:Scope}{cl:List (Str×Addr)}{params:Arguments}{ctv pm:Value}{H H1:Hp}{h h':Heap}{P:PySem.Fin->Shared->Prop}{us:List Value}{kz ns:List Int}{xs:List V}{B:aL}{ts:List T}{es:Array DictEntry}{prog:Program}
noncomputable def IS(K:Pq)(D:List (Str×List Str))(te:TE):TE:=fun σ H Q=>te σ H fun y H1=>∃ k ws,y=.str k/\KTD.datumAt k D=some ws/\∀ p,zA K p (ws.map V.str)->Q (.ref p) H1
theorem CV{o:Expr}{te:TE}{d:Addr}(ho:PE X o (tC (.ref d)))(hD:lF X.K d D)(he:PE X e te)(hs:wB e):PE X (.Subscript o e pos) (IS X.K D te):=by
 intro pins s σ H Q I h;refine sf PySem.F.slot_dict_getitem.lookup hs (bo (ho pins s σ H (fun v H'=>v=.ref d/\H'=H) I ⟨rfl,rfl⟩) fun u s1 ⟨x,H1,I1,rx,ex,eh⟩=>?_);subst ex eh;obtain rfl:u=Value.ref d:=rx;refine bo (he pins s1 σ H1 _ I1 h) fun iv s2 ⟨y,H2,I2,ry,k,ws,ek,e1,q⟩=>?_;subst ek;obtain⟨t,rfl⟩:=ry;refine⟨hD.typeIs I2.gX,tV hD I2.gX e1 fun v r=>?_⟩;obtain⟨p,rfl,r⟩:=r;exact⟨.ref p,H2,I2.tok _,rfl,q p r⟩
theorem Z.seq{tg l:Expr}{tl:TE}(K:Pq)(hK:X.K=K)(hl:QE X l tl):QI X tg l (wJ K tl):=by subst hK;exact⟨yt hl.h⟩
theorem Ap.wJ(K:Pq)(tl:TE)(σ:St)(H:Hp)(R:It->Hp->Prop):L2.wJ K tl σ H R=tl σ H fun x H1=>∃ a,x=V.ref a/\(((∃ xs,bz K H1 a xs)/\R (qZ K a) H1)\/((∃ xs,aW K H1 a xs)/\R (vq K a) H1)):=rfl
namespace Y
noncomputable def A7(D:List (Str×List Str))(ue:UE):UE:=fun μ Q=>ue μ fun r μ'=>match r with
 |.tr (.str k)=>(match KTD.datumAt k D with
  |some ws=>Q (.tr (.dN (ws.map T.str))) μ'
  |none=>False)
 |_=>False
theorem JP{p:Pos}(K:Pq)(hK:X.K=K)(hg:Gl X x)(hd:∃ d,X.mg x=some (.ref d)/\lF K d D)(he:YE X e ue)(hs:wB e:=by exact fun _ _=>rfl)(hdb:autoParam ((x ==("__debug__":Str))=false) ℜ1):
  YE X (.Subscript (.Name x p) e pos) (A7 D ue):=by
 obtain⟨t,q,r⟩:=he;obtain⟨d,hm,hd⟩:=hd;subst hK;refine⟨_,⟨CV (lS hg hm rfl hdb) hd q.h hs⟩,fun F ad B σ H μ Q Qt hF l q k=>r F ad B σ H μ _ _ hF l q fun v H' r1 μ' v1 f k1 q1=>?_⟩
 split at q1
 ·rename_i z;obtain⟨l1,rp⟩:=v1;obtain rfl:=Rep.fP rp
  cases e1:KTD.datumAt z D with
  |none=>rw[e1] at q1;exact q1.elim
  |some ws =>
   rw[e1] at q1;exact⟨z,ws,rfl,e1,fun p kt=>k _ H' (.tr (.dN (ws.map T.str))) μ' ⟨l1,.dN (by rw[hF];exact kt) (kP ws)⟩ f.d k1 q1⟩
 ·exact q1.elim
end Y
namespace A
theorem A7(D:List (Str×List Str))(ue:UE)(μ:Mu)(Q:R->Mu->Prop):Y.A7 D ue μ Q=ue μ fun r μ'=>match r with
 |.tr (.str k)=>(match KTD.datumAt k D with
  |some ws=>Q (.tr (.dN (ws.map T.str))) μ'
  |none=>False)
 |_=>False:=rfl
end A
namespace Y
noncomputable def C4:V->List V->Hp->VK->Prop:=fun x vs H Q=>∃(a:Addr) (ws:List Str) (k:Str) (j:Nat),x=.ref a/\H a=some (.lst (ws.map V.str))/\vs=[.str k]/\ws[j]?=some k/\(∀ m,m<j->ws[m]?≠some k)/\Q (.int (j:Nat)) H
theorem rH:Fi X "list.index" C4:=by
 intro pins s σ H x xs v us Q I rx rs h;obtain⟨a,ws,k,j,rfl,hH,rfl,hj,hno,q⟩:=h;cases rx;obtain⟨u,rfl,t,rfl⟩:=vals1 rs;obtain⟨z,its,n,r,hl,e⟩:=I.ki hH;obtain⟨t',hit⟩:=gG r j k hj;have hjl:j<ws.length:=(K8.mp hj).1;rw[K3] at z hl;have hji:j<its.toArray.size:=by rw[Ky];lia
 have sz:(sizeLine:Int)<2^63-1:=by decide
 have hje:its.toArray[j]=.str k t':=by
  have:its.toArray[j]?=some (.str k t'):=by rw[La];exact hit
  exact (LX.mp this).2
 have hall:∀(m:Nat) (hm:m<its.toArray.size),∃ y ty,its.toArray[m]=.str y ty/\ws[m]?=some y:=fun m hm=>by
  have hm':m<ws.length:=by rw[Ky] at hm;lia
  have e1:=Kw hm';obtain⟨ty,hy⟩:=gG r m _ e1;have:its.toArray[m]?=some (.str ws[m] ty):=by rw[La];exact hy
  exact⟨_,ty,(LX.mp this).2,e1⟩
 refine LF PySem.F.slot_list_index ⟨_,e,rfl⟩ PySem.F.entry_list_index (PySem.F.args_list_index_2 _ _) (SeqAt.list_indexAt a its.toArray n none _ (.str k t) (fun y=>match y with|.str y _=>y == k|_=>false) j hji (by lia) (by rw[hje];exact Mm k) fun m hm hmj=>?_) ⟨e,fun y hy=>?_,⟨.int (j:Nat),H,I.tok _,⟨_,rfl⟩,q⟩⟩
 ·obtain⟨y,ty,ey,ew⟩:=hall m hm;rw[ey];exact Lh.mpr fun z=>hno m hmj (by rw[ew,z])
 ·obtain⟨m,hm,rfl⟩:=OV.mp hy;obtain⟨y,ty,ey,ew⟩:=hall m hm;rw[ey];exact SeqAt.EqAt.str_str _ _ _ _
noncomputable def mQ:UM:=fun j rs μ Q=>match rs with
 |[.tr (.str k)]=>(match (μ[j]?).bind Sl.box with
  |some (.lst ts)=>∃(ws:List Str) (i:Nat),ts=ws.map T.str/\ws[i]?=some k/\(∀ m,m<i->ws[m]?≠some k)/\Q (.tr (.int (i:Nat))) μ
  |_=>False)
 |_=>False
theorem B7:RM K C4 mQ:=by
 intro F ad B σ H μ Q Qt j s c xs rs hF l e b ps q k;unfold mQ at q
 split at q
 ·rename_i z;obtain⟨_,_,rfl,h,ps⟩:=Paired.bW ps;obtain rfl:=Paired.jv ps;rw[e] at q
  cases bL h
  have q':(match s.box with|some (.lst ts)=>∃(ws:List Str) (i:Nat),ts=ws.map T.str/\ws[i]?=some z/\(∀ m,m<i->ws[m]?≠some z)/\Qt (.tr (.int (i:Nat))) μ|_=>False):=q
  rw[b] at q';rcases ((l.slot j s e).boxed b).2.2.1.is with ⟨ts,vs,rfl,hl,rv⟩|⟨_,_,_,rfl,_⟩
  case inr=>exact q'.elim
  simp only at q';obtain⟨ws,i,rfl,h1,h2,q2⟩:=q';rw[hZ rv] at hl;exact⟨_,ws,z,i,rfl,hl,rfl,h1,h2,k _ H _ μ (Vr.flat l (.int _)) Fr.refl (Kp.refl μ) q2⟩
 ·exact q.elim
end Y
namespace A
theorem mQ(j:Nat)(k:Str)(μ:Mu)(Q:R->Mu->Prop):Y.mQ j [.tr (.str k)] μ Q=(match (μ[j]?).bind Sl.box with
  |some (.lst ts)=>∃(ws:List Str) (i:Nat),ts=ws.map T.str/\ws[i]?=some k/\(∀ m,m<i->ws[m]?≠some k)/\Q (.tr (.int (i:Nat))) μ
  |_=>False):=rfl
end A
open PySem PySem.Spec PyProof PyProof.Rows PySem.W
namespace SP
section
variable (k:Nat->Int)
noncomputable def R(i j:Nat):Prop:=k i<k j\/(k i=k j/\i<j)
variable {k}
theorem R.le{a b:Nat}(h:R k a b):k a<=k b:=by unfold R at h;lia
end
structure PI (n m:Nat) (p:Array Nat) (a:List Nat):Prop where
 eq:p.toList=a++List.range' m (n-m)
 perm:a.Perm (List.range m)
 le:m<=n
section
variable {n m:Nat} {p:Array Nat} {a:List Nat}
theorem PI.len(h:PI n m p a):a.length=m:=by rw[h.perm.length_eq,L1]
theorem PI.lt(h:PI n m p a){x:Nat}(hx:x∈a):x<m:=Mj.mp (h.perm.mem_iff.mp hx)
theorem PI.size(h:PI n m p a):p.size=n:=by
 have:=h.len;have:=h.le;rw[<- Lq,h.eq,K0,Mb,h.len];lia
theorem PI.at(h:PI n m p a){x:Nat}(hi:a[i]?=some x):p.getD i 0=x:=by
 have:p[i]?=some x:=by
  rw[<- KW,h.eq,LD (K8.mp hi).1];exact hi
 rw[N_,this];rfl
theorem PI.nx(h:PI n m p a)(hm:m<n):p.getD m 0=m:=by
 have:p[m]?=some m:=by
  rw[<- KW,h.eq,Lu (by rw[h.len];exact K2 m),h.len,NM,List.getElem?_range' (by lia)];simp
 rw[N_,this];rfl
theorem PI.step(h:PI n m p a)(hm:m<n):PI n (m+1) p (a++[m]):=by
 refine⟨?_,?_,hm⟩
 ·rw[h.eq,KH,show n-m=(n-(m+1))+1 by lia,LK];rfl
 ·rw[MM];exact h.perm.append_right [m]
theorem PI.last(h:PI n m p a){y:Nat}(e:a=b++[y]):p.getD (m-1) 0=y:=by
 refine h.at ?_;have:=h.len;rw[e,K0] at this;simp only[K6,Lf] at this;rw[e,Lu (by lia),show m-1-b.length=0 by lia];rfl
end
theorem zd{xs:Array α}{l:Nat}{y:α}(hy:xs[k]?=some y)(hl:l<=k):(bubble xs k (k-l)).toList=xs.toList.take l++y::(xs.toList.drop l).take (k-l)++xs.toList.drop (k+1):=by
 have hk:k<xs.size:=(LX.mp hy).1;have hL:xs.toList.length=xs.size:=by simp
 apply Ol;intro i;rw[KW,getElem?_bubble hk _ (by lia),show k-(k-l)=l by lia]
 rw[KH,MW];have ht:(xs.toList.take l).length=l:=by rw[Ld];lia
 rw[ht];by_cases h1:i<l
 ·rw[Kz h1,Kx (by lia),Kx (by lia),MP,Kz h1,KW]
 ·rw[Kx h1];by_cases h2:i=l
  ·subst h2;rw[Kz rfl,NM,hy];rfl
  ·rw[Kx h2,show i-l=(i-l-1)+1 by lia,O1,O5,MW]
   have hm:((xs.toList.drop l).take (k-l)).length=k-l:=by rw[Ld,LH];lia
   rw[hm];by_cases h3:i-l-1<k-l
   ·rw[Kz h3,Kz (by lia),MP,Kz h3,L_,KW]
    congr 1;lia
   ·rw[Kx h3,Kx (by lia),L_,KW]
    congr 1;lia
theorem zo{xs:Array α}(hi:i<=j)(hj:j<=xs.size):(mirror xs i j ((j-i) / 2)).toList=xs.toList.take i++((xs.toList.drop i).take (j-i)).reverse++xs.toList.drop j:=by
 have hL:xs.toList.length=xs.size:=by simp
 apply Ol;intro k;rw[KW,getElem?_mirror_all hj,KH,MW];have ht:(xs.toList.take i).length=i:=by rw[Ld];lia
 have hm:((xs.toList.drop i).take (j-i)).length=j-i:=by rw[Ld,LH];lia
 rw[ht];by_cases h1:k<i
 ·rw[Kz h1,Kx (by lia),MP,Kz h1,KW]
 ·rw[Kx h1,MW,List.length_reverse,hm];by_cases h2:k<j
  ·rw[Kz (by lia),Kz (by lia),List.getElem?_reverse (by lia),hm,MP,Kz (by lia),L_,KW]
   congr 1;lia
  ·rw[Kx (by lia),Kx (by lia),L_,KW]
   congr 1;lia
theorem PI.rev{n:Nat}(h:PI n m p (b++c)):PI n m (kas_rev p b.length m) (b++c.reverse):=by
 have hl:b.length+c.length=m:=by rw[<- h.len,K0]
 refine⟨?_,((List.reverse_perm c).append_left b).trans h.perm,h.le⟩;unfold kas_rev;rw[zo (by lia) (by rw[h.size];exact h.le),h.eq,KH b c,List.take_left,List.drop_left,show m-b.length=c.length by lia,List.take_left,<- KH b c,List.drop_left' (by rw[K0];exact hl)]
theorem mh(h:a.length=m)(hm:1<=m):∃ b y,a=b++[y]:=by
 rcases List.eq_nil_or_concat a with rfl|⟨b,y,rfl⟩
 ·cases h;exact absurd hm (by decide)
 ·exact⟨b,y,by simp⟩
section
variable {k:Nat->Int} {n:Nat} {cmp:Nat->Nat->(Bool->Shared->Prop)->Shared->Prop} {I:Shared->Prop}
noncomputable def oC(k:Nat->Int)(n:Nat)(cmp:Nat->Nat->(Bool->Shared->Prop)->Shared->Prop)(I:Shared->Prop):Prop:=∀ i j C s,i<n->j<n->I s->(∀ s',I s'->C (decide (k i<k j)) s')->cmp i j C s
theorem pX(hc:oC k n cmp I){G:Nat->Shared->Prop}:∀(f m:Nat) (a:List Nat) (s:Shared),PI n m p a->1<=m->f=n-m->a.Pairwise (R k)->I s ->
  (∀ m' a' s',PI n m' p a'->m<=m'->a'.Pairwise (R k)->I s'->(∀ b y,a'=b++[y]->m'<n->k m'<k y)->G m' s')->(kas_asc p f m).kasWp cmp G s
 |0,m,a,s,h,h1,hf,hp,hI,g=>g m a s h (K2 m) hp hI fun _ _ _ hl=>by have:=h.le;lia
 |f+1,m,a,s,h,h1,hf,hp,hI,g=>by
  have hm:m<n:=by lia
  obtain⟨b,y,e⟩:=mh h.len h1;show cmp (p.getD m 0) (p.getD (m-1) 0) _ s;rw[h.nx hm,h.last e];have hy:y<m:=h.lt (by rw[e];simp)
  refine hc m y _ s hm (by lia) hI fun s' hI'=>?_
  by_cases c:k m<k y
  ·rw[L4 c];exact g m a s' h (K2 m) hp hI' fun b' y' e' _=>by
    rw[e] at e';have:[y]=[y']:=(List.append_inj' e' rfl).2
    cases this;exact c
  ·rw[KO c];refine pX hc f (m+1) (a++[m]) s' (h.step hm) (by lia) (by lia) ?_ hI' fun m' a' s2 h' hm' hp' hI2 gl=>g m' a' s2 h' (by lia) hp' hI2 gl
   refine LL.mpr ⟨hp,by simp,fun x hx z hz=>?_⟩
   rw[KC.mp hz];have hxm:=h.lt hx;have:k x<=k y:=by
    rw[e] at hx hp;rcases KR.mp hx with hx|hx
    ·exact ((LL.mp hp).2.2 x hx y (by simp)).le
    ·rw[KC.mp hx];exact M0 _
   unfold R;lia
structure DI (k:Nat->Int) (b c:List Nat):Prop where
 EW:b.Pairwise fun x y=>R k y x
 less:∀ y∈b,∀ x∈c,k x<k y
 one:∀ x∈c,∀ y∈c,k x=k y
 up:c.Pairwise (· < ·)
theorem DI.rise(h:DI k b c):(b++c.reverse).reverse.Pairwise (R k):=by
 rw[List.reverse_append,List.reverse_reverse];refine LL.mpr ⟨?_,N4.mpr h.EW,fun x hx y hy=>.inl (h.less y (N1.mp hy) x hx)⟩;exact O2 (fun {x y} hx hy hl=>.inr ⟨h.one x hx y hy,hl⟩) h.up
theorem DI.next{x:Nat}(h:DI k b c)(hc:c≠[])(hx:∀ y∈c,k x<k y):DI k (b++c.reverse) [x]:=by
 refine⟨LL.mpr ⟨h.EW,N4.mpr (O2 (fun {x y} hx hy hl=>.inr ⟨h.one x hx y hy,hl⟩) h.up),fun y hy z hz=>.inl (h.less y hy z (N1.mp hz))⟩,fun y hy z hz=>?_,fun y hy z hz=>?_,by simp⟩
 ·rw[KC.mp hz];rcases KR.mp hy with hy|hy
  ·obtain⟨w,hw⟩:=Om c hc;exact Int.lt_trans (hx w hw) (h.less y hy w hw)
  ·exact hx y (N1.mp hy)
 ·rw[KC.mp hy,KC.mp hz]
theorem DI.more{x:Nat}(h:DI k b c)(he:∀ y∈c,k x=k y)(hc:c≠[])(hl:∀ y∈c,y<x):DI k b (c++[x]):=by
 refine⟨h.EW,fun y hy z hz=>?_,fun y hy z hz=>?_,LL.mpr ⟨h.up,by simp,fun y hy z hz=>by rw[KC.mp hz];exact hl y hy⟩⟩
 ·rcases KR.mp hz with hz|hz
  ·exact h.less y hy z hz
  ·rw[KC.mp hz];obtain⟨w,hw⟩:=Om c hc;rw[he w hw];exact h.less y hy w hw
 ·rcases KR.mp hy with hy|hy<;>rcases KR.mp hz with hz|hz
  ·exact h.one y hy z hz
  ·rw[KC.mp hz];exact (he y hy).symm
  ·rw[KC.mp hy];exact he z hz
  ·rw[KC.mp hy,KC.mp hz]
theorem iL(hc:oC k n cmp I){G:Array Nat×Nat×Nat->Shared->Prop}:∀(f:Nat) (p:Array Nat) (m q:Nat) (b c:List Nat) (s:Shared),PI n m p (b++c)->c.length=q+1->DI k b c->f=n-m->I s ->
  (∀ p' m' q' b' c' s',PI n m' p' (b'++c')->c'.length=q'+1->DI k b' c'->I s'->G (p',m',q') s')->(kas_desc f p m q).kasWp cmp G s
 |0,p,m,q,b,c,s,h,hl,hd,hf,hI,g=>g p m q b c s h hl hd hI
 |f+1,p,m,q,b,c,s,h,hl,hd,hf,hI,g=>by
  have hm:m<n:=by lia
  obtain⟨c0,y,e⟩:=mh hl (by lia)
  have hbl:b.length+(q+1)=m:=by rw[<- hl,<- K0,h.len]
  have ne:c≠[]:=by rw[e];simp
  have hy:y∈c:=by rw[e];simp
  have hya:y<m:=h.lt (KQ _ hy);have e1:p.getD m 0=m:=h.nx hm;have e2:p.getD (m-1) 0=y:=h.last (b:=b++c0) (by rw[e,KH])
  show cmp (p.getD m 0) (p.getD (m-1) 0) _ s;rw[e1,e2];refine hc m y _ s hm (by lia) hI fun s' hI'=>?_
  by_cases c1:k m<k y
  ·rw[L4 c1];have hx:∀ z∈c,k m<k z:=fun z hz=>by rw[hd.one z hz y hy];exact c1
   show KasT.kasWp cmp (if q > 0 then _ else _) G s'
   by_cases hq:q > 0
   ·rw[Kz hq,show m-(q+1)=b.length by lia]
    exact iL hc f _ (m+1) 0 (b++c.reverse) [m] s' (h.rev.step hm) rfl (hd.next ne hx) (by lia) hI' g
   ·rw[Kx hq];have e3:c.reverse=c:=by
     have:c.length=1:=by lia
     obtain⟨z,rfl⟩:=MQ.mp this;rfl
    exact iL hc f p (m+1) 0 (b++c.reverse) [m] s' (by rw[e3];exact h.step hm) rfl (hd.next ne hx) (by lia) hI' g
  ·rw[KO c1];show cmp y m _ s';refine hc y m _ s' (by lia) hm hI' fun s2 hI2=>?_
   by_cases c2:k y<k m
   ·rw[L4 c2];exact g p m q b c s2 h hl hd hI2
   ·rw[KO c2];refine iL hc f p (m+1) (q+1) b (c++[m]) s2 (by rw[<- KH];exact h.step hm) (by rw[K0,hl];rfl) (hd.more (fun z hz=>?_) ne fun z hz=>h.lt (KQ _ hz)) (by lia) hI2 g
    rw[hd.one z hz y hy];lia
theorem sW(hc:oC k n cmp I){G:Nat×Array Nat->Shared->Prop}(h:PI n m p a)(h1:1<=m)(hr:a.reverse.Pairwise (R k))(hI:I s)
  (g:∀ m' p' a' s',PI n m' p' a'->1<=m'->a'.Pairwise (R k)->I s'->G (m',p') s'):(kas_tail3 m n p).kasWp cmp G s:=by
 unfold kas_tail3;rw[Nc];have hv:=PI.rev (b:=[]) (c:=a) h;exact pX hc (n-m) m a.reverse s hv h1 rfl hr hI fun m' a' s' h' hm' hp' hI' _=>g m' _ a' s' h' (by lia) hp' hI'
theorem tq(hc:oC k n cmp I){G:Nat×Array Nat->Shared->Prop}(h:PI n m p a)(hm:m<n)(hd:DI k a [m])(hI:I s)
  (g:∀ m' p' a' s',PI n m' p' a'->1<=m'->a'.Pairwise (R k)->I s'->G (m',p') s'):(kas_descPart m n p).kasWp cmp G s:=by
 unfold kas_descPart;rw[Nc];refine iL hc (n-(m+1)) p (m+1) 0 a [m] s (h.step hm) rfl hd rfl hI fun p' m' q' b' c' s' h' hl' hd' hI'=>?_;have hbl:b'.length+(q'+1)=m':=by rw[<- hl',<- K0,h'.len]
 show KasT.kasWp cmp (if q' > 0 then _ else _) G s'
 by_cases hq:q' > 0
 ·rw[Kz hq];show (kas_tail3 m' n (kas_rev p' (m'-(q'+1)) m')).kasWp cmp G s';rw[show m'-(q'+1)=b'.length by lia]
  exact sW hc h'.rev (by lia) hd'.rise hI' g
 ·rw[Kx hq];have e3:c'.reverse=c':=by
   have:c'.length=1:=by lia
   obtain⟨z,rfl⟩:=MQ.mp this;rfl
  exact sW hc h' (by lia) (by rw[<- e3];exact hd'.rise) hI' g
theorem yg(hc:oC k n cmp I){G:Nat×Array Nat->Shared->Prop}(hn:1<=n)(hI:I s)
  (g:∀ m' p' a' s',PI n m' p' a'->1<=m'->a'.Pairwise (R k)->I s'->G (m',p') s'):(kas_count n (List.toArray (List.range n))).kasWp cmp G s:=by
 unfold kas_count;rw[Nc];have h0:PI n 1 (List.toArray (List.range n)) [0]:=by
  refine⟨?_,List.Perm.refl _,hn⟩;show List.range n=[0]++List.range' 1 (n-1);rw[My,show n=(n-1)+1 by lia,LK];rfl
 refine pX hc (n-1) 1 [0] s h0 (K2 1) rfl (by simp) hI fun m a s' h hm hp hI' gl=>?_
 show KasT.kasWp cmp (if (m == n)=true then _ else _) G s'
 by_cases e:m=n
 ·subst e;rw[Kz (Mm m)];exact g m _ a s' h hm hp hI'
 ·rw[Kx (by simpa using e)]
  have hmn:m<n:=by have:=h.le;lia
  obtain⟨b,y,ea⟩:=mh h.len hm;have ky:=gl b y ea hmn;have hya:y<m:=h.lt (by rw[ea];simp)
  by_cases h2:m > 1
  ·rw[Kz h2];obtain⟨x,r,ex⟩:∃ x r,a=x::r:=by
    cases a with
    |nil=>have:=h.len;rw[Lf] at this;lia
    |cons x r=>exact⟨x,r,rfl⟩
   have hxa:x<m:=h.lt (by rw[ex];simp)
   show cmp ((List.toArray (List.range n)).getD 0 0) ((List.toArray (List.range n)).getD (m-1) 0) _ s';rw[h.at (i:=0) (x:=x) (by rw[ex];rfl),h.last ea]
   refine hc x y _ s' (by lia) (by lia) hI' fun s2 hI2=>?_
   by_cases c:k x<k y
   ·rw[L4 c];exact g m _ a s2 h hm hp hI2
   ·rw[KO c];have hv:=PI.rev (b:=[]) (c:=a) h;refine tq hc hv hmn ⟨N4.mpr hp,fun z hz w hw=>?_,fun z hz w hw=>by rw[KC.mp hz,KC.mp hw],by simp⟩ hI2 g
    rw[KC.mp hw];have hz':=N1.mp hz;have hxz:k x<=k z:=by
     rw[ex] at hz' hp;rcases K4.mp hz' with rfl|hz'
     ·exact M0 _
     ·exact ((Ln.mp hp).1 z hz').le
    lia
  ·rw[Kx h2];have hm1:m=1:=by lia
   have hb:b=[]:=by
    have:=h.len;rw[ea,K0,hm1] at this;simp only[K6,Lf] at this;exact O6.mp (by lia)
   subst hb;refine tq hc h hmn ⟨by rw[ea];simp,fun z hz w hw=>?_,fun z hz w hw=>by rw[KC.mp hz,KC.mp hw],by simp⟩ hI' g
   rw[KC.mp hw];rw[ea] at hz;rw[KC.mp hz];exact ky
theorem jC(hc:oC k n cmp I){G:Nat->Shared->Prop}{t:Nat}(h:PI n t p a)(ht:t<n)(hp:a.Pairwise (R k)):∀(f l r:Nat) (s:Shared),l<=r->r<=t->r-l<=f->(∀ i x,i<l->a[i]?=some x->k x<=k t)->(∀ i x,r<=i->a[i]?=some x->k t<k x)->I s ->
  (∀ l' s',l'<=t->(∀ i x,i<l'->a[i]?=some x->k x<=k t)->(∀ i x,l'<=i->a[i]?=some x->k t<k x)->I s'->G l' s')->(kas_place p t f l r).kasWp cmp G s
 |0,l,r,s,h1,h2,h3,hlo,hhi,hI,g=>g l s (by lia) hlo (fun i x hi e=>hhi i x (by lia) e) hI
 |f+1,l,r,s,h1,h2,h3,hlo,hhi,hI,g=>by
  show KasT.kasWp cmp (if l >= r then _ else _) G s
  by_cases hlr:l >= r
  ·rw[Kz hlr];exact g l s (by lia) hlo (fun i x hi e=>hhi i x (by lia) e) hI
  ·rw[Kx hlr];have hmid:(l+r) / 2<a.length:=by rw[h.len];lia
   have em:a[(l+r) / 2]?=some a[(l+r) / 2]:=Kw hmid;have hma:a[(l+r) / 2]<t:=h.lt (Ll hmid);have mono:∀ i j x y,i<=j->a[i]?=some x->a[j]?=some y->k x<=k y:=fun i j x y hij ex ey=>by
    rcases LJ i j with c|c
    ·obtain⟨hi,rfl⟩:=K8.mp ex;obtain⟨hj,rfl⟩:=K8.mp ey;exact (List.pairwise_iff_getElem.mp hp i j hi hj c).le
    ·have:i=j:=Nat.le_antisymm hij c;subst this;rw[ex] at ey;cases ey;exact M0 _
   show cmp (p.getD t 0) (p.getD ((l+r) / 2) 0) _ s;rw[h.nx ht,h.at em];refine hc t _ _ s ht (by lia) hI fun s' hI'=>?_
   by_cases c:k t<k a[(l+r) / 2]
   ·rw[L4 c];exact jC hc h ht hp f l ((l+r) / 2) s' (by lia) (by lia) (by lia) hlo (fun i x hi e=>Int.lt_of_lt_of_le c (mono _ i _ x hi em e)) hI' g
   ·rw[KO c];exact jC hc h ht hp f ((l+r) / 2+1) r s' (by lia) h2 (by lia) (fun i x hi e=>Pn (mono i _ x _ (by lia) e em) (by lia)) hhi hI' g
theorem yv(hc:oC k n cmp I){G:Array Nat->Shared->Prop}:∀(f:Nat) (p:Array Nat) (t:Nat) (a:List Nat) (s:Shared),PI n t p a->a.Pairwise (R k)->f=n-t->I s ->
  (∀ p' a' s',PI n n p' a'->a'.Pairwise (R k)->I s'->G p' s')->(kas_bin f p t).kasWp cmp G s
 |0,p,t,a,s,h,hp,hf,hI,g=>by
  have:t=n:=by have:=h.le;lia
  subst this;exact g p a s h hp hI
 |f+1,p,t,a,s,h,hp,hf,hI,g=>by
  have ht:t<n:=by lia
  show KasT.kasWp cmp ((kas_place p t t 0 t).bind _) G s;rw[Nc];refine jC hc h ht hp t 0 t s (KY _) (K2 _) (by lia) (fun i x hi _=>absurd hi (MO i)) (fun i x hi e=>?_) hI fun l s' hl hlo hhi hI'=>?_
  ·have:=(K8.mp e).1;rw[h.len] at this;lia
  ·have et:p[t]?=some t:=by
    rw[<- KW,h.eq,Lu (by rw[h.len];exact K2 t),h.len,NM,List.getElem?_range' (by lia)];simp
   have hla:l<=a.length:=by rw[h.len];exact hl
   have e1:(bubble p t (t-l)).toList=(a.take l++t::a.drop l)++List.range' (t+1) (n-(t+1)):=by
    rw[zd et hl,h.eq,List.take_append_of_le_length hla,List.drop_append_of_le_length hla,show n-t=(n-(t+1))+1 by lia,LK]
    have e2:(a.drop l).length=t-l:=by rw[LH,h.len]
    have e3:∀ r:List Nat,(a++t::r).drop (t+1)=r:=fun r=>by
     rw[show a++t::r=(a++[t])++r by simp]
     exact List.drop_left' (by rw[K0,h.len];rfl)
    rw[List.take_left' e2,e3]
   have hP:PI n (t+1) (bubble p t (t-l)) (a.take l++t::a.drop l):=by
    refine⟨e1,?_,ht⟩;have:(a.take l++t::a.drop l).Perm (a++[t]):=by
     have h1:(a.take l++t::a.drop l).Perm (t::(a.take l++a.drop l)):=Lz;rw[LG] at h1;exact h1.trans (List.perm_append_singleton t a).symm
    rw[MM];exact this.trans (h.perm.append_right [t])
   refine yv hc f _ (t+1) _ s' hP ?_ (by lia) hI' g
   have hp1:=(LG l a) ▸ hp;obtain⟨q1,q2,q3⟩:=LL.mp hp1;refine LL.mpr ⟨q1,Ln.mpr ⟨fun x hx=>?_,q2⟩,fun x hx y hy=>?_⟩
   ·obtain⟨i,hi⟩:=N5.mp hx;rw[L_] at hi;exact .inl (hhi (l+i) x (by lia) hi)
   ·rcases K4.mp hy with rfl|hy
    ·obtain⟨i,hi⟩:=N5.mp hx;rw[MP] at hi
     split at hi
     ·rename_i hil;have:=hlo i x hil hi;have hxt:=h.lt (NN hx);unfold R;lia
     ·cases hi
    ·exact q3 x hx y hy
theorem BJ(hc:oC k n cmp I){G:Array Nat->Shared->Prop}(hn:1<=n)(hI:I s)(g:∀ p s',p.toList.Perm (List.range n)->p.toList.Pairwise (R k)->I s'->G p s'):(kas_sort n).kasWp cmp G s:=by
 unfold kas_sort;rw[Nc];have fin:∀ p a s',PI n n p a->a.Pairwise (R k)->I s'->G p s':=fun p a s' h hp hI'=>by
  have e:p.toList=a:=by rw[h.eq,NM,List.range'_zero,Lj]
  refine g p s' ?_ ?_ hI'<;>rw[e]
  ·exact h.perm
  ·exact hp
 refine yg hc hn hI fun m p a s' h h1 hp hI'=>?_;show KasT.kasWp cmp (if m<n then _ else _) G s'
 by_cases hm:m<n
 ·rw[Kz hm];show (kas_bin (n-max m 1) p (max m 1)).kasWp cmp G s';rw[show max m 1=m by lia]
  exact yv hc (n-m) p m a s' h hp rfl hI' fin
 ·rw[Kx hm];have:m=n:=by have:=h.le;lia
  subst this;exact fin p a s' h hp hI'
end
end SP
abbrev CW(qual:Str)(scope:Scope)(L f:Addr)(cd:Value)(cl:List (Str×Addr)):Env:=PySem.W.envX qual scope L f cd cl
noncomputable def rR(X:Cx)(A:Around)(N:List Str)(qual:Str)(scope:Scope)(f:Addr)(cd:Value)(cl:List (Str×Addr))(s:Shared)(H:Hp):Cx where
 prog:=X.prog
 w:=X.w
 K:=X.K
 mg:=X.mg
 base:=X.base
 A:=A.deeper (CW qual scope s.heap.objs.size f cd cl)
 N:=N
 s₀:=s
 H₀:=H
 env:=CW qual scope s.heap.objs.size f cd cl
 outer:=X.stack
 stack:=CW qual scope s.heap.objs.size f cd cl::X.stack
 ex:=[]
 calm:=true
 fn:=fun _=>false
 pn:=[]
 xe:=fun _ _=>False
section
variable {X:Cx} {pins:List (Addr×Obj)} {σ:St} {H:Hp} {s:Shared}
theorem A_(I:Inv X pins σ H s){A:Around}(hA:A.frames=some X.stack)(hd:A.handled=none){qual:Str}{v:V}{u:Value}{cd:Value}{h₁:Heap}{tk:Nat}
  (hk:scope.kind=.function) (rv:RelV v u) (hloc:scope.names.lookup x=some .local) (hns:h₁.Ns s.heap.objs.size (fun y=>[(x,u)].reverse.lookup y)) (old:∀ b o,s.heap.get? b=some o->h₁.get? b=some o)
  (hlen:σf.length=N.length) (hcl:∀ y c,cl.lookup y=some c->X.env.cells.lookup y=some c) (hhas:∀ y,(scope.names.lookup y=some .cell\/scope.names.lookup y=some .free)->∃ c,cl.lookup y=some c)
  (hf:∀(i:Nat) (y:Str) (v:V),N[i]?=some y->σf[i]?=some (some v)->scope.names.lookup y=some .free/\∃ c u,cl.lookup y=some c/\s.heap.IsCell c (some u)/\RelV v u) :
  Inv (rR X A (x::N) qual scope f cd cl s H) [] (some v::σf) H {s with heap:=h₁,toks:=tk}:=by
 have noA:∀ b:Addr,b∉(rR X A (x::N) qual scope f cd cl s H).ex:=fun b z=>absurd (show b∈([]:List Addr) from z) (by simp)
 refine⟨⟨I.ok.mod,hk,rfl,rfl,K2 _,fun y z c e1 e2=>I.ok.inj y z c (hcl y c e1) (hcl z c e2),hhas,fun y c z _=>(by cases z),fun _=>hd,Around.frames_deeper hA,.inr ⟨rfl,rfl⟩,fun b z=>absurd z (noA b),I.bs,KG I.ok.zy I.sz,fun b _ _=>noA b,fun b z=>absurd z (noA b),I.stack,I.lT,I.ok.tabs.un I.base⟩,
  rfl,I.bare,Un.kept old,⟨_,hns,fun i y w e1 e2 e3=>?_⟩,fun y c e=>?_,I.aD.fresh (K2 _),fun y c e=>I.eS y c (hcl y c e),fun p hp=>absurd (show p∈([]:List (Addr×Obj)) from hp) (by simp),I.aD.kept old,?_⟩
 ·cases i with
  |zero =>
   have e1':some x=some y:=e1;have e2':some (some v)=some (some w):=e2
   cases e1';cases e2'
   exact⟨u,rv,.inl ⟨hloc,by simp⟩⟩
  |succ i =>
   obtain⟨h1,c,u',h2,h3,h4⟩:=hf i y w e1 e2;obtain⟨o,ho,hd'⟩:=h3;exact⟨u',h4,.inr ⟨.inr h1,c,h2,o,old _ _ ho,hd'⟩⟩
 ·obtain⟨v',o,ho,hd'⟩:=I.cell y c (hcl y c e);exact⟨v',o,old _ _ ho,hd'⟩
 ·show (some v::σf).length=(x::N).length;rw[K6,K6,hlen]
theorem wI(I:Inv X pins σ H s){A:Around}(hr:ba (k+1) A)(hA:A.frames=some X.stack){qual:Str}{v:V}{u:Value}{f:Addr}{t:TE}{Q:VK}
  (hk:scope.kind=.function) (hco:scope.isCoroutine=false) (hgen:scope.isGenerator=false) (hcell:∀ y∈scope.names,y.2≠.cell) (rv:RelV v u) (hloc:scope.names.lookup x=some .local)
  (ho:s.heap.get? f=some (PySem.W.kla_obj "<lambda>" qual params body scope cl pm c' ctv)) (hcd:s.heap.CodeRec (.ref c') qual)
  (hbind:∀ u,bindArgs (PySem.W.kla_fn "<lambda>" qual params body scope cl pm (.ref c') ctv) ⟨[u],[]⟩=pure [(x,u)])
  (hlen:σf.length=N.length) (hcl:∀ y c,cl.lookup y=some c->X.env.cells.lookup y=some c) (hhas:∀ y,(scope.names.lookup y=some .cell\/scope.names.lookup y=some .free)->∃ c,cl.lookup y=some c)
  (hf:∀(i:Nat) (y:Str) (v:V),N[i]?=some y->σf[i]?=some (some v)->scope.names.lookup y=some .free/\∃ c u,cl.lookup y=some c/\s.heap.IsCell c (some u)/\RelV v u)
  (hb:PE (rR X A (x::N) qual scope f (.ref c') cl s H) body t) (hq:t (some v::σf) H Q) :
  wpAny (model X.prog X.w) A (call (.ref f) [u]) (EP X pins σ Q) (fun _ _=>False) s:=by
 refine wpAny_call (PySem.W.kla_callFunE hr.depth ho rfl hco hgen rfl hcd ?_);rw[hbind];refine K1 (wpAny_newFunctionEnv hcell (fun y hy=>by rw[KC.mp hy];exact hloc) (fun h₁ hns hsb=>⟨I.nolimit.fresh _ hsb,?_⟩) hk)
 have old:∀ b o,s.heap.get? b=some o->h₁.get? b=some o:=fun b o e=>hsb.extBut b o (KJ (KA e)) (Kv _ e);have J:=A_ (tk:=s.toks+1) (qual:=qual) (f:=f) (cd:=.ref c') I hA hr.hd hk rv hloc hns old hlen hcl hhas hf;refine PySem.W.kla_codeExpr (L5 (hb [] _ _ H Q J hq) (fun w s' h=>?_) fun _ _ h=>h.elim);obtain⟨v',H',J',r',q'⟩:=h;exact I.after ⟨v',H',J'.os,J'.bare,J'.base,J'.aD,r',q'⟩
end
inductive dA:Hp->Hp->Prop
 |refl {H:Hp}:dA H H
 |more {H H1:Hp} {p:Addr} {o:HO}:dA H H1->H1 p=none->dA H (upd H1 p o)
theorem dA.same(g:dA H H1):bQ H H1:=by
 induction g with
 |refl=>exact bQ.refl _
 |more g n ih=>exact fun b o e=>by rw[ab (ah (ih b o e) n)];exact ih b o e
theorem dA.trans{H2:Hp}(a:dA H H1)(b:dA H1 H2):dA H H2:=by
 induction b with
 |refl=>exact a
 |more _ n ih=>exact .more ih n
theorem iy{i j:Int}{ti tj:Tok}{c:Value}:∀ l:List Value,TriplesOk l->TriplesOk (l++[.int i ti,.int j tj,c])
 |[],_=>trivial
 |.int _ _::.int _ _::_::r,h=>iy r (show TriplesOk r from h)
theorem kU{p:Pos}{i j:Int}{ti tj:Tok}{c cv:Value}:∀ l:List Value,TriplesOk l->codeAmong p (l++[.int i ti,.int j tj,c])=some cv->codeAmong p l=some cv\/cv=c
 |[],_,e=>by
  have e':(if (i == p.line && j == p.col)=true then some c else codeAmong p [])=some cv:=e
  by_cases z:(i == p.line && j == p.col)=true
  ·rw[Kz z] at e';cases e';exact .inr rfl
  ·rw[Kx z] at e';cases e'
 |.int a ta::.int b tb::d::r,h,e=>by
  have e':(if (a == p.line && b == p.col)=true then some d else codeAmong p (r++[.int i ti,.int j tj,c]))=some cv:=e
  show (if (a == p.line && b == p.col)=true then some d else codeAmong p r)=some cv\/_
  by_cases z:(a == p.line && b == p.col)=true
  ·rw[Kz z] at e' ⊢;exact .inl e'
  ·rw[Kx z] at e' ⊢;exact kU r (show TriplesOk r from h) e'
theorem sC(q:Str)(more:Array Value):vF (#[.str q 0]++more)=q:=by
 unfold vF;rw[NS];rfl
structure iz (H:Hp) (f:Addr) (q:Str) (params:Arguments) (body:Expr) (scope:Scope) (cl:List (Str×Addr)) (c':Addr) (pm ctv:Value):Prop where
 fn:H f=some (.ib (PySem.W.kla_obj "<lambda>" q params body scope cl pm c' ctv) (.own f))
 cd:BR H q (.ref c')
section
variable {X:Cx} {pins:List (Addr×Obj)} {σ:St} {H:Hp} {s:Shared} {E:Value->Shared->Prop}
theorem iz.up(x:iz H f q params body scope cl c' pm ctv)(g:∀ b o u,H b=some (.ib o u)->H1 b=some (.ib o u)):iz H1 f q params body scope cl c' pm ctv:=
 ⟨g _ _ _ x.fn,let ⟨c,oc,vs,t,e1,e2,e3⟩:=x.cd;⟨c,oc,vs,t,e1,g _ _ _ e2,e3⟩⟩
theorem iz.get(x:iz H f q params body scope cl c' pm ctv)(I:Inv X pins σ H s):
  s.heap.get? f=some (PySem.W.kla_obj "<lambda>" q params body scope cl pm c' ctv)/\s.heap.CodeRec (.ref c') q:=by
 obtain⟨c,oc,vs,t,e1,e2,e3,e4⟩:=x.cd;exact⟨(I.aD f _ x.fn).1,c,oc,vs,t,e1,(I.aD c _ e2).1,e3,e4⟩
theorem Inv.yr{o:Obj}{t':Nat}(I:Inv X pins σ H s)(k:∀ b u,s.heap.get? b=some u->h'.get? b=some u)(hp:s.heap.objs.size<=f)(e:h'.get? f=some o):Inv X pins σ (upd H f (.ib o (.own f))) {s with heap:=h',toks:=t'}:=
 I.laid k hp ⟨e,o,e⟩
theorem wa(I:Inv X pins σ H s){c P:Addr}(hx:x∈d5)(ht:PySem.W.tabIn X.K x=some (c,P))(hcode:X.env.code=.ref c)(hq:X.env.qual=x++".<locals>.")
  (hdef:defaultsOf params X.env=([],[])) (hcl:closureFor scope X.env=pure cl)
  (h:∀ f c' pm ctv H1 s1,dA H H1->Inv X pins σ H1 s1->iz H1 f ((x++".<locals>.")++"<lambda>") params body scope cl c' pm ctv->Q (.ref f) s1) :
  wpAny (model X.prog X.w) X.A (eval (.Lambda params body scope pos) X.env) Q E s:=by
 have hm:(c,P,(x++".<locals>.")++"<lambda>")∈bA X.K:=Nd.mpr ⟨x,hx,by rw[ht];rfl⟩
 obtain⟨more,hP⟩:=(I.ok.tabs.un I.base) _ hm;have C:PySem.W.CodeHd s.heap c P:=(I.ok.mod.codes _ hm).keeps I.bk;obtain⟨qs,eP,tr,fa⟩:=I.aD P _ hP;have hns:=I.ok.mod.glob.keeps I.bk;have hgP:mainGlobals≠P:=fun z=>by
  obtain⟨o,es,ep,e,_⟩:=I.ok.mod.glob;have:=(I.bs _ _ e).2;rw[z,hP] at this;cases this
 have hb:s.heap.BuiltinsAt X.mg P:=by
  obtain⟨bm,ob,b1,b2,b3,b4,b5⟩:=I.ok.mod.bm;refine⟨bm,ob,b1,b2,fun z=>?_,fun z=>?_,I.bk _ _ b3,b4,b5⟩
  ·obtain⟨o,es,ep,e,hd,_⟩:=I.ok.mod.glob;rw[z,e] at b3;cases b3;rw[hd] at b5;cases b5.2
  ·have:=(I.bs _ _ b3).2;rw[z,hP] at this;cases this
 refine PySem.W.kla_eval hdef ?_;rw[hq]
 cases ca:codeAmong pos qs.toList with
 |some cv =>
  have il:=fa pos cv ca;rw[sC] at il;obtain⟨c',oc,vs,t,rfl,e2,e3⟩:=il;refine PySem.W.kla_makeFunctionHit hcl I.ok.glob hns hcode C eP tr ca hb fun ctv h' tk hk hsz=>?_;have n0:H h'.objs.size=none:=I.aD.fresh hsz;have J:=I.yr (f:=h'.objs.size) (t':=tk) (h':=h'.push {cls:=.type "function",data:=.func (PySem.W.kla_fn "<lambda>" ((x++".<locals>.")++"<lambda>") params body scope cl ((X.mg "__name__").getD .none) (.ref c') ctv)}) (fun b u e=>Kv _ (hk b u e)) hsz (K7 _ rfl);exact h _ c' _ ctv _ _ (.more .refl n0) J ⟨ae,c',oc,vs,t,rfl,by rw[ab (ah e2 n0)];exact e2,e3⟩
 |none =>
  refine PySem.W.kla_makeFunction hcl I.ok.glob hns hcode C eP tr ca hgP hb fun c' ctv h' tk hx2 hge hlt hrec htb=>?_;obtain⟨c2,oc,vs,t,e2,hoc,hd,hv⟩:=hrec;cases e2;have nP:P≠c':=fun z=>absurd (KA eP) (by rw[z];exact Nat.not_lt.mpr hge)
  have n1:H c'=none:=I.aD.fresh hge;have keep:∀ b u,b≠P->s.heap.get? b=some u->h'.get? b=some u:=fun b u hb' e=>hx2 b u hb' e;have H1ne:∀ b u,H b=some u->upd H c' (.ib oc (.own c')) b=some u:=fun b u e=>by rw[ab (ah e n1)];exact e
  have hoP:∀ y,H P≠some (.own y):=fun y z=>by rw[hP] at z;cases z
  have J1:Inv X pins σ (upd H c' (.ib oc (.own c'))) {s with heap:=h',toks:=tk}:=by
   refine I.un ⟨fun b o e n _ _=>keep b o (fun z=>by rw[z,hP] at n;cases n) e,fun b o e n _ _=>⟨o.slots,keep b o (fun z=>by rw[z,hP] at n;cases n) e⟩,fun b o e n _=>?_,fun b o e _=>?_,fun b xs e=>H1ne b _ e,fun b o u e=>H1ne b _ e,fun b ps e=>⟨#[],by rw[H1ne b _ e,NY]⟩⟩ fun b u e=>?_
   ·rw[ab (fun z=>absurd (KA e) (by rw[z];exact Nat.not_lt.mpr hge))];exact n
   ·by_cases z:b=P
    ·rw[z];exact⟨_,htb⟩
    ·exact⟨o,keep b o z e⟩
   ·by_cases z:b=c'
    ·subst z;rw[ae] at e;cases e;exact⟨hoc,oc,hoc⟩
    ·rw[ab z] at e;by_cases z2:b=P
     ·subst z2;rw[hP] at e;cases e;refine⟨_,htb,by rw[NS];exact iy _ tr,fun p cv hc=>?_⟩
      rw[NS] at hc;rcases kU _ tr hc with q|q
      ·obtain⟨c2,oc2,vs2,t2,g1,g2,g3⟩:=fa p cv q;exact⟨c2,oc2,vs2,t2,g1,H1ne _ _ g2,g3⟩
      ·rw[sC];exact⟨c',oc,vs,t,q,ae,hd,hv⟩
     ·refine (I.aD b u e).m3 (fun c v hc q=>keep c v ?_ q) (fun c q=>H1ne c _ q) (fun c xs q=>H1ne c _ q) fun c _ _ q=>H1ne c _ q;rcases hc with rfl|hc
      ·exact z2
      ·exact fun z3=>hoP b (by rw[<- z3];exact hc)
  have n2:upd H c' (.ib oc (.own c')) h'.objs.size=none:=J1.aD.fresh (K2 _);have J:=J1.yr (f:=h'.objs.size) (t':=tk) (h':=h'.push (PySem.W.kla_obj "<lambda>" ((x++".<locals>.")++"<lambda>") params body scope cl ((X.mg "__name__").getD .none) c' ctv)) (fun b u e=>Kv _ e) (K2 _) (K7 _ rfl);exact h _ c' _ ctv _ _ (.more (.more .refl n1) n2) J ⟨ae,c',oc,vs,t,rfl,by rw[ab (ah ae n2)];exact ae,hd,hv⟩
end
section
variable {α β:Type}
noncomputable def iF(p:Int×α):List (Int×α)->List (Int×α)
 |[]=>[p]
 |q::r=>if p.1<=q.1 then p::q::r else q::iF p r
noncomputable def fZ:List (Int×α)->List (Int×α)
 |[]=>[]
 |p::r=>iF p (fZ r)
abbrev Fm(l:List (Int×α)):Prop:=l.Pairwise fun p q=>p.1<=q.1
noncomputable def atK(a:Int)(l:List (Int×α)):List (Int×α):=l.filter fun p=>decide (p.1=a)
theorem hJ(p:Int×α):∀ l,(iF p l).Perm (p::l)
 |[]=>.refl _
 |q::r=>by
  unfold iF;split
  ·exact .refl _
  ·exact ((hJ p r).cons q).trans (List.Perm.swap p q r)
theorem d6:∀ l:List (Int×α),(fZ l).Perm l
 |[]=>.refl _
 |p::r=>(hJ p _).trans ((d6 r).cons p)
theorem su{p:Int×α}:∀{l:List (Int×α)},Fm l->Fm (iF p l)
 |[],_=>List.pairwise_singleton _ _
 |q::r,h=>by
  obtain⟨h1,h2⟩:=Ln.mp h;unfold iF;split
  ·rename_i c;exact Ln.mpr ⟨fun z hz=>by
    rcases K4.mp hz with rfl|hz
    ·exact c
    ·exact Pn c (h1 z hz),h⟩
  ·rename_i c;refine Ln.mpr ⟨fun z hz=>?_,su h2⟩;rcases K4.mp ((hJ p r).mem_iff.mp hz) with rfl|hz
   ·lia
   ·exact h1 z hz
theorem jS:∀ l:List (Int×α),Fm (fZ l)
 |[]=>List.Pairwise.nil
 |_::r=>su (jS r)
theorem aQ(a:Int)(p:Int×α)(l:List (Int×α)):atK a (p::l)=if p.1=a then p::atK a l else atK a l:=by
 unfold atK;rw[MX];by_cases z:p.1=a
 ·rw[Kz z,Kz (L4 z)]
 ·rw[Kx z,Kx (by simp[z])]
theorem sg{a:Int}{p:Int×α}:∀{l:List (Int×α)},atK a (iF p l)=atK a (p::l)
 |[]=>rfl
 |q::r=>by
  unfold iF;split
  ·rfl
  ·rename_i c;rw[aQ,sg,aQ,aQ,aQ];by_cases z:p.1=a
   ·have z2:¬ q.1=a:=by lia
    simp only[z,z2,Mg,LY]
   ·simp only[z,LY]
theorem nR{a:Int}:∀ l:List (Int×α),atK a (fZ l)=atK a l
 |[]=>rfl
 |p::r=>by
  show atK a (iF p (fZ r))=_;rw[sg,aQ,aQ,nR r]
theorem jK{a:Int}:∀{l:List (Int×α)},(∀ p∈l,a<p.1)->atK a l=[]
 |[],_=>rfl
 |p::r,h=>by
  have:=h p (KD ..);rw[aQ,Kx (by lia),jK fun q hq=>h q (K9 _ hq)]
theorem kE:∀{l m:List (Int×α)},Fm l->Fm m->(∀ a,atK a l=atK a m)->l=m
 |[],[],_,_,_=>rfl
 |[],q::m,_,_,h=>by
  have:=h q.1;rw[aQ,Kz rfl] at this;cases this
 |p::l,[],_,_,h=>by
  have:=h p.1;rw[aQ,Kz rfl] at this;cases this
 |p::l,q::m,hl,hm,h=>by
  obtain⟨l1,l2⟩:=Ln.mp hl;obtain⟨m1,m2⟩:=Ln.mp hm;have e:p.1=q.1:=by
   rcases Int.lt_trichotomy p.1 q.1 with z|z|z
   ·have q1:=h p.1;rw[aQ,Kz rfl,aQ,Kx (by lia),jK (l:=m) fun r hr=>by have:=m1 r hr;lia] at q1
    cases q1
   ·exact z
   ·have q1:=h q.1;rw[aQ,Kx (by lia),aQ,Kz rfl,jK (l:=l) fun r hr=>by have:=l1 r hr;lia] at q1
    cases q1
  have q1:=h p.1;rw[aQ,Kz rfl,aQ,Kz e.symm] at q1;obtain⟨q2,q3⟩:=List.cons.inj q1;subst q2;congr 1;refine kE l2 m2 fun a=>?_;have q4:=h a;rw[aQ,aQ] at q4;by_cases z:p.1=a
  ·rw[Kz z,Kz z] at q4;exact (List.cons.inj q4).2
  ·rw[Kx z,Kx z] at q4;exact q4
theorem yu{l m:List (Int×α)}(hm:Fm m)(h:∀ a,atK a m=atK a l):m=fZ l:=kE hm (jS l) fun a=>by rw[h a,nR]
abbrev Fe(R:α->β->Prop):List (Int×α)->List (Int×β)->Prop:=Paired fun p q=>p.1=q.1/\R p.2 q.2
theorem yT{R:α->β->Prop}{p:Int×α}{q:Int×β}(h:p.1=q.1/\R p.2 q.2){l:List (Int×α)}{m:List (Int×β)}(k:Fe R l m):Fe R (iF p l) (iF q m):=by
 induction k with
 |nil=>exact .cons h .nil
 |cons r t ih =>
  unfold iF;split
  ·rename_i z;rw[Kz (by rw[<- h.1,<- r.1];exact z)]
   exact .cons h (.cons r t)
  ·rename_i z;rw[Kx (by rw[<- h.1,<- r.1];exact z)]
   exact .cons r ih
theorem tX{R:α->β->Prop}{l:List (Int×α)}{m:List (Int×β)}(k:Fe R l m):Fe R (fZ l) (fZ m):=by
 induction k with
 |nil=>exact .nil
 |cons r t ih=>exact yT r ih
theorem za{R:α->β->Prop}{ks:List Int}{l:List α}{m:List β}(k:Paired R l m):Fe R (ks.zip l) (ks.zip m):=by
 induction k generalizing ks with
 |nil=>rw[List.zip_nil_right,List.zip_nil_right];exact .nil
 |cons r t ih =>
  cases ks with
  |nil=>exact .nil
  |cons k ks=>exact .cons ⟨rfl,r⟩ ih
theorem vZ{R:α->β->Prop}{l:List (Int×α)}{m:List (Int×β)}(k:Fe R l m):Paired R (l.map (·.2)) (m.map (·.2)):=by
 induction k with
 |nil=>exact .nil
 |cons r t ih=>exact .cons r.2 ih
noncomputable def fM(ks:List Int)(l:List α):List α:=(fZ (ks.zip l)).map (·.2)
theorem iR{R:α->β->Prop}{ks:List Int}{l:List α}{m:List β}(h:Paired R l m):Paired R (fM ks l) (fM ks m):=vZ (tX (za h))
theorem sj{ks:List Int}{l:List α}(h:ks.length=l.length):(fM ks l).length=l.length:=by
 unfold fM;rw[K3,(d6 _).length_eq,OC,h,NF]
theorem yE{ks:List Int}{l:List α}(h:ks.length=l.length):(fM ks l).Perm l:=by
 have h2:((ks.zip l).map (·.2))=l:=List.map_snd_zip (by lia)
 have h3:=(d6 (ks.zip l)).map (·.2);rw[h2] at h3;exact h3
end
theorem ip:∀{xs:List V} {us:List Value},Vals xs us->Paired RelV xs us
 |_,_,.nil=>.nil
 |_,_,.cons r t=>.cons r (ip t)
theorem i8:∀{xs:List V} {us:List Value},Paired RelV xs us->Vals xs us
 |_,_,.nil=>.nil
 |_,_,.cons r t=>.cons r (i8 t)
theorem cO:∀{us:List Value} {ns:List Int},IntsAre us ns->∀{i:Nat},i<ns.length->∃ t,us.getD i Value.none=.int (ns.getD i 0) t
 |_,_,.cons n t h,0,_=>⟨t,rfl⟩
 |_,_,.cons n t h,i+1,hi=>cO h (i:=i) (by simpa using hi)
theorem yp{p:List Nat}(hl:kz.length=us.length)(hp:p.Perm (List.range us.length))(hr:p.Pairwise (SP.R fun i=>kz.getD i 0)):p.map (fun i=>us.getD i Value.none)=fM kz us:=by
 have ez:(List.range us.length).map (fun i=>(kz.getD i 0,us.getD i Value.none))=kz.zip us:=by
  apply List.ext_getElem
  ·rw[K3,L1,OC,hl,NF]
  ·intro i h1 h2;rw[K3,L1] at h1;rw[List.getElem_map,List.getElem_range,List.getElem_zip];simp[h1,hl]
 have e1:p.map (fun i=>(kz.getD i 0,us.getD i Value.none))=fZ (kz.zip us):=by
  refine yu ?_ fun a=>?_
  ·exact List.pairwise_map.mpr (hr.imp fun h=>h.le)
  ·have fl:∀ l:List Nat,atK a (l.map fun i=>(kz.getD i 0,us.getD i Value.none))=(l.filter fun i=>decide (kz.getD i 0=a)).map fun i=>(kz.getD i 0,us.getD i Value.none):=fun l=>by
    unfold atK;rw[List.filter_map];rfl
   rw[<- ez,fl,fl];congr 1;refine List.Perm.eq_of_pairwise (le:=(· < ·)) (fun a b _ _ h g=>absurd h (Nat.lt_asymm g)) ?_ (List.pairwise_lt_range.filter _) (hp.filter _);rw[List.pairwise_filter];refine hr.imp fun {i j} h hi hj=>?_;have hi:=Oj hi;have hj:=Oj hj;rcases h with h|h
   ·exfalso;have h':kz.getD i 0<kz.getD j 0:=h;lia
   ·exact h.2
 unfold fM;rw[<- e1,MC];rfl
section
variable {X:Cx} {pins:List (Addr×Obj)} {σ:St} {H:Hp} {s:Shared} {E:Value->Shared->Prop}
theorem Inv.take{D:Addr}{ob:Obj}{o:HO}{t':Nat}(I:Inv X ((D,ob)::pins) σ H s)(hs0:X.s₀.heap.objs.size<=D)(hnp:∀ p∈X.pn++pins,p.1≠D)(k:∀ b u,b≠D->s.heap.get? b=some u->h'.get? b=some u)(new:aP X.prog X.w (upd H D o) h' D o):
  Inv X pins σ (upd H D o) {s with heap:=h',toks:=t'}:=by
 obtain⟨g1,g2,g3,g4,g5⟩:=I.pin (D,ob) (KQ _ (KD ..));have I0:Inv X pins σ H s:=⟨I.ok,I.os,I.bare,I.base,I.loc,I.cell,I.free,I.eS,fun p hp=>I.pin p ((KR.mp hp).elim (fun z=>N8 _ z) fun z=>KQ _ (K9 _ z)),I.aD,I.len⟩;have ne:∀ b u,H b=some u->b≠D:=fun b u e=>ah e g2;refine I0.step (g':=s.gens) (d':=s.drawn) (ch:=[D]) (fun b hb=>?_) (fun b o' _ _ hc e _=>k b o' (fun z=>hc (by rw[z];exact KC.mpr rfl)) e) (fun b o' _ _ hc e _=>⟨o'.slots,k b o' (fun z=>hc (by rw[z];exact KC.mpr rfl)) e⟩) (fun b o' hc e n=>by rw[ab (fun z=>hc (by rw[z];exact KC.mpr rfl))];exact n)
  (fun b o' hc e=>⟨o',k b o' (fun z=>hc (by rw[z];exact KC.mpr rfl)) e⟩) (fun b xs e=>by rw[ab (ne b _ e)];exact e) (fun b o' u e=>by rw[ab (ne b _ e)];exact e) (fun b ps e=>⟨#[],by rw[ab (ne b _ e),e,NY]⟩) (fun m hm=>?_) (fun b u e=>?_) I.bare
 ·rw[KC.mp hb];refine⟨.inr hs0,g3,fun x c e z=>?_,hnp⟩;obtain⟨v,o',ho',hd⟩:=I.cell x c e;rw[z,g1] at ho';cases ho';exact g5 v hd
 ·obtain⟨o',es,ep,ho',r⟩:=hm;exact⟨o',es,ep,k _ _ (Ne.symm g3) ho',r⟩
 ·by_cases z:b=D
  ·subst z;rw[ae] at e;cases e;exact new
  ·rw[ab z] at e;refine (I.aD b u e).m3 (fun c v hc q=>k c v ?_ q) (fun c q=>by rw[ab (ne c _ q)];exact q) (fun c xs q=>by rw[ab (ne c _ q)];exact q) fun c _ _ q=>by rw[ab (ne c _ q)];exact q
   rcases hc with rfl|hc
   ·exact z
   ·exact ne c _ hc
theorem sG{A:Around}{D:Nat}{st:SortSt}
  (I:Inv X ((D,seqObj "list" #[] e1)::pins) σ (upd H kS (.lst (kz.map V.int))) s) (hkS:H kS=none) (hD:H D=none) (hkD:kS≠D) (hs0:X.s₀.heap.objs.size<=D) (hnp:∀ p∈X.pn++pins,p.1≠D)
  (hv:Vals xs us) (hlen:kz.length=us.length) (h64:us.length<64) (ho:((arrOf st).map (·.2)).toList=fM kz us) (hfl:failedOf st=none)
  (h:∀ s',Inv X pins σ (upd (upd H kS (.lst [])) D (.lst (fM kz xs))) s'->P (.done (.ret .none)) s') :
  wpAny (model X.prog X.w) A (ksk_tail D false e1 (.ref kS) st) P E s:=by
 obtain⟨_,its,n,vr,ek⟩:=I.aD kS _ ae;have hz:its.toArray.size<=sizeLine:=by
  rw[Ky,<- vr.length,K3,hlen,LS];lia
 have pD:=I.pin _ (KQ _ (KD ..));have hout:((arrOf st).map (·.2)).size=us.length:=by
  rw[<- Lq,ho,sj hlen]
 have s1:=LQ s.heap kS (Obj.mapSeq fun _=>(#[]:Array Value));obtain⟨c1,hc1⟩:∃ c,(s.heap.update kS (Obj.mapSeq fun _=>(#[]:Array Value))).get? kS=some (seqObj "list" #[] c):=⟨_,NJ ek fun _=>#[]⟩;have J1:Inv X ((D,seqObj "list" #[] e1)::pins) σ (upd H kS (.lst [])) {s with heap:=s.heap.update kS (Obj.mapSeq fun _=>(#[]:Array Value))}:=by
  have J:=I.write (x:=kS) (e:=kS) (o:=.lst []) (t':=s.toks) (h':=s.heap.update kS (Obj.mapSeq fun _=>(#[]:Array Value))) (by rw[ae];trivial) (.inl rfl) (fun b u hb q=>(s1.2 b hb).trans q) ⟨_,hc1⟩ ⟨KY _,[],c1,.nil,hc1⟩
  rw[ma] at J;exact J
 have pD1:=J1.pin _ (List.mem_append_right _ (List.mem_cons_self ..));have s2:=Heap.SameBut.update (s.heap.update kS (Obj.mapSeq fun _=>(#[]:Array Value))) D (Obj.mapSeq fun _=>(arrOf st).map (·.2));obtain⟨c2,hc2⟩:∃ c,((s.heap.update kS (Obj.mapSeq fun _=>(#[]:Array Value))).update D (Obj.mapSeq fun _=>(arrOf st).map (·.2))).get? D=some (seqObj "list" ((arrOf st).map (·.2)) c):=⟨_,get?_update_seq pD1.1 fun _=>(arrOf st).map (·.2)⟩;have vB:Vals (fM kz xs) (fM kz us):=i8 (iR (ip hv));unfold ksk_tail;dsimp only;refine wpAny_bind (listUpdate_at ek rfl ?_ hz (Nat.zero_le _));refine wpAny_bind (wpAny_letGo ?_);refine wpAny_bind (seqEpoch_at pD1.1 rfl ?_);refine wpAny_bind (listUpdate_at pD1.1 rfl ?_ (Nat.zero_le _) (by show ((arrOf st).map (·.2)).size<=_;rw[hout,sizeLine_eq];lia))
 rw[hfl];simp only[bne_self_eq_false,Lw,LY];refine K1 (h _ (J1.take hs0 hnp (fun b u hb q=>(s2.2 b hb).trans q) ⟨?_,fM kz us,c2,vB,?_⟩))
 ·rw[vB.length,sj hlen,LS];lia
 ·rw[<- ho,Array.toArray_toList];exact hc2
theorem EC{A:Around}{D:Nat}{us:List Value}{kz:List Int}{keys:Array Value}
  (I:Inv X ((D,seqObj "list" #[] e1)::pins) σ (upd H kS (.lst (kz.map V.int))) s) (hkS:H kS=none) (hD:H D=none) (hkD:kS≠D) (hs0:X.s₀.heap.objs.size<=D) (hnp:∀ p∈X.pn++pins,p.1≠D)
  (hv:Vals xs us) (hlen:kz.length=us.length) (h64:us.length<64) (hk:IntsAre keys.toList kz)
  (h:∀ s',Inv X pins σ (upd (upd H kS (.lst [])) D (.lst (fM kz xs))) s'->P (.done (.ret .none)) s') :
  wpAny (model X.prog X.w) A (ksk_end D false us.toArray e1 (.ref kS) keys) P E s:=by
 have hsz:keys.size=us.length:=by
  have z:=hk.length;rw[Lq] at z;exact z.trans hlen
 have hzs:(keys.zip us.toArray).size=us.length:=by
  rw[Array.size_zip,hsz,Ky,NF]
 unfold ksk_end;dsimp only;rw[if_neg Bool.false_ne_true,if_neg Bool.false_ne_true];by_cases h2:us.toArray.size<2
 ·rw[if_pos h2,if_pos h2];refine wpAny_bind (wpAny_pure ?_);rw[StateT.run_pure];refine wpAny_bind (wpAny_pure ?_);dsimp only;refine sG I hkS hD hkD hs0 hnp hv hlen h64 ?_ rfl h;rw[List.size_toArray] at h2;have:=yp (us:=us) (kz:=kz) (p:=List.range us.length) hlen (List.Perm.refl _) (by
   rcases us with _|⟨x,_|⟨y,r⟩⟩
   ·exact .nil
   ·simp
   ·exfalso;simp only[K6] at h2;lia)
  rw[<- this];show ((keys.zip us.toArray).map (·.2)).toList=_;rw[Array.toList_map,Array.toList_zip,List.map_snd_zip (by simp only[Lq,Ky];lia)]
  apply List.ext_getElem
  ·simp
  ·intro i h1 h2;have h1':i<us.length:=h1;simp[h1']
 ·rw[Kx h2,Kx h2];rw[Ky] at h2;rw[ksk_kind hk (by lia)]
  refine Ku (K1 ?_);have ek:keys=keys.toList.toArray:=(Array.toArray_toList).symm;have hkl:keys.toList.length=us.length:=by rw[Lq,hsz]
  have hat:∀ i,i<us.length->∃ t,keys.toList.getD i Value.none=.int (kz.getD i 0) t:=fun i hi=>cO hk (by rw[hlen];exact hi)
  generalize keys.toList=ks at *;subst ek;refine Ku (L5 (PySem.W.kat_run (ks:=ks) (vs:=us) (κ:=oneType') (Q:=fun st' s'=>s'=s/\failedOf st'=none/\((arrOf st').map (·.2)).toList=fM kz us)
   (G:=fun p s'=>s'=s/\p.toList.Perm (List.range us.length)/\p.toList.Pairwise (SP.R fun i=>kz.getD i 0)) hkl (by lia) h64 (fun p st' s' a1 a2 a3 a4=>⟨a4.1,a3,by rw[PySem.W.kat_snds hkl a2];exact yp hlen a4.2.1 a4.2.2⟩) ?_) ?_ fun _ _ e=>e)
  ·refine SP.BJ (k:=fun i=>kz.getD i 0) (I:=fun s'=>s'=s) (fun i j C s' hi hj hI hC=>?_) (by lia) rfl fun p s' hp hr hI=>⟨hI,hp,hr⟩
   subst hI;obtain⟨t1,e1⟩:=hat i hi;obtain⟨t2,e2⟩:=hat j hj;unfold PySem.W.kas_ask;rw[e1,e2];exact PySem.W.kat_lt_int (hC _ rfl)
  rintro⟨⟨⟩,st'⟩ s' ⟨rfl,hf,ho⟩;dsimp only;exact sG I hkS hD hkD hs0 hnp hv hlen h64 ho hf h
theorem jw:∀{us:List Value} {ns:List Int},Vals (ns.map V.int) us->IntsAre us ns
 |_,[],.nil=>.nil
 |_,n::ns,.cons ⟨t,e⟩ r=>by subst e;exact .cons n t (jw r)
theorem zG{A:Around}{D:Nat}{f:Value}
  (I:Inv X ((D,seqObj "list" #[] e1)::pins) σ (upd H kS (.lst [])) s) (hkS:H kS=none) (hD:H D=none) (hkD:kS≠D) (hs0:X.s₀.heap.objs.size<=D) (hnp:∀ p∈X.pn++pins,p.1≠D)
  (hv:Vals xs us) (hlen:kz.length=us.length) (h64:us.length<64)
  (turn:∀(i:Nat) (u:Value) (k:Int),us[i]?=some u->kz[i]?=some k->∀ pins' H' s',dA H H'->Inv X pins' σ H' s'->wpAny (model X.prog X.w) A (call f [u]) (fun r s2=>(∃ t,r=.int k t)/\Inv X pins' σ H' s2) (fun _ _=>False) s')
  (h:∀ s',Inv X pins σ (upd (upd H kS (.lst [])) D (.lst (fM kz xs))) s'->P (.done (.ret .none)) s') :
  wpAny (model X.prog X.w) A (ksk_rest D f false us.toArray e1 (.ref kS)) P E s:=by
 unfold ksk_rest;refine Ku (NC ?_)
 first
  |rw[List.forIn_toArray]
  | (rw[<- Array.forIn_toList];simp only[List.toList_toArray])
 refine Ku (ksk_fold (fun i s'=>Inv X ((D,seqObj "list" #[] e1)::pins) σ (upd H kS (.lst ((kz.take i).map V.int))) s') us 0 s I ?one ?all)
 case one =>
  intro j u s' hu J;rw[Nh] at J ⊢;have hj:j<us.length:=(K8.mp hu).1;obtain⟨k,hkj⟩:∃ k,kz[j]?=some k:=⟨_,Kw (by lia)⟩
  refine wpAny_bind (wpAny_attempt (wpAny_mono (turn j u k hu hkj _ _ s' (.more .refl hkS) J) (fun r s2 hr=>?_) fun _ _ z=>z.elim));obtain⟨⟨t,rfl⟩,J2⟩:=hr;dsimp only;obtain⟨_,its,n,vr,ek⟩:=J2.aD kS _ ae;have lenI:its.length<=us.length:=by
   rw[<- vr.length,K3,Ld];lia
  have s1:=LQ s2.heap kS (Obj.mapSeq (·.push (.int k t)));obtain⟨c1,hc1⟩:∃ c,(s2.heap.update kS (Obj.mapSeq (·.push (.int k t)))).get? kS=some (seqObj "list" (its.toArray.push (.int k t)) c):=⟨_,NJ ek (·.push (.int k t))⟩;have et:kz.take (j+1)=kz.take j++[k]:=by
   rw[List.take_add_one,hkj];rfl
  have vr2:Vals ((kz.take (j+1)).map V.int) (its++[.int k t]):=by
   rw[et,KI];exact vr.append (.cons ⟨t,rfl⟩ .nil)
  refine Ku (listUpdate_at ek rfl ?_ (by rw[Ky,LS];lia) (by show (its.toArray.push (.int k t)).size<=_;rw[Array.size_push,Ky,LS];lia))
  refine K1 ⟨rfl,?_⟩;have J3:=J2.write (x:=kS) (e:=kS) (o:=.lst ((kz.take (j+1)).map V.int)) (t':=s2.toks) (h':=s2.heap.update kS (Obj.mapSeq (·.push (.int k t)))) (by rw[ae];trivial) (.inl rfl) (fun b u hb q=>(s1.2 b hb).trans q) ⟨_,hc1⟩
   ⟨by rw[K3,Ld,LS];lia,its++[.int k t],c1,vr2,by rw[hc1,List.push_toArray]⟩
  rw[ma] at J3;exact J3
 case all =>
  intro s' J;have ez:kz.take (0+us.length)=kz:=LU (by lia)
  have J':Inv X ((D,seqObj "list" #[] e1)::pins) σ (upd H kS (.lst (kz.map V.int))) s':=by
   rw[<- ez];rw[ez];simpa only[ez] using J
  obtain⟨_,its,n,vr,ek⟩:=J'.aD kS _ ae;refine Ku (O0 ek rfl ?_);exact EC J' hkS hD hkD hs0 hnp hv hlen h64 (by rw[List.toList_toArray];exact jw vr) h
theorem A1{A:Around}{D:Addr}{n0:Nat}{h0:Heap}{f:Value}
  (I:Inv X pins σ H s) (k0:∀ b o,s.heap.get? b=some o->h0.get? b=some o) (hDs:s.heap.objs.size<=D) (ho:h0.get? D=some (seqObj "list" us.toArray n0)) (hv:Vals xs us) (hlen:kz.length=us.length) (h64:us.length<64)
  (turn:∀(i:Nat) (u:Value) (k:Int),us[i]?=some u->kz[i]?=some k->∀ pins' H' s',dA H H'->Inv X pins' σ H' s'->wpAny (model X.prog X.w) A (call f [u]) (fun r s2=>(∃ t,r=.int k t)/\Inv X pins' σ H' s2) (fun _ _=>False) s')
  (h:∀ H' s',dA H H'->H' D=none->Inv X pins σ (upd H' D (.lst (fM kz xs))) s'->P (.done (.ret .none)) s') :
  wpAny (model X.prog X.w) A (ksk_tree D f false) P E {s with heap:=h0}:=by
 have hsz0:D<h0.objs.size:=KA ho;have s1:=LQ h0 D (Obj.mapSeq fun _=>(#[]:Array Value));obtain⟨e1,ho1⟩:∃ e,(h0.update D (Obj.mapSeq fun _=>(#[]:Array Value))).get? D=some (seqObj "list" #[] e):=⟨_,NJ ho fun _=>#[]⟩;have hkz:((h0.update D (Obj.mapSeq fun _=>(#[]:Array Value))).push (seqObj "tuple" us.toArray 0)).objs.size=h0.objs.size+1:=by
  rw[size_push',Nz]
 have nD:∀ b o,s.heap.get? b=some o->b≠D:=fun b o e=>KJ (KU (KA e) hDs);have keep:∀ b o,s.heap.get? b=some o->(((h0.update D (Obj.mapSeq fun _=>(#[]:Array Value))).push (seqObj "tuple" us.toArray 0)).push (seqObj "list" #[] 0)).get? b=some o:=fun b o e =>
  Kv _ (Kv _ ((s1.2 b (nD b o e)).trans (k0 b o e)))
 have hle:s.heap.objs.size<=h0.objs.size+1:=KG hDs (Nat.le_succ_of_le (Mn hsz0));have hkD:h0.objs.size+1≠D:=Mo (Mv hsz0);have hkS:H (h0.objs.size+1)=none:=I.aD.fresh hle;have hD:H D=none:=I.aD.fresh hDs;have hnp:∀ p∈X.pn++pins,p.1≠D:=fun p hp=>nD _ _ (I.pin p hp).1;have J0:Inv X pins σ (upd H (h0.objs.size+1) (.lst [])) {s with heap:=((h0.update D (Obj.mapSeq fun _=>(#[]:Array Value))).push (seqObj "tuple" us.toArray 0)).push (seqObj "list" #[] 0)}:=
  I.laid (t':=s.toks) keep hle ⟨KY _,[],0,.nil,by rw[<- hkz];exact K7 _ rfl⟩
 have J:Inv X ((D,seqObj "list" #[] e1)::pins) σ (upd H (h0.objs.size+1) (.lst [])) {s with heap:=((h0.update D (Obj.mapSeq fun _=>(#[]:Array Value))).push (seqObj "tuple" us.toArray 0)).push (seqObj "list" #[] 0)}:=by
  refine J0.lO fun p hp=>?_;rcases K4.mp hp with rfl|hp
  ·exact⟨Kv _ (Kv _ ho1),by rw[ab (Ne.symm hkD)];exact hD,fun z=>absurd I.lt (by rw[<- z];exact Nat.not_lt.mpr hDs),I.GV hDs,fun v z=>by cases z⟩
  ·exact J0.pin p (KQ _ hp)
 unfold ksk_tree;refine Ku (O0 ho rfl ?_);refine Ku (listUpdate_at ho rfl ?_ (by rw[Ky,LS];lia) (KY _))
 refine Ku (seqEpoch_at ho1 rfl ?_);refine Ku (wpAny_newTuple ?_ (by show us.length<=_;rw[LS];lia))
 refine Ku (Nv ?_ (KY _));refine Lg ?_;show wpAny _ _ (ksk_rest D f false us.toArray e1 (.ref ((h0.update D (Obj.mapSeq fun _=>(#[]:Array Value))).push (seqObj "tuple" us.toArray 0)).objs.size)) _ _ _;rw[hkz];exact zG J hkS hD hkD (KG I.sz hDs) hnp hv hlen h64 turn fun s' K=>h _ s' (.more .refl hkS) (by rw[ab (Ne.symm hkD)];exact hD) K
end
noncomputable def zX(q:Str)(params:Arguments)(body:Expr)(scope:Scope)(cl:List (Str×Addr)):TE:=fun _ H Q=>∀ f c' pm ctv H1,dA H H1->iz H1 f q params body scope cl c' pm ctv->Q (.ref f) H1
theorem EB{c P:Addr}(hx:x∈d5)(ht:PySem.W.tabIn X.K x=some (c,P))(hcode:X.env.code=.ref c)(hq:X.env.qual=x++".<locals>.")
  (hdef:defaultsOf params X.env=([],[])) (hcl:closureFor scope X.env=pure cl):PE X (.Lambda params body scope pos) (zX ((x++".<locals>.")++"<lambda>") params body scope cl):=fun pins s σ H Q I h =>
 wa I hx ht hcode hq hdef hcl fun f c' pm ctv H1 s1 g J l=>⟨.ref f,H1,J,rfl,h f c' pm ctv H1 g l⟩
section
variable {X:Cx} {pins:List (Addr×Obj)} {σ:St} {H:Hp} {s:Shared} {E:Value->Shared->Prop}
noncomputable def wF(X:Cx)(A:Around)(s:Shared)(l:Addr)(xs:List V):Prop:=∀(Q:List Value->Shared->Prop) (E:Value->Shared->Prop),(∀ h0 tk us,(∀ b o,s.heap.get? b=some o->h0.get? b=some o)->s.heap.objs.size<=h0.objs.size->Vals xs us->Q us {s with heap:=h0,toks:=tk})->wpAny (model X.prog X.w) A (collect (.ref l)) Q E s
theorem uD{A:Around}{Q:VK}(I:Inv X pins σ H s)(hcol:wF X A.in1 s l xs)(hlen:kz.length=xs.length)(h64:xs.length<64)
  (turn:∀(i:Nat) (v:V) (u:Value) (k:Int),xs[i]?=some v->RelV v u->kz[i]?=some k->∀ pins' H' s',dA H H'->Inv X pins' σ H' s'->wpAny (model X.prog X.w) A.in1.in1 (call (.ref f) [u]) (fun r s2=>(∃ t,r=.int k t)/\Inv X pins' σ H' s2) (fun _ _=>False) s')
  (h:∀ H' D,dA H H'->H' D=none->Q (.ref D) (upd H' D (.lst (fM kz xs)))) :
  wpAny (model X.prog X.w) A (call (.builtin "sorted") [.ref l] [(Str.ofString "key",.ref f)]) (EP X pins σ Q) E s:=by
 refine call_function_entry_kw kind_sorted plain_sorted entry_sorted (ksk_s1 _ _) ?_;unfold Builtin.«sorted»;refine Ku (m:=checkCount "sorted" 1 1 _) (K1 (Ku (hcol _ _ fun h0 tk us k0 hz hv=>?_)));have ul:us.length=xs.length:=hv.length.symm;refine Ku (Nv ?_ (by rw[ul,LS];lia))
 have hoL:(h0.push (seqObj "list" us.toArray 0)).get? h0.objs.size=some (seqObj "list" us.toArray 0):=K7 _ rfl;refine Ku (Lg (wpAny_call_entry_kw slot_list_sort ⟨_,hoL,rfl⟩ entry_list_sort ?srt (ksk_l1 _ _)))
 case srt =>
  show wpAny _ A.in1.in1 (Builtin.«list.sort» ⟨[.ref h0.objs.size],[(Str.ofString "key",.ref f)]⟩) _ _ _;rw[ksk_t1];refine A1 (s:={s with toks:=tk}) (h0:=h0.push (seqObj "list" us.toArray 0)) (I.tok tk) (fun b o e=>Kv _ (k0 b o e)) hz hoL hv (by rw[ul];exact hlen) (by rw[ul];exact h64)
   (fun i u k hu hk pins' H' s' g J=>?_) fun H' s' g n J=>⟨_,rfl,?_⟩
  ·have hi:i<xs.length:=by rw[<- ul];exact (K8.mp hu).1
   obtain⟨u',hu',rv⟩:=hv.get (Kw hi);rw[hu] at hu';cases hu';exact turn i _ u k (Kw hi) rv hk pins' H' s' g J
  ·exact K1 ⟨_,rfl,.ref h0.objs.size,_,J,rfl,h H' _ g n⟩
theorem qI{A:Around}(I:Inv X pins σ H s)(hl:bz X.K H l xs)(h64:xs.length<64):wF X A s l xs:=fun Q E h=>by
 obtain⟨its,rv,pl,hz⟩:=I.list hl;refine collect_list pl.isList (h _ s.toks its (fun b o e=>?_) ?_ rv) (by rw[<- rv.length];exact hz)
 ·rw[Heap.get?_update_ne _ _ _ _ (KJ (KA e))];exact Kv _ e
 ·rw[Nz,size_push'];exact Ly _
noncomputable def y6(src:Hp->Addr->List V->Prop)(pre:V->Int->Hp->St->Prop)(fr:St->St)(t:TA):TE:=fun σ H Q=>t σ H fun vs H1=>∃ l xs kz,vs=[.ref l]/\src H1 l xs/\kz.length=xs.length/\xs.length<64 /\
 (∀(i:Nat) (v:V) (k:Int),xs[i]?=some v->kz[i]?=some k->∀ H',dA H1 H'->pre v k H' (fr σ))/\∀ H2 D,dA H1 H2->H2 D=none->Q (.ref D) (upd H2 D (.lst (fM kz xs)))
theorem zf{t:TA}{p:Pos}{src:Hp->Addr->List V->Prop}{pre:V->Int->Hp->St->Prop}{fr:St->St}
  (hg:Gl X "sorted") (hm:X.mg "sorted"=none) (ha:PA X [e] t) (h1:cK e=true) (hr:ba (k+3) X.A) (hL:PE X (.Lambda params body scope lpos) (zX q params body scope cl))
  (hsrc:∀ pins σ H s H1 l xs A,Inv X pins σ H s->src H1 l xs->dA H1 H->A.handled=none->xs.length<64->wF X A s l xs)
  (hk:scope.kind=.function) (hco:scope.isCoroutine=false) (hgen:scope.isGenerator=false) (hcell:∀ y∈scope.names,y.2≠.cell) (hloc:scope.names.lookup x=some .local)
  (hbind:∀ c' pm ctv u,bindArgs (PySem.W.kla_fn "<lambda>" q params body scope cl pm (.ref c') ctv) ⟨[u],[]⟩=pure [(x,u)])
  (hlen:∀ σ:St,(fr σ).length=N.length) (hcl:∀ y c,cl.lookup y=some c->X.env.cells.lookup y=some c) (hhas:∀ y,(scope.names.lookup y=some .cell\/scope.names.lookup y=some .free)->∃ c,cl.lookup y=some c)
  (hf:∀ pins σ H s,Inv X pins σ H s->∀(i:Nat) (y:Str) (v:V),N[i]?=some y->(fr σ)[i]?=some (some v)->scope.names.lookup y=some .free/\∃ c u,cl.lookup y=some c/\s.heap.IsCell c (some u)/\RelV v u)
  (hbody:∀ A f c' s' H' σf v i,pre v i H' σf->∃ t,PE (rR X A (x::N) q scope f (.ref c') cl s' H') body t/\t (some v::σf) H' (fun w H2=>w=.int i/\H2=H')) :
  PE X (.Call (.Name "sorted" p) [e] [⟨some "key",.Lambda params body scope lpos,kpos⟩] pos) (y6 src pre fr t):=by
 intro pins s σ H Q I h;refine Mp (eR I hg hm (u:=.builtin "sorted") (by decide +kernel) ?_ (by decide) (by decide))
 have hkw:PK X [⟨some "key",.Lambda params body scope lpos,kpos⟩] (fY (zX q params body scope cl) iX):=rK hL vx;refine callWith_kw ?_ (by rw[cf h1];rfl) (by rw[cf h1];rfl) rfl rfl
 refine bo (ha pos pins s σ H _ I h) fun us s1 ⟨vs,H1,I1,r1,q1⟩=>?_;obtain⟨l,xs,kz,rfl,hs,hle,h64,hpre,qq⟩:=q1;obtain⟨u,rfl,ru⟩:=vals1 r1;cases ru;refine bo (hkw pos pins s1 σ H1 (fun zs H2=>∃ f c' pm ctv,zs=[.ref f]/\dA H1 H2/\iz H2 f ((q)) params body scope cl c' pm ctv) I1 fun f c' pm ctv H2 g lm=>⟨f,c',pm,ctv,rfl,g,lm⟩) fun ws s2 ⟨zs,H2,I2,rz,f,c',pm,ctv,e1,g,lm⟩=>?_;subst e1;obtain⟨wv,rfl,rw1⟩:=vals1 rz;cases rw1;have hr1:ba (k+2) X.A.in1:=hr.in1;refine uD I2 (hsrc _ _ _ _ _ _ _ _ I2 hs g hr1.hd h64) hle h64 (fun i v u j hv rv hj pins' H' s' g' J=>?_) fun H' D g' n=>qq H' D (g.trans g') n;obtain⟨ho,hcd⟩:=(lm.up fun b o u e=>g'.same b _ e).get J;obtain⟨tb,hb,hq⟩:=hbody X.A.in1.in1 f c' s' H' (fr σ) v j (hpre i v j hv hj H' (g.trans g'));refine L5 (wI J hr1.in1 J.ok.frames hk hco hgen hcell rv hloc ho hcd (hbind c' pm ctv) (hlen σ) hcl hhas (hf _ _ _ _ J) hb hq) (fun r s4 hr4=>?_) fun _ _ z=>z;obtain⟨w,H4,J4,rw4,e4,e5⟩:=hr4;subst e4 e5;exact⟨rw4,J4⟩
end
theorem AM{a:α}{l:List (Str×α)}:List.lookup x ((x,a)::l)=some a:=by rw[LI,Mm]
theorem Bj{y:Str}{a:α}{l:List (Str×α)}(h:y≠x):List.lookup y ((x,a)::l)=List.lookup y l:=by rw[LI,Lh.mpr h]
noncomputable def yM(K:Pq):List V->Hp->VK->Prop:=fun vs H1 Q=>∃ l xs kz,vs=[.ref l]/\bz K H1 l xs/\kz.length=xs.length/\xs.length<64 /\
 (∀(i:Nat) (v:V) (k:Int),xs[i]?=some v->kz[i]?=some k->∀ H',dA H1 H'->∃ p ys,v=.ref p/\aW K H' p (.int k::ys))/\∀ H2 D,dA H1 H2->H2 D=none->Q (.ref D) (upd H2 D (.lst (fM kz xs)))
theorem zm{t:TA}{p:Pos}{cj:Nat}(hg:Gl X "sorted")(hm:X.mg "sorted"=none)(ha:PA X [e] t)(h1:cK e=true)(hr:ba (k+3) X.A)
  (hL:PE X (.Lambda params (.Subscript (.Name x p1) (.Constant (.int 0) cj p2) p3) scope lpos) (zX q params (.Subscript (.Name x p1) (.Constant (.int 0) cj p2) p3) scope []))
  (hsc:scope={kind:=.function,names:=[(x,.local)],isGenerator:=false,isCoroutine:=false,more:=[]}) (hx1:(x ==("__debug__":Str))=false) (hx2:(x ==("__classdict__":Str))=false)
  (hbind:∀ c' pm ctv u,bindArgs (PySem.W.kla_fn "<lambda>" q params (.Subscript (.Name x p1) (.Constant (.int 0) cj p2) p3) scope [] pm (.ref c') ctv) ⟨[u],[]⟩=pure [(x,u)]) :
  PE X (.Call (.Name "sorted" p) [e] [⟨some "key",.Lambda params (.Subscript (.Name x p1) (.Constant (.int 0) cj p2) p3) scope lpos,kpos⟩] pos) (vf (yM X.K) t):=by
 subst hsc;have lk:∀ y,List.lookup y [(x,NameKind.local)]=if y=x then some .local else none:=fun y=>by
  by_cases z:y=x
  ·rw[Kz z,z,AM]
  ·rw[Kx z,Bj z];rfl
 show PE X _ (y6 (fun H l xs=>bz X.K H l xs) (fun v k H' _=>∃ p ys,v=.ref p/\aW X.K H' p (.int k::ys)) (fun _=>[]) t);refine zf (N:=[]) hg hm ha h1 hr hL (fun pins σ H s H1 l xs A I hs g _ h64=>qI I (g.same.seq hs) h64) rfl rfl rfl (fun y hy=>by rw[KC.mp hy];nofun) (by rw[lk,Kz rfl]) hbind (fun _=>rfl) (fun y c z=>by cases z) (fun y z=>?_) (fun _ _ _ _ _ i y v z=>by cases z) fun A f c' s' H' σf v i hp=>?_
 ·rw[lk] at z
  split at z
  ·rcases z with z|z<;>cases z
  ·rcases z with z|z<;>cases z
 ·obtain⟨a,ys,rfl,hq⟩:=hp;refine⟨_,Co zc (pv 0 rfl (.inl (by show List.lookup x [(x,NameKind.local)]=_;rw[lk,Kz rfl])) hx1 hx2) jL (Z.JT rfl),?_⟩
  exact⟨_,rfl,a,_,0,.int i,rfl,rfl,hq,bZ (j:=0) rfl,rfl,rfl⟩
theorem iw:∀{vs:List V} {ts:List T},ai K H B vs ts->Paired (Rep K H B) vs ts
 |_,_,.nil=>.nil
 |_,_,.cons h r=>.cons h (iw r)
theorem iD:∀{vs:List V} {ts:List T},Paired (Rep K H B) vs ts->ai K H B vs ts
 |_,_,.nil=>.nil
 |_,_,.cons h r=>.cons h (iD r)
theorem ai.fM{ks:List Int}{vs:List V}(r:ai K H B vs ts):ai K H B (L2.fM ks vs) (L2.fM ks ts):=iD (iR (iw r))
theorem sv{β:Type}{g:α->β}{ks:List Int}{l:List α}:fM ks (l.map g)=(fM ks l).map g:=by
 have p:∀ l:List α,Paired (fun a b=>b=g a) l (l.map g):=fun l=>by
  induction l with
  |nil=>exact .nil
  |cons a l ih=>exact .cons rfl ih
 have q:∀{l:List α} {m:List β},Paired (fun a b=>b=g a) l m->m=l.map g:=fun {l m} h=>by
  induction h with
  |nil=>rfl
  |cons r _ ih=>rw[r,ih];rfl
 exact q (iR (p l))
noncomputable def xj:T->Option Int
 |.tup (.int k::_)=>some k
 |_=>none
namespace Y
noncomputable def lV:T->Mu->(R->Mu->Prop)->Prop:=fun t μ Q=>match t with
 |.lst ts=>∃ kz:List Int,ts.map xj=kz.map some/\ts.length<64/\Q (.fr (.lst (fM kz ts))) μ
 |_=>False
theorem Ef(h:ts.map xj=kz.map some){k:Int}(e:kz[i]?=some k):∃ us,ts[i]?=some (.tup (.int k::us)):=by
 have q:=Le (fun l=>l[i]?) h;simp only[KL,e,Option.map_some] at q
 cases ht:ts[i]? with
 |none=>rw[ht] at q;cases q
 |some t =>
  rw[ht] at q;have q':xj t=some k:=Option.some.inj q;unfold xj at q'
  split at q'
  ·cases q';exact⟨_,rfl⟩
  ·cases q'
theorem xh:RC K (yM K) (qw lV):=gu fun F ad B σ H μ Q Qt x t hK l v1 q k=>by
 subst hK;unfold lV at q
 split at q
 ·obtain⟨kz,hk,h64,q⟩:=q;obtain⟨_,_,rfl,ha,ra⟩:=Vw.dX v1;have le:=Le List.length hk;rw[K3,K3] at le;refine⟨_,_,kz,rfl,bz.of ha,by rw[ra.length,le],by rw[ra.length];exact h64,fun i v j e1 e2 H' g=>?_,fun H2 D g n=>k _ _ _ (Vr.gz (l.same g.same) (ra.fr (Fr.same g.same)).fM n) (fun b o e z=>⟨bQ.new n b o (g.same b o e),fun y=>?_⟩) q⟩
  ·obtain⟨us,hu⟩:=Ef hk e2;obtain⟨v',e3,rp⟩:=ra.get hu;rw[e1] at e3;cases e3;obtain⟨_,_,rfl,nb,hp,rr⟩:=Rep.tupI rp;obtain⟨_,_,rfl,r0,rr⟩:=ai.bW rr;obtain rfl:=Rep.cA r0;exact⟨_,_,rfl,aW.of (g.same _ _ hp)⟩
  ·rcases y with y|y
   ·subst y;rw[g.same b o e] at n;cases n
   ·exact z y
 ·exact q.elim
theorem sortI{us:UA}{p:Pos}{cj:Nat}{y:Str}{c Pt:Addr}(K:Pq)(hK:X.K=K)(hx:y∈d5)(ht:PySem.W.tabIn K y=some (c,Pt))(hcode:X.env.code=.ref c)(hq:X.env.qual=y++".<locals>.")(hdef:defaultsOf params X.env=([],[]))(hcl:closureFor scope X.env=pure [])
  (hg:Gl X "sorted") (hm:X.mg "sorted"=none) (ha:YA X [e] us) (hr:ba (k+3) X.A)
  (hsc:scope={kind:=.function,names:=[(x,.local)],isGenerator:=false,isCoroutine:=false,more:=[]}) (hx1:(x ==("__debug__":Str))=false) (hx2:(x ==("__classdict__":Str))=false)
  (hbind:∀ c' pm ctv u,bindArgs (PySem.W.kla_fn "<lambda>" ((y++".<locals>.")++"<lambda>") params (.Subscript (.Name x p1) (.Constant (.int 0) cj p2) p3) scope [] pm (.ref c') ctv) ⟨[u],[]⟩=pure [(x,u)]) (h1:autoParam (cK e=true) ℜ0) :
  YE X (.Call (.Name "sorted" p) [e] [⟨some "key",.Lambda params (.Subscript (.Name x p1) (.Constant (.int 0) cj p2) p3) scope lpos,kpos⟩] pos) (BS (qw lV) us):=by
 subst hK;obtain⟨t,q,rr⟩:=ha;exact⟨_,⟨zm hg hm q.h h1 hr (EB hx ht hcode hq hdef hcl) hsc hx1 hx2 hbind⟩,t5 xh rr⟩
end Y
structure sV (K:Pq) (mg:Str->Option Value) (x:Str):Prop where
 ex:∃ c P,PySem.W.tabIn K x=some (c,P)/\∀ f cdv,De K mg x f cdv->cdv=.ref c
theorem oN{c P:Addr}{oc oc':Value}{od od':Option Addr}{sl sl':Array (Option Value)}{fd:FuncData}{vs:Array Value}(a:PySem.W.nsIn K mainGlobals x=some (some (.ref f)))(l:K.lookup f=some ⟨oc,od,.func fd,sl⟩)(hc:fd.code=.ref c)
  (lc:K.lookup c=some ⟨oc',od',.fields vs,sl'⟩) (hv:vs[11]?=some (.ref P)):PySem.W.tabIn K x=some (c,P):=by
 unfold PySem.W.tabIn;rw[a];dsimp only;rw[l];dsimp only;rw[hc];dsimp only;rw[lc];dsimp only;rw[hv]
theorem jN(a:PySem.W.nsIn K mainGlobals x=some none):PySem.W.tabIn K x=none:=by
 unfold PySem.W.tabIn;rw[a]
theorem sV.mk'{mg:Str->Option Value}{c P:Addr}(X:K.In h)(G:h.Ns mainGlobals mg)(ht:PySem.W.tabIn K x=some (c,P)):sV K mg x:=
 ⟨c,P,ht,fun f cdv ⟨m,o,fd,lk,hd,e⟩=>by rw[<- e];exact PySem.W.law_code X G ht m (X _ _ lk) hd⟩
theorem gL.of{q:Program}{o1 o2 o3:Option (Addr×Addr)}(nt:PySem.W.noTabs K=true)(t1:PySem.W.tabIn K "by_worth"=o1)(t2:PySem.W.tabIn K "by_weight"=o2)(t3:PySem.W.tabIn K "code_of"=o3)(nd:((o1.toList++(o2.toList++o3.toList)).map (·.2)).Nodup)
  (f1:o1=none\/((recsOf q).find? (fun e=>e.name ==("by_worth":Str))).isSome=true) (f2:o2=none\/((recsOf q).find? (fun e=>e.name ==("by_weight":Str))).isSome=true) (f3:o3=none\/((recsOf q).find? (fun e=>e.name ==("code_of":Str))).isSome=true):gL q K:=by
 refine⟨nt,?_,fun x hx=>?_⟩
 ·have e:(bA K).map (·.2.1)=(o1.toList++(o2.toList++o3.toList)).map (·.2):=by
   unfold bA d5
   cases o1<;>cases o2<;>cases o3<;>simp[List.filterMap,t1,t2,t3]
  rw[e];exact nd
 ·unfold d5 at hx;rcases K4.mp hx with rfl|hx
  ·rw[t1];exact f1
  ·rcases K4.mp hx with rfl|hx
   ·rw[t2];exact f2
   ·rw[KC.mp hx,t3];exact f3
namespace A
theorem zO(ts:List T)(μ:Mu)(Q:R->Mu->Prop):Y.lV (.lst ts) μ Q=(∃ kz:List Int,ts.map xj=kz.map some/\ts.length<64/\Q (.fr (.lst (fM kz ts))) μ):=rfl
end A
theorem o7:∀{ns:List Int} {us:List Value} (r:Vals (ns.map V.int) us) (k:Int),us.countP (fun v=>match v with|.int j _=>j == k|_=>false)=ns.count k
 |[],_,.nil,k=>rfl
 |n::ns,_,.cons r t,k=>by
  obtain⟨u,rfl⟩:=r;rw[List.countP_cons,o7 t k,NO]
theorem mZ:∀{ns:List Int} {us:List Value} (r:Vals (ns.map V.int) us),∀ y∈us,∃ j t,y=.int j t
 |[],_,.nil,y,h=>by cases h
 |n::ns,_,.cons r t,y,h=>by
  obtain⟨u,rfl⟩:=r;rcases K4.mp h with e|e
  ·exact⟨_,_,e⟩
  ·exact mZ t y e
namespace Y
noncomputable def G0:V->List V->Hp->VK->Prop:=fun x vs H Q=>∃(a:Addr) (ns:List Int) (k:Int),x=.ref a/\H a=some (.lst (ns.map V.int))/\vs=[.int k]/\Q (.int (ns.count k:Nat)) H
theorem DT:Fi X "list.count" G0:=by
 intro pins s σ H x xs v us Q I rx rs h;obtain⟨a,ns,k,rfl,hH,rfl,q⟩:=h;cases rx;obtain⟨u,rfl,t,rfl⟩:=vals1 rs;obtain⟨z,its,n,r,hl,e⟩:=I.ki hH;refine LF PySem.F.slot_list_count ⟨_,e,rfl⟩ PySem.F.entry_list_count (PySem.F.args_list_count_2 _ _) (SeqAt.list_countAt a its.toArray n none _ (.int k t) (fun v=>match v with|.int j _=>j == k|_=>false)) ⟨e,fun y hy=>?_,⟨.int _,H,I.tok _,⟨_,rfl⟩,?_⟩⟩
 ·obtain⟨j,u,rfl⟩:=mZ r y (by simpa using hy)
  exact NX _ _ _ _
 ·show Q (.int (((its.toArray).toList.countP _:Nat):Int)) H;rw[o7 r k];exact q
noncomputable def ze:UM:=fun j rs μ Q=>match rs with
 |[.tr (.int k)]=>(match (μ[j]?).bind Sl.box with
  |some (.lst ts)=>∃ ns:List Int,ts=ns.map T.int/\Q (.tr (.int (ns.count k:Nat))) μ
  |_=>False)
 |_=>False
theorem Ek:RM K G0 ze:=by
 intro F ad B σ H μ Q Qt j s c xs rs hF l e b ps q k;unfold ze at q
 split at q
 ·rename_i z
  cases ps with
  |cons h ps =>
   cases ps;rw[e] at q
   cases bL h
   have q':(match s.box with|some (.lst ts)=>∃ ns:List Int,ts=ns.map T.int/\Qt (.tr (.int (ns.count z:Nat))) μ|_=>False):=q
   rw[b] at q';rcases ((l.slot j s e).boxed b).2.2.1.is with ⟨ts,vs,rfl,hl,rv⟩|⟨_,_,_,rfl,_⟩
   case inr=>exact q'.elim
   simp only at q';obtain⟨ns,rfl,q2⟩:=q';rw[Y.bF rv] at hl;exact⟨_,ns,z,rfl,hl,rfl,k _ H _ μ (Vr.flat l (.int _)) Fr.refl (Kp.refl μ) q2⟩
 ·exact q.elim
noncomputable def Ho:V->List V->Hp->VK->Prop:=fun x vs H Q=>∃ l b xs ys,x=.ref l/\vs=[.ref b]/\b≠l/\H l=some (.lst xs)/\H b=some (.lst ys)/\xs.length+ys.length<=sizeLine/\Q .aM (upd H l (.lst (xs++ys)))
theorem DR:Fi X "list.extend" Ho:=by
 intro pins s σ H x vs v us Q I rx rv h;obtain⟨l,b,xs,ys,rfl,rfl,hne,hH,hb,hz,q⟩:=h;cases rx;obtain⟨u,rfl,ru⟩:=vals1 rv;cases ru;obtain⟨z,its,n,r,hl,e⟩:=I.ki hH;obtain⟨z2,its2,n2,r2,hl2,e2⟩:=I.ki hb;have hsz:its.toArray.size+its2.toArray.size<=sizeLine:=by rw[Ky,Ky];lia
 refine LF F.slot_list_extend ⟨_,e,rfl⟩ F.entry_list_extend (F.args_list_extend_2 _ _) (AutoSeq1.list_extend_list_list_0 l its.toArray n b its2.toArray n2 (extend_door hsz) (by lia) (by lia)) ⟨e,e2,?_⟩
 refine⟨.aM,_,I.EA (its':=its++its2) hH e ?_ (r.append r2) (by rw[K0];exact hz),rfl,q⟩
 apply Array.toList_inj.mp;simp
noncomputable def wK:UM:=fun j rs μ Q=>match rs with
 |[.tr (.lst us)]=>(match (μ[j]?).bind Sl.box with
  |some (.lst ts)=>ts.length+us.length<=sizeLine/\Q (.tr .aM) (df μ j (.lst (ts++us)))
  |_=>False)
 |_=>False
theorem EH:RM K Ho wK:=by
 intro F ad B σ H μ Q Qt j s c xs rs hF l e b ps q k;unfold wK at q
 split at q
 ·rename_i us
  cases ps with
  |cons h1 ps =>
   cases ps;have rt:=bL h1;rw[e] at q;have q':(match s.box with|some (.lst ts)=>ts.length+us.length<=sizeLine/\Qt (.tr .aM) (df μ j (.lst (ts++us)))|_=>False):=q
   rw[b] at q';rcases ((l.slot j s e).boxed b).2.2.1.is with ⟨ts,vs,rfl,hl,rv⟩|⟨_,_,_,rfl,_⟩
   case inr=>exact q'.elim
   obtain⟨hz,q2⟩:=(show ts.length+us.length<=sizeLine/\_ from q');have hB:=((l.slot j s e).boxed b).2.1
   cases rt with
   |lst nb hb r2 =>
    rename_i a2 vs2;refine⟨_,a2,vs,vs2,rfl,rfl,fun z=>nb (z ▸ hB),hl,hb,by rw[rv.length,r2.length];exact hz,?_⟩
    have l3:=l.put e b (rv.append r2);unfold df at q2;rw[e] at q2;exact k _ _ (.tr .aM) _ (Vr.flat l3 .aM) (Fr.set hB) (Kp.set e b (Sl.iO b)) q2
 ·exact q.elim
end Y
noncomputable def zZ:Bool->List α->List α
 |_,[]=>[]
 |true,x::r=>x::zZ false r
 |false,_::r=>zZ true r
noncomputable def jV(l:List α):List α:=zZ true l
theorem AV(ys:List α):∀ b,(zZ b ys).length<=ys.length:=by
 induction ys with
 |nil=>exact fun b=>by cases b<;>exact K2 _
 |cons y r ih =>
  intro b
  cases b with
  |true=>exact Nat.succ_le_succ (ih false)
  |false=>exact Nat.le_succ_of_le (ih true)
theorem Bo(ys:List α):(jV ys).length<=ys.length:=AV ys true
theorem Vals.jV(h:Vals xs us):Vals (jV xs) (jV us):=by
 have k:∀ b,Vals (zZ b xs) (zZ b us):=by
  induction h with
  |nil=>exact fun b=>by cases b<;>exact .nil
  |cons h _ ih =>
   intro b
   cases b with
   |true=>exact .cons h (ih false)
   |false=>exact ih true
 exact k true
theorem ai.jV{us:List T}(h:ai K H B xs us):ai K H B (jV xs) (jV us):=by
 have k:∀ b,ai K H B (zZ b xs) (zZ b us):=by
  induction xs generalizing us with
  |nil=>cases h;exact fun b=>by cases b<;>exact .nil
  |cons x xs ih =>
   cases h with
   |cons h r =>
    intro b
    cases b with
    |true=>exact .cons h (ih r false)
    |false=>exact ih r true
 exact k true
theorem wx(xs:List α)(n m:Nat)(h:(xs.length-m+1) / 2=n):((List.range n).map fun k=>m+2*k).filterMap (fun i=>xs[i]?)=jV (xs.drop m):=by
 induction n generalizing m with
 |zero=>rw[List.drop_of_length_le (by lia)];rfl
 |succ n ih =>
  have hm:m<xs.length:=by lia
  have h2:(xs.length-(m+2)+1) / 2=n:=by lia
  rw[List.range_succ_eq_map,KN,MZ];show (match xs[m]? with|none=>_|some b=>_)=_
  rw[Kw hm];have e2:jV (xs.drop m)=xs[m]::jV (xs.drop (m+2)):=by
   rw[L0 hm];show xs[m]::zZ false (xs.drop (m+1))=_;congr 1;rw[<- List.drop_drop (i:=1) (j:=m+1)];generalize xs.drop (m+1)=z
   cases z<;>rfl
  rw[e2,<- ih (m+2) h2,MC];show xs[m]::_=xs[m]::_;congr 2;exact Na fun k _=>by show m+2*(k+1)=m+2+2*k;rw[Po,Pg (2*k),Nat.add_assoc]
theorem xO(items:Array Value)(m:Nat):slicePick items (some (m:Int)) none (some 2)=(jV (items.toList.drop m)).toArray:=by
 unfold slicePick;have hb:sliceBounds (some (m:Int)) none (some 2) items.size=(((min m items.size:Nat):Int),(items.size:Int),2):=by
  unfold sliceBounds;simp only[Option.getD_some];rw[Kx (show ¬ (m:Int)<0 by lia)]
  simp only[show (2:Int) > 0 by decide,Mg]
  congr 1;lia
 rw[hb];show ((sliceRange ((min m items.size:Nat):Int) (items.size:Int) 2).filterMap (items[·]?)).toArray=_;congr 1;have el:items.toList.length=items.size:=Lq;unfold sliceRange;simp only[show (2:Int) > 0 by decide,Mg]
 have ec:(if ((min m items.size:Nat):Int)<(items.size:Int) then ((items.size:Int)-((min m items.size:Nat):Int)+2-1) / 2 else 0).toNat=(items.size-m+1) / 2:=by
  split<;>lia
 rw[ec,<- wx items.toList _ m (by rw[el])]
 have ei:(fun i:Nat=>items[i]?)=fun i=>items.toList[i]?:=funext fun i=>(KW).symm;rw[ei];congr 1;refine Na fun k hk=>?_;have hk':=Mj.mp hk;lia
section
variable {X:Cx} {e:Expr} {te:TE}
noncomputable def IJ(K:Pq)(m:Nat)(te:TE):TE:=fun σ H Q=>te σ H fun x H1=>∃ a xs,x=V.ref a/\bz K H1 a xs/\∀ p,H1 p=none->Q (.ref p) (upd H1 p (.lst (jV (xs.drop m))))
theorem E_{i:Int}{j2:Nat}(hi:i=(m:Int))(he:PE X e te):PE X (.Subscript e (.Slice (some (.Constant (.int i) j p1)) none (some (.Constant (.int 2) j2 p3)) p2) pos) (IJ X.K m te):=by
 subst hi;intro pins s σ H Q I h;refine Subscript_ (bo (he pins s σ H _ I h) fun v s1 ⟨x,H1,I1,r1,q1⟩=>?_);refine wpAny_Slice (bo (lL jL pins s1 σ H1 (fun o H2=>o=some (m:Int)/\H2=H1) I1 ⟨_,rfl,rfl,rfl⟩) fun vl s2 ⟨l,H2,I2,pl,el,eh⟩=>?_);subst el eh;refine bo (q_ pins s2 σ H2 (fun o H3=>o=none/\H3=H2) I2 ⟨rfl,rfl⟩) fun vu s3 ⟨u,H3,I3,pu,eu,eh⟩=>?_;subst eu eh;refine bo (lL jL pins s3 σ H3 (fun o H4=>o=some 2/\H4=H3) I3 ⟨_,rfl,rfl,rfl⟩) fun vk s4 ⟨k,H4,I4,pk,ek,eh⟩=>?_;subst ek eh;obtain⟨a,xs,rfl,hx,q⟩:=q1;cases r1;have I5:Inv X pins σ H4 {s4 with heap:=s4.heap.push {cls:=.type "slice",data:=.fields #[vl,vu,vk]}}:=I4.kept (t':=s4.toks) fun b ob q=>Kv _ q
 obtain⟨its,r,ht,hz⟩:=I5.list hx;have hlen:=r.length;have hg:wpAny (model X.prog X.w) X.A (getItem (.ref a) (.ref s4.heap.objs.size)) (EP X pins σ Q) X.xe {s4 with heap:=s4.heap.push {cls:=.type "slice",data:=.fields #[vl,vu,vk]}}:=by
  refine Ox ht.isList (Heap.IsSliceOf.new ..) pl pu pk (by simp) ?_ (by rw[Ky]<;>lia)
  rw[xO];refine⟨.ref _,_,I5.laid (t':=s4.toks) (o:=.lst (jV (xs.drop m))) (fun b ob q=>Kv _ q) (K2 _) ?_,rfl,q _ (I5.aD.fresh (K2 _))⟩;refine⟨by have:=Bo (xs.drop m);rw[LH] at this;lia,jV (its.drop m),0,Vals.jV (r.drop m),?_⟩
  exact K7 _ rfl
 show wpAny (model X.prog X.w) X.A (subscriptTail e (.Slice (some (.Constant (.int (m:Int)) j p1)) none (some (.Constant (.int 2) j2 p3)) p2) (.ref a) (.ref s4.heap.objs.size)) (EP X pins σ Q) X.xe {s4 with heap:=s4.heap.push {cls:=.type "slice",data:=.fields #[vl,vu,vk]}}
 exact tail_any (ops:=[.ref a,.ref s4.heap.objs.size]) ht.isList.typeIs Oi.lookup hg (by with_unfolding_all rfl)
end
namespace Y
noncomputable def A2(m:Nat)(o:Option T):Option (Prop×R):=match o with
 |some (.lst xs)=>some (True,.fr (.lst (jV (xs.drop m))))
 |_=>none
noncomputable def A5(m:Nat)(ue:UE):UE:=fun μ Q=>ue μ fun r μ'=>k_ (A2 m (cont μ' r.d)) fun r=>Q r μ'
theorem vv(K:Pq)(hK:X.K=K)(m:Nat){i:Int}(hi:i=(m:Int)){j2:Nat}(he:YE X e ue):YE X (.Subscript e (.Slice (some (.Constant (.int i) j p1)) none (some (.Constant (.int 2) j2 p3)) p2) pos) (A5 m ue):=by
 obtain⟨t,q,r⟩:=he;subst hK;refine⟨_,⟨E_ hi q.h⟩,fun F ad B σ H μ Q Qt hF l q k=>r F ad B σ H μ _ _ hF l q fun v H1 r1 μ1 v1 f1 k1 q1=>?_⟩;have w:=fun t (e:cont μ1 r1.d=some t)=>v1.hv.vw v1.rl e;revert q1 w;unfold A2
 cases cont μ1 r1.d with
 |none=>exact fun q1 _=>q1.elim
 |some t =>
  intro q1 w;have w:=w t rfl;rw[hF] at w
  cases w with
  |lst ha ra=>exact⟨_,_,rfl,bz.of ha,fun p hp=>k _ _ _ μ1 (Vr.gz v1.rl (by rw[hF];exact ai.jV (ra.drop m)) hp) (f1.d.trans (Fr.more hp)) k1 q1.2⟩
  |_=>exact q1.elim
end Y
namespace A
theorem ze(j:Nat)(k:Int)(μ:Mu)(Q:R->Mu->Prop):Y.ze j [.tr (.int k)] μ Q=(match (μ[j]?).bind Sl.box with
  |some (.lst ts)=>∃ ns:List Int,ts=ns.map T.int/\Q (.tr (.int (ns.count k:Nat))) μ
  |_=>False):=rfl
theorem wK(j:Nat)(us:List T)(μ:Mu)(Q:R->Mu->Prop):Y.wK j [.tr (.lst us)] μ Q=(match (μ[j]?).bind Sl.box with
  |some (.lst ts)=>ts.length+us.length<=sizeLine/\Q (.tr .aM) (df μ j (.lst (ts++us)))
  |_=>False):=rfl
theorem A5(m:Nat)(ue:UE)(μ:Mu)(Q:R->Mu->Prop):Y.A5 m ue μ Q=ue μ fun r μ'=>k_ (Y.A2 m (cont μ' r.d)) fun r=>Q r μ':=rfl
theorem Fw(m:Nat)(xs:List T):Y.A2 m (some (.lst xs))=some (True,.fr (.lst (jV (xs.drop m)))):=rfl
end A
namespace Y
section
variable {prog:Program} {w:World} {A:Around} {E:Value->Shared->Prop} {s:Shared}
theorem BA{vs:List Value}(hh:A.handled=none)(ht:s.heap.IsTuple l vs.toArray)(hI:IntsAre vs ns)(hne:0<ns.length)
  (h:∀ M h' tk t',M∈ns->(∀ a∈ns,M<=a)->(∀ b o,s.heap.get? b=some o->h'.get? b=some o)->Q (.int M t') {s with heap:=h',toks:=tk}) :
  wpAny (model prog w) A (call (.builtin "min") [.ref l]) Q E s:=by
 have hlt:l<s.heap.objs.size:=by obtain⟨o,ho,_⟩:=id ht;exact KA ho
 have hlen:=d7 hI;refine call_min_walk (Lx ht ?_);refine⟨_,[_,l],[_],_,_,_,_,rfl,Walks.tuple (A:=A.in1) hh _ l (KJ hlt) vs.toArray,⟨⟨_,K7 _ rfl,rfl,rfl⟩,ht.push _⟩,fun c hc=>?_,by simpa[hlen] using hne,CmpOf.ints_lt (fun i=>ns.getD i 0) (fun i v e=>cO hI (by simpa using e)),fun v h' tk hP hk=>?_⟩
 ·show c<(s.heap.push _).objs.size;rw[L3];rcases K4.mp hc with rfl|hc
  ·exact M6 _
  ·rcases K4.mp hc with rfl|hc
   ·exact Mv hlt
   ·cases hc
 ·obtain⟨t,rfl⟩:=cO (i:=argBest (fun i j=>decide (ns.getD i 0<ns.getD j 0)) (vs.toArray.size-1)) hI (by rw[<- La];exact hP)
  obtain⟨h1,h2⟩:=argBest_lt (fun i=>ns.getD i 0) (vs.toArray.size-1);have hsz:vs.toArray.size=ns.length:=by simpa using hlen
  refine h _ h' tk t ?_ (fun a ha=>?_) (fun b o e=>hk b o (fun hm=>?_) (Kv _ e))
  ·have:argBest (fun i j=>decide (ns.getD i 0<ns.getD j 0)) (vs.toArray.size-1)<ns.length:=by lia
   rw[KP,Kw this];exact Ll _
  ·obtain⟨j,hj,rfl⟩:=NK.mp ha;have:=h2 j (by lia)
   rw[KP (i:=j),Kw hj] at this;exact this
  ·rcases K4.mp hm with rfl|hm
   ·exact absurd (KA e) (L9 _)
   ·cases hm
theorem Bw{vs:List Value}(hh:A.handled=none)(ht:s.heap.IsList l vs.toArray)(hI:IntsAre vs ns)(hne:0<ns.length)
  (h:∀ M h' tk t',M∈ns->(∀ a∈ns,M<=a)->(∀ b o,s.heap.get? b=some o->h'.get? b=some o)->Q (.int M t') {s with heap:=h',toks:=tk}) :
  wpAny (model prog w) A (call (.builtin "min") [.ref l]) Q E s:=by
 have hlt:l<s.heap.objs.size:=by obtain⟨o,ho,_⟩:=id ht;exact KA ho
 have hlen:=d7 hI;refine call_min_walk (LC ht ?_);refine⟨_,[_,l],[_],_,_,_,_,rfl,Walks.list (A:=A.in1) hh _ l (KJ hlt) vs.toArray,⟨⟨_,K7 _ rfl,rfl,rfl⟩,ht.push _⟩,fun c hc=>?_,by simpa[hlen] using hne,CmpOf.ints_lt (fun i=>ns.getD i 0) (fun i v e=>cO hI (by simpa using e)),fun v h' tk hP hk=>?_⟩
 ·show c<(s.heap.push _).objs.size;rw[L3];rcases K4.mp hc with rfl|hc
  ·exact M6 _
  ·rcases K4.mp hc with rfl|hc
   ·exact Mv hlt
   ·cases hc
 ·obtain⟨t,rfl⟩:=cO (i:=argBest (fun i j=>decide (ns.getD i 0<ns.getD j 0)) (vs.toArray.size-1)) hI (by rw[<- La];exact hP)
  obtain⟨h1,h2⟩:=argBest_lt (fun i=>ns.getD i 0) (vs.toArray.size-1);have hsz:vs.toArray.size=ns.length:=by simpa using hlen
  refine h _ h' tk t ?_ (fun a ha=>?_) (fun b o e=>hk b o (fun hm=>?_) (Kv _ e))
  ·have:argBest (fun i j=>decide (ns.getD i 0<ns.getD j 0)) (vs.toArray.size-1)<ns.length:=by lia
   rw[KP,Kw this];exact Ll _
  ·obtain⟨j,hj,rfl⟩:=NK.mp ha;have:=h2 j (by lia)
   rw[KP (i:=j),Kw hj] at this;exact this
  ·rcases K4.mp hm with rfl|hm
   ·exact absurd (KA e) (L9 _)
   ·cases hm
end
noncomputable def CD(K:Pq):List V->Hp->VK->Prop:=fun xs H Q=>∃(p:Addr) (ns:List Int),xs=[.ref p]/\(aW K H p (ns.map V.int)\/bz K H p (ns.map V.int))/\0<ns.length/\∀ M:Int,M∈ns->(∀ a∈ns,M<=a)->Q (.int M) H
theorem kW(K:Pq)(hK:X.K=K)(hc:X.calm=true):aH X (.builtin "min") (CD K):=by
 subst hK;intro pins s σ H xs us Q I r h;obtain⟨p,ns,rfl,hq,hne,q⟩:=h;obtain⟨u,rfl,ru⟩:=vals1 r;cases ru;rcases hq with hq|hq
 ·obtain⟨its,rv,pl,hz⟩:=I.tuple hq;refine BA (I.ok.hd hc) pl (intsAre_of rv) hne fun M h' tk t' m1 m2 hk=>?_;exact⟨.int M,H,I.kept hk,⟨_,rfl⟩,q M m1 m2⟩
 ·obtain⟨its,rv,pl,hz⟩:=I.list hq;refine Bw (I.ok.hd hc) pl.isList (intsAre_of rv) hne fun M h' tk t' m1 m2 hk=>?_;exact⟨.int M,H,I.kept hk,⟨_,rfl⟩,q M m1 m2⟩
noncomputable def GS(xs:List T)(μ:Mu)(Q:R->Mu->Prop):Prop:=∃ ns:List Int,xs=ns.map T.int/\0<ns.length/\∀ M:Int,M∈ns->(∀ a∈ns,M<=a)->Q (.tr (.int M)) μ
noncomputable def wV:T->Mu->(R->Mu->Prop)->Prop:=fun t μ Q=>match t with
 |.tup xs=>GS xs μ Q
 |.lst xs=>GS xs μ Q
 |_=>False
theorem tG:RC K (CD K) (qw wV):=gu fun F ad B σ H μ Q Qt x t hK l v1 q k=>by
 subst hK
 cases v1 with
 |tup ha ra =>
  obtain⟨ns,rfl,hne,q⟩:=q;exact⟨_,ns,rfl,.inl (by rw[<- Y.bF ra];exact aW.of ha),hne,fun M m1 m2=>k _ H _ (Vr.flat l (.int _)) Fr.refl (q M m1 m2)⟩
 |lst ha ra =>
  obtain⟨ns,rfl,hne,q⟩:=q;exact⟨_,ns,rfl,.inr (by rw[<- Y.bF ra];exact bz.of ha),hne,fun M m1 m2=>k _ H _ (Vr.flat l (.int _)) Fr.refl (q M m1 m2)⟩
 |_=>exact q.elim
noncomputable def vR(K:Pq):List V->Hp->VK->Prop:=fun xs H Q=>Cq K xs H Q\/∃ p ns,xs=[.ref p]/\bz K H p (ns.map V.int)/\ns.length<64/\∀ ns':List Int,ns'.Perm ns->ns'.Pairwise (·<=·)->∀ l,H l=none->Q (.ref l) (upd H l (.lst (ns'.map V.int)))
theorem p9(K:Pq)(hK:X.K=K):aH X (.builtin "sorted") (vR K):=by
 refine (uj K hK).or ?_;subst hK;intro pins s σ H xs us Q I r h;obtain⟨p,ns,rfl,hq,h64,q⟩:=h;obtain⟨u,rfl,ru⟩:=vals1 r;cases ru;obtain⟨its,rv,pl,hz⟩:=I.list hq;have hi:=intsAre_of rv;refine sorted_ints pl.isList hi (by rw[d7 hi];exact h64) fun out ns' a1 a2 a3=>?_
 obtain⟨e,he⟩:=sortedAll_at s.heap its out;refine⟨.ref (s.heap.objs.size+1),_,I.laid (t':=s.toks) (fun b ob q=>sortedAll_old q) (Ly _) (show aP X.prog X.w _ _ _ (.lst (ns'.map V.int)) from⟨?_,out.toList,e,dk a1,by simpa using he⟩),rfl,q ns' a2 a3 _ (I.aD.fresh (Ly _))⟩
 rw[K3,a2.length_eq];exact KG (Mn h64) (by decide)
noncomputable def yw:T->Mu->(R->Mu->Prop)->Prop:=fun t μ Q=>match t with
 |.tup xs=>∃ ns:List Int,xs=ns.map T.int/\ns.length<64/\∀ ns':List Int,ns'.Perm ns->ns'.Pairwise (·<=·)->Q (.fr (.lst (ns'.map T.int))) μ
 |.lst xs=>∃ ns:List Int,xs=ns.map T.int/\ns.length<64/\∀ ns':List Int,ns'.Perm ns->ns'.Pairwise (·<=·)->Q (.fr (.lst (ns'.map T.int))) μ
 |_=>False
theorem wL:RC K (vR K) (qw yw):=gu fun F ad B σ H μ Q Qt x t hK l v1 q k=>by
 subst hK
 cases v1 with
 |tup ha ra =>
  obtain⟨ns,rfl,h64,q⟩:=q;exact .inl ⟨_,ns,rfl,by rw[<- Y.bF ra];exact aW.of ha,h64,fun ns' a2 a3 p hp=>k _ _ _ (Vr.gz l (cG _) hp) (Fr.more hp) (q ns' a2 a3)⟩
 |lst ha ra =>
  obtain⟨ns,rfl,h64,q⟩:=q;exact .inr ⟨_,ns,rfl,by rw[<- Y.bF ra];exact bz.of ha,h64,fun ns' a2 a3 p hp=>k _ _ _ (Vr.gz l (cG _) hp) (Fr.more hp) (q ns' a2 a3)⟩
 |_=>exact q.elim
end Y
namespace A
theorem Hf(xs:List T)(μ:Mu)(Q:R->Mu->Prop):Y.wV (.tup xs) μ Q=(∃ ns:List Int,xs=ns.map T.int/\0<ns.length/\∀ M:Int,M∈ns->(∀ a∈ns,M<=a)->Q (.tr (.int M)) μ):=rfl
theorem Gn(xs:List T)(μ:Mu)(Q:R->Mu->Prop):Y.wV (.lst xs) μ Q=(∃ ns:List Int,xs=ns.map T.int/\0<ns.length/\∀ M:Int,M∈ns->(∀ a∈ns,M<=a)->Q (.tr (.int M)) μ):=rfl
end A
namespace Y
noncomputable def GO:V->List V->Hp->VK->Prop:=fun x vs H Q=>∃ a:Int,x=.int a/\vs=[]/\Q (.int (Builtin.Int.intBits a:Nat)) H
theorem zU:zz X "int.bit_length" GO:=by
 intro pins s σ H x xs v us Q I rx rs h;obtain⟨a,rfl,rfl,q⟩:=h;obtain⟨t,rfl⟩:=rx;obtain rfl:=Paired.FX rs;exact call_int_bit_length ⟨.int _,H,I.tok _,⟨_,rfl⟩,q⟩
noncomputable def rZ(uo:UE):UE:=fun μ Q=>uo μ fun r μ1=>match r with
 |.tr (.int a)=>Q (.tr (.int (Builtin.Int.intBits a:Nat))) μ1
 |_=>False
theorem bits{o:Expr}{uo:UE}(ho:YE X o uo)(hbase:autoParam (attributeBase o "bit_length" X.env (eval o X.env)=eval o X.env) ℜ0)(hline:autoParam ((apos.endLine == pos.line)=true) ℜ0):YE X (.Call (.Attribute o "bit_length" apos) [] [] pos) (rZ uo):=by
 obtain⟨t,q,rr⟩:=ho;refine⟨_,⟨Em PySem.F.plainAttrs_int PySem.F.slot_int_bit_length PySem.F.type_int_bit_length zU q.h hbase hline⟩,fun F ad B σ H μ Q Qt hF l q k=>rr F ad B σ H μ _ _ hF l q fun v H1 r1 μ1 v1 f1 k1 q1=>?_⟩
 split at q1
 ·have rp:=v1.2;obtain rfl:=Rep.cA rp;exact⟨rfl,_,rfl,rfl,k _ H1 _ μ1 (Vr.flat v1.rl (.int _)) f1.d k1 q1⟩
 ·exact q1.elim
end Y
namespace A
theorem rZ(uo:UE)(μ:Mu)(Q:R->Mu->Prop):Y.rZ uo μ Q=uo μ fun r μ1=>match r with
 |.tr (.int a)=>Q (.tr (.int (Builtin.Int.intBits a:Nat))) μ1
 |_=>False:=rfl
end A
theorem aB{u w:US}{E:Ed}{μ:Mu}(h:∀ N:Mu->Prop,(∀ μ',w E μ'->N μ')->u {E with nx:=N} μ):Y.Ge u w E μ:=h _ fun _ z=>z
noncomputable def hV(h:Heap)(d:Addr)(es:Array DictEntry)(ep:Nat):Prop:=∃ o,h.get? d=some o/\o.ExactDict/\o.data=.dict es ep
section
variable {prog:Program} {w:World} {A:Around} {E:Value->Shared->Prop} {s:Shared}
theorem hV.ty{d:Addr}(x:hV s.heap d es ep):s.TypeIs (.ref d) "dict":=let ⟨o,ho,hc,_⟩:=x;⟨o,ho,hc.1⟩
theorem hV.keep{d:Addr}(x:hV h d es ep)(k:∀ o,h.get? d=some o->h'.get? d=some o):hV h' d es ep:=let ⟨o,ho,r⟩:=x;⟨o,k _ ho,r⟩
theorem hV.lt{d:Addr}(x:hV h d es ep):d<h.objs.size:=let ⟨_,ho,_⟩:=x;KA ho
theorem By{d:Addr}(low:(d == sysModules)=false)(x:hV s.heap d es ep)
  (q:Q (.ref s.heap.objs.size) {s with heap:=s.heap.push {cls:=.type "dict_keyiterator",data:=.fields #[.ref d,.int 0 0,.int es.size 0,.int ep 0]}}):wpAny (model prog w) A (pyIter (.ref d)) Q E s:=by
 obtain⟨o,ho,hx,hdat⟩:=id x;refine wpAny_pyIter_slot x.ty PySem.F.slot_dict_iter (L8 PySem.F.slot_dict_iter x.ty PySem.F.entry_dict_iter ?_ (PySem.F.args_dict_iter_1 _));unfold Builtin.«dict.__iter__» Builtin.Dict.dictSlotNone;refine Ku (Ku (wpAny_notOrdered_dict x.ty ?_));show wpAny _ _ (pure (Value.ref d)) _ _ s;refine K1 ?_;show wpAny _ _ (Builtin.Dict.showsAll d >>= _) _ _ s;unfold Builtin.Dict.showsAll;rw[low,Kx K5];refine Ku (K1 (Ku (Np ho hdat (Ku (OD ho hdat ?_)))));exact Ku (LN (K1 ⟨_,rfl,"dict_keyiterator",_,⟨_,K7 _ rfl,rfl⟩,PySem.F.slot_dict_keyiterator_next.lookup,q⟩))
theorem zS{it d:Addr}{Q:Option Value->Shared->Prop}(hit:s.heap.IsKeyIter it d i es.size ep)(x:hV s.heap d es ep)(hi:i<es.size)
  (q:∀ h',h'.IsKeyIter it d (i+1) es.size ep->Heap.SameBut it s.heap h'->Q (some es[i].key) {s with heap:=h'}):wpAny (model prog w) A (pyNext (.ref it)) Q E s:=by
 obtain⟨o,ho,hc,hd⟩:=id hit;obtain⟨od,hod,hx,hdd⟩:=id x;unfold pyNext;refine Ku (Nu (Ls (name:=Str.ofString "__next__") hit.typeIs PySem.F.slot_dict_keyiterator_next (L8 PySem.F.slot_dict_keyiterator_next hit.typeIs PySem.F.entry_dict_keyiterator_next ?_ (PySem.F.args_dict_keyiterator_next_1 _))));refine Ku (K1 (Ku (Ku ?_)))
 first|refine Ku (Mi hit.typeIs (K1 (Ku (NW ho hd ?_))))|refine Ku (MD hit.typeIs (K1 (Ku (NW ho hd ?_))))
 simp only[show Builtin.Dict_items.ownsTuple "dict_keyiterator"=false by decide,Lw,LY]
 show wpAny _ _ (if (Value.ref d == Value.none)=true then _ else _) _ _ s;rw[Kx (show ¬ ((Value.ref d == Value.none)=true) from K5)]
 refine Ku (K1 (Ku (Np hod hdd ?_)));rw[Kx (by simp)]
 refine Ku (K1 (Ku (OD hod hdd ?_)));rw[Kx (by simp)]
 refine K1 ?_;simp only[show ¬ ((i:Int)<0) by lia,LY,Lr,Oo hi]
 refine Ku ?_
 first|refine Ku (Mi hit.typeIs (K1 (Ku (N6 hit.typeIs ?_))))|refine Ku (MD hit.typeIs (K1 (Ku (N6 hit.typeIs ?_))))
 show wpAny _ _ (setField (.ref it) 1 (rawInt ((i:Int)+1)) >>= _) _ _ s;refine Ku (NU ho hd (by simp) ?_)
 have h2:(s.heap.update it (Obj.mapFields (·.setIfInBounds 1 (rawInt ((i:Int)+1))))).IsKeyIter it d (i+1) es.size ep:=⟨_,N3 _ ho (Obj.isFreed_of_fields (Ng hd _)),(Obj.cls_mapFields ..).trans hc,by rw[Ng hd];simp[rawInt]⟩
 refine Ku (Lg (Ku (N6 (s:={s with heap:=s.heap.update it (Obj.mapFields (·.setIfInBounds 1 (rawInt ((i:Int)+1))))}) h2.typeIs ?_)))
 show wpAny _ _ (pure es[i].key) _ _ _;exact K1 (K1 ⟨_,rfl,K1 (q _ h2 (LQ ..))⟩)
theorem BN{it d:Addr}{Q:Option Value->Shared->Prop}(hh:A.handled=none)(hit:s.heap.IsKeyIter it d es.size es.size ep)(x:hV s.heap d es ep)
  (q:∀ h',Heap.ExtBut it s.heap h'->Q none {s with heap:=h'}):wpAny (model prog w) A (pyNext (.ref it)) Q E s:=by
 obtain⟨o,ho,hc,hd⟩:=id hit;obtain⟨od,hod,hx,hdd⟩:=id x;unfold pyNext;refine Ku (Nu (Ls (name:=Str.ofString "__next__") hit.typeIs PySem.F.slot_dict_keyiterator_next (L8 PySem.F.slot_dict_keyiterator_next hit.typeIs PySem.F.entry_dict_keyiterator_next ?_ (PySem.F.args_dict_keyiterator_next_1 _))));refine Ku (K1 (Ku (Ku ?_)))
 first|refine Ku (Mi hit.typeIs (K1 (Ku (NW ho hd ?_))))|refine Ku (MD hit.typeIs (K1 (Ku (NW ho hd ?_))))
 simp only[show Builtin.Dict_items.ownsTuple "dict_keyiterator"=false by decide,Lw,LY]
 show wpAny _ _ (if (Value.ref d == Value.none)=true then _ else _) _ _ s;rw[Kx (show ¬ ((Value.ref d == Value.none)=true) from K5)]
 refine Ku (K1 (Ku (Np hod hdd ?_)));rw[Kx (by simp)]
 refine Ku (K1 (Ku (OD hod hdd ?_)));rw[Kx (by simp)]
 refine K1 ?_;simp only[show ¬ ((es.size:Int)<0) by lia,LY,Lr,OL (K2 es.size)]
 refine Ku ?_
 first|refine Ku (Mi hit.typeIs (K1 ?_))|refine Ku (MD hit.typeIs (K1 ?_))
 show wpAny _ _ (setField (.ref it) 0 .none >>= _) _ _ s;refine Ku (NU ho hd (by simp) ?_)
 show wpAny _ _ (newExc (.type "StopIteration") [] >>= _) _ _ _;refine Ku ?_;simp only[newExc,newTuple];refine Ku (LN ?_ (by size_fits))
 refine Ku (m:=firstArgMember _ _) (wpAny_of_eq (a:=Value.none) (by first|rfl | (simp only[firstArgMember];rfl)) (LN ?_ (by size_fits)))
 simp only[raiseNew];refine Ku (wpAny_handled ?_);rw[show A.in1.handled=none from hh];refine Ku (K1 (wpAny_throw ?_));refine Ku (wpAny_isInstance (T:="StopIteration") (b:=true) ⟨_,K7 _ rfl,rfl⟩ isSubtype_stop ?_);exact K1 (q _ (((LQ ..).extBut.push _).push _))
end
theorem vN{w:World}{A:Around}(hh:A.handled=none)(I d:Addr)(ne:d≠I)(es:Array DictEntry)(ep:Nat):
  Walks prog w A I [I,d] [I] es.size (fun i v=>∃ h:i<es.size,v=es[i].key) (fun i h=>h.IsKeyIter I d i es.size ep/\hV h d es ep) where
 sub:=fun b hb=>by simp at hb;simp[hb]
 frame:=fun _ _ _ st hk=>⟨st.1.at fun o e=>hk I (by simp) o e,st.2.keep fun o e=>hk d (by simp) o e⟩
 item:=fun i s Q E hi st hQ=>zS st.1 st.2 hi fun h' a b=>hQ _ h' s.toks ⟨hi,rfl⟩ ⟨a,st.2.keep fun o e=>b.extBut _ _ ne e⟩ fun c o hc e=>b.extBut c o (fun h=>hc (by simp[h])) e
 done:=fun s Q E st hQ=>BN hh st.1 st.2 fun h' he=>hQ h' s.toks fun c o hc e=>he c o (fun h=>hc (by simp[h])) e
 self:=fun _ _ _ _ st hQ=>wpAny_pyIter_keyiter st.1 hQ
theorem Eg{w:World}{d:Addr}(low:(d == sysModules)=false):PySem.W.KdlSrc prog w "dict" d d es.size (fun i v=>∃ h:i<es.size,v=es[i].key) (fun h=>hV h d es ep) where
 type:=fun _ x=>x.ty
 there:=fun _ x=>⟨x.lt,x.lt⟩
 keep:=fun _ _ x k=>x.keep fun o e=>k d (.inl rfl) o e
 notList:=by decide
 notTuple:=by decide
 hint:=fun _ _ _ _ x q=>PySem.W.kdl_hint_dict x.ty q
 iter:=fun _ _ hh x=>⟨_,_,(fun _ _ q=>By low x q),vN hh _ d (KJ x.lt) es ep,⟨⟨_,K7 _ rfl,rfl,rfl⟩,x.keep fun _ e=>Kv _ e⟩⟩
theorem xo{es:List DictEntry}(h:KTD.Rows (xA K) es D):es.length=D.length:=by
 induction h with
 |nil=>rfl
 |cons _ _ _ ih=>simp[ih]
theorem x9{es:List DictEntry}(h:KTD.Rows (xA K) es D):Vals (D.map fun p=>V.str p.1) (es.map fun e=>e.key):=by
 induction h with
 |nil=>exact .nil
 |cons e _ _ ih=>exact .cons ⟨_,e⟩ ih
noncomputable def x8(K:Pq)(D:List (Str×List Str)):List V->Hp->VK->Prop:=fun xs H Q=>∃ d,xs=[.ref d]/\lF K d D/\D.length<=sizeLine/\∀ l,H l=none->Q (.ref l) (upd H l (.lst (D.map fun p=>V.str p.1)))
theorem qf(K:Pq)(hK:X.K=K)(hc:X.calm=true):aH X (.type "list") (x8 K D):=by
 intro pins s σ H xs us Q I r h;subst hK;obtain⟨d,rfl,hd,hz,q⟩:=h;obtain⟨u,rfl,rx⟩:=vals1 r;cases rx;obtain⟨o,es,ep,ho,hx,hdat,hr⟩:=hd.ex;have at0:hV s.heap d es ep:=⟨o,I.gX _ _ ho,hx,hdat⟩;have hl:es.size=D.length:=by rw[<- xo hr,Lq]
 refine PySem.W.kdl_call (Eg hd.low) (I.ok.hd hc) at0 (by rw[hl];exact hz) fun h' tk acc c' hk hS hI=>?_
 have hv:Vals (D.map fun p=>V.str p.1) acc.toList:=by
  have e:acc.toList=es.toList.map fun e=>e.key:=by
   refine Ol fun j=>?_;rw[KW,KL,KW]
   cases z:acc[j]? with
   |none =>
    have:acc.size<=j:=Of.mp z;rw[OL (by rw[<- hI.1];exact this)];rfl
   |some v =>
    obtain⟨hj,rfl⟩:=hI.2 j v z;rw[Oo hj];rfl
  rw[e];exact x9 hr
 refine⟨.ref s.heap.objs.size,_,I.laid (t':=tk) hk (K2 _) (show aP X.prog X.w _ h' _ (.lst _) from⟨?_,acc.toList,c',hv,by simpa using hS⟩),rfl,q _ (I.aD.fresh (K2 _))⟩
 rw[K3];exact hz
namespace Y
noncomputable def sT(D:List (Str×List Str))(ue:UE):UE:=fun μ Q=>ue μ fun r μ'=>match r with
 |.tr (.str k)=>∃ i:Nat,(D.map fun p=>p.1)[i]?=some k/\(∀ m,m<i->(D.map fun p=>p.1)[m]?≠some k)/\Q (.tr (.int (i:Nat))) μ'
 |_=>False
theorem Jp{p pl cpos:Pos}(K:Pq)(hK:X.K=K)(hc:X.calm=true)(hg:Gl X x)(hd:∃ d,X.mg x=some (.ref d)/\lF K d D)(hgl:Gl X "list")(hml:X.mg "list"=none)(he:YE X e ue)(hz:autoParam (D.length<=1000) ℜ1)(h1:autoParam (cK e=true) ℜ0)
  (hbase:autoParam (attributeBase (.Call (.Name "list" pl) [.Name x p] [] cpos) "index" X.env (eval (.Call (.Name "list" pl) [.Name x p] [] cpos) X.env)=eval (.Call (.Name "list" pl) [.Name x p] [] cpos) X.env) ℜ0) (hline:autoParam ((apos.endLine == pos.line)=true) ℜ0) (hdb:autoParam ((x ==("__debug__":Str))=false) ℜ1) :
  YE X (.Call (.Attribute (.Call (.Name "list" pl) [.Name x p] [] cpos) "index" apos) [e] [] pos) (sT D ue):=by
 obtain⟨t,q,r⟩:=he;obtain⟨d,hm,hd⟩:=hd;have hlist:QE X (.Call (.Name "list" pl) [.Name x p] [] cpos) (vf (x8 K D) (fY (tC (.ref d)) iX)):=Z.ct (qf K hK hc) hgl hml (by decide +kernel) (Z.cons ⟨lS hg hm rfl hdb⟩ Z.nil)
 refine⟨_,Z.bm K hK PySem.F.plainAttrs_list PySem.F.slot_list_index PySem.F.type_list_index rH hlist (Z.cons q Z.nil (h:=h1)) hbase hline (by simp[h1]) (show 1<30 by decide),fun F ad B σ H μ Q Qt hF l q k=>?_⟩
 refine⟨d,rfl,hd,KG hz (by decide),fun a ha=>?_⟩
 have sm:bQ H (upd H a (.lst (D.map fun p=>V.str p.1))):=bQ.new ha;refine⟨?_,r F ad B σ _ μ _ _ hF (l.same sm) q fun v H' r1 μ' v1 f k1 q1=>?_⟩
 ·exact .inl ⟨rfl,_,bz.of ae⟩
 ·split at q1
  ·rename_i z;obtain⟨l1,rp⟩:=v1;obtain rfl:=Rep.fP rp;obtain⟨i,h2,h3,q2⟩:=q1;refine⟨a,D.map fun p=>p.1,z,i,rfl,?_,rfl,h2,h3,k _ H' _ μ' (Vr.flat l1 (.int _)) ((Fr.same sm).trans f.d) k1 q2⟩;rw[MC];exact (f a _ ae (l.v9 ha)).1
  ·exact q1.elim
end Y
namespace A
theorem sT(D:List (Str×List Str))(ue:UE)(μ:Mu)(Q:R->Mu->Prop):Y.sT D ue μ Q=ue μ fun r μ'=>match r with
 |.tr (.str k)=>∃ i:Nat,(D.map fun p=>p.1)[i]?=some k/\(∀ m,m<i->(D.map fun p=>p.1)[m]?≠some k)/\Q (.tr (.int (i:Nat))) μ'
 |_=>False:=rfl
end A
theorem Z.zip{es:List Expr}{tk:Nat}{tp:Pos}{e1 e2:Expr}{ta:TA}{p:Pos}(K:Pq)(hK:X.K=K)(hg:Gl X "zip")(hm:X.mg "zip"=none)(ha:QA X [e1,e2] ta)(h1:autoParam (cK e1=true) ℜ0)(h2:autoParam (cK e2=true) ℜ0):QI X (.Tuple es tk tp) (.Call (.Name "zip" p) [e1,e2] [] pos) (oV K ta):=by
 subst hK;exact⟨rf hg hm ha.h h1 h2⟩
theorem Ap.oV(K:Pq)(ta:TA)(σ:St)(H:Hp)(R:It->Hp->Prop):L2.oV K ta σ H R=ta σ H fun vs H1=>∃ a b k1 k2,vs=[V.ref a,V.ref b]/\(∃ xs,mE K k1 H1 a xs)/\(∃ ys,mE K k2 H1 b ys)/\R (wR K k1 k2 a b) H1:=rfl
section
variable {K:Pq} {g:TG} {tb:TS} {D:Ends} {σ:St} {H:Hp} {te:TE} {Q:VK}
theorem vi{a b:Addr}{ys:List V}(hxy:xs.length=ys.length)(Pv:Nat->St->Hp->Prop)(h0:Pv 0 σ H)(hl:∀ i σ H,i<=xs.length->Pv i σ H->aW K H a xs/\aW K H b ys)
  (hs:∀ i x y σ H p,xs[i]?=some x->ys[i]?=some y->Pv i σ H->H p=none->g (.ref p) σ (upd H p (.tup [x,y])) fun σ2 H2=>tb {D with nx:=Pv (i+1),ct:=Pv (i+1),bk:=D.nx} σ2 H2) (hd:∀ σ H,Pv xs.length σ H->D.nx σ H):Es (wR K false false a b) g tb D σ H:=by
 refine⟨fun i m σ H=>m=xs.length-i/\i<=xs.length/\Pv i σ H,⟨xs.length,by simp,KY _,h0⟩,?_⟩
 rintro i m σ H ⟨rfl,hi,p⟩;obtain⟨q1,q2⟩:=hl i σ H hi p;have q1':mE K false H a xs:=q1;have q2':mE K false H b ys:=q2;by_cases hlt:i<xs.length
 ·have hl2:i<ys.length:=by lia
  refine .inr ⟨⟨xs,ys,xs[i],ys[i],q1',q2',by simp[hlt],by simp[hl2]⟩,Pv (i+1),fun σ' H' p'=>⟨xs.length-(i+1),by lia,rfl,hlt,p'⟩,fun x H' z=>?_⟩
  obtain⟨c,y1,y2,e1,e2,fr,rfl,rfl⟩:=z;exact hs i y1 y2 σ H c (e1 xs q1') (e2 ys q2') p fr
 ·have e:i=xs.length:=by lia
  subst e;exact .inl ⟨⟨xs,ys,q1',q2',by lia⟩,hd σ H p⟩
theorem qG{a:Addr}(hn:xs.length<=sizeLine)(Pv:Addr->Nat->List V->Hp->Prop)(h0:∀ D,H D=none->Pv D 0 [] (upd H D (.lst [])))(hD:∀ D i ys H',Pv D i ys H'->H' D=some (.lst ys)/\ys.length=i)
  (hl:∀ D i ys H',Pv D i ys H'->bz K H' a xs)
  (hs:∀ D i ys H' x (R:VK),xs[i]?=some x->Pv D i ys H'->(∀ v H5,H5 D=some (.lst ys)->Pv D (i+1) (ys++[v]) (upd H5 D (.lst (ys++[v])))->R v H5)->te (some x::σ) H' R) (hd:∀ D ys H',Pv D xs.length ys H'->Q (.ref D) H') :
  vY (qZ K a) 1 (bJ 0) kN te Q σ H:=by
 intro D hD0;refine⟨fun i m ys σ' H'=>m=xs.length-i/\i<=xs.length/\Pv D i ys H'/\∃ o,σ'=o::σ,⟨xs.length,by simp,KY _,h0 D hD0,none,rfl⟩,?_⟩
 rintro i m ys σ' H' ⟨rfl,hi,p,o,rfl⟩;obtain⟨hDi,hly⟩:=hD _ _ _ _ p;have q:=hl _ _ _ _ p;refine⟨hDi,?_⟩;by_cases hlt:i<xs.length
 ·refine .inr ⟨⟨xs,xs[i],q,by simp[hlt]⟩,by lia,fun x H2 y=>?_⟩
  obtain⟨rfl,y⟩:=y;unfold bJ kN;dsimp only;rw[if_pos rfl];exact hs D i ys H2 x _ (y xs q) p fun v H5 q1 q2=>⟨q1,xs.length-(i+1),by lia,rfl,hlt,q2,_,rfl⟩
 ·have e:i=xs.length:=by lia
  subst e;exact .inl ⟨⟨xs,q,K2 _⟩,hd D ys H' p⟩
end
noncomputable def but(B:aL)(a:Addr):aL:=fun b=>B b/\b≠a
noncomputable def F_(K:Pq)(mg:Str->Option Value)(x:Str):Prop:=∃ p o,mg x=some (.ref p)/\K.lookup p=some o/\o.dict=none
namespace Y
noncomputable def rA(xs:List T)(ue:UE):UE:=fun μ Q=>ue μ fun r μ2=>match r with
 |.tr (.str k)=>∃(ws:List Str) (j:Nat),xs=ws.map T.str/\ws[j]?=some k/\(∀ m,m<j->ws[m]?≠some k)/\Q (.tr (.int (j:Nat))) μ2
 |_=>False
theorem IF{xs:List T}{p:Pos}(K:Pq)(hK:X.K=K)(hg:Gl X x)(hc:∃ w u,X.mg x=some u/\RelV w u/\∀ H B,Rep K H B w (.dN xs))(hn:F_ K X.mg x)(he:YE X e ue)
  (hbase:autoParam (attributeBase (.Name x p) "index" X.env (eval (.Name x p) X.env)=eval (.Name x p) X.env) ℜ0) (hline:autoParam ((apos.endLine == pos.line)=true) ℜ0) (h1:autoParam (cK e=true) ℜ0) (hdb:autoParam ((x ==("__debug__":Str))=false) ℜ1):YE X (.Call (.Attribute (.Name x p) "index" apos) [e] [] pos) (rA xs ue):=by
 obtain⟨t',q',r'⟩:=he;obtain⟨w,u,hm,rw',rep⟩:=hc;obtain⟨a,o,hm2,ho,hd⟩:=hn;subst hK;rw[hm] at hm2;cases hm2;refine⟨_,Z.bm X.K rfl PySem.F.plainAttrs_tuple PySem.F.slot_tuple_index PySem.F.type_tuple_index E4 (Z.glob hg hm rw' hdb) (Z.cons q' Z.nil (h:=h1)) hbase hline (by simp[h1]) (show 1<30 by decide),fun F ad B σ H μ Q Qt hF l q k=>?_⟩
 have rp:=rep H B;obtain⟨_,_,rfl,ha,ra⟩:=Rep.qC rp;have e0:=Value.ref.inj (show Value.ref _=Value.ref _ from rw');subst e0;refine⟨.inr (.inl ⟨rfl,o,ho,?_,hd⟩),r' F ad B σ H μ _ _ hF l q fun v2 H2 r2 μ2 v2r f2 k2 q2=>?_⟩
 ·obtain⟨o',its,n,h1,h2,_⟩:=ha;rw[ho] at h1;cases h1;exact h2
 split at q2
 ·rename_i z;obtain⟨l2,rp⟩:=v2r;obtain rfl:=Rep.fP rp;obtain⟨ws,j,rfl,h2,h3,q3⟩:=q2;have e:=hZ ra;subst e;exact⟨_,ws,z,j,rfl,.inr ha,rfl,h2,h3,k _ H2 _ μ2 (Vr.flat l2 (.int _)) f2.d k2 q3⟩
 ·exact q2.elim
end Y
namespace A
theorem rA(xs:List T)(ue:UE)(μ:Mu)(Q:R->Mu->Prop):Y.rA xs ue μ Q=ue μ fun r μ2=>match r with
 |.tr (.str k)=>∃(ws:List Str) (j:Nat),xs=ws.map T.str/\ws[j]?=some k/\(∀ m,m<j->ws[m]?≠some k)/\Q (.tr (.int (j:Nat))) μ2
 |_=>False:=rfl
end A
open Builtin Builtin.Str
open PySem PySem.Spec PyProof PyProof.Rows
open Builtin Builtin.Str
open PySem PySem.Spec PyProof PyProof.Rows
open PySem PySem.Spec PyProof PyProof.Rows PySem.W
namespace A4
noncomputable def lt(r:R)(k:R->Prop):Prop:=k r
theorem Kh(t:T)(k:R->Prop):lt (R.d (.tr t)) k=k (.tr t):=rfl
theorem Kt(t:T)(k:R->Prop):lt (R.d (.fr t)) k=k (.tr t):=rfl
theorem Kf(i:Nat)(k:R->Prop):lt (R.d (.br i)) k=k (.br i):=rfl
theorem HK(o:Ou)(Q:R->Prop):mG o Q=(match o with|.no=>False|.ok r=>Q r|.ck c r=>c/\Q r):=rfl
theorem Hj(o:Option (Prop×R))(Q:R->Prop):k_ o Q=(match o with|some (C,r)=>C/\Q r|none=>False):=rfl
theorem GL(o:Option (List T×Option (Nat×List T)))(Q:List T->Option (Nat×List T)->Prop):FV o Q=(match o with|some (ts,g)=>Q ts g|none=>False):=rfl
theorem G8(o:Option T)(p:Prop):Y.Ip o p=(match o with|some (.lst _)=>p|_=>False):=by
 cases o with|none=>rfl|some t=>cases t<;>rfl
theorem CI(u:U2)(ua ub:UE)(μ:Mu)(Q:R->Mu->Prop):Y.CI u ua ub μ Q=ua μ fun r1 μ1=>ub μ1 fun r2 μ2=>lt r1.d fun x=>lt r2.d fun y=>u x y μ2 Q:=rfl
theorem rD(ue:UE)(us:UA)(μ:Mu)(Q:List R->Mu->Prop):Y.rD ue us μ Q=ue μ fun r μ1=>us μ1 fun rs μ2=>lt r.d fun x=>Q (x::rs) μ2:=rfl
end A4
theorem ints_get:∀{ns:List Int} {its:List Value},Vals (ns.map V.int) its->∀(m:Nat) (y:Int),ns[m]?=some y->∃ t,its[m]?=some (.int y t):=fun r m y e=>by
 obtain⟨u,h1,h2⟩:=r.get (i:=m) (x:=V.int y) (by rw[KL,e];rfl)
 obtain⟨t,rfl⟩:=(show RelV (.int y) u from h2);exact⟨t,h1⟩
namespace Y
noncomputable def B_:V->List V->Hp->VK->Prop:=fun x vs H Q=>∃(a:Addr) (ws:List Int) (k:Int) (j:Nat),x=.ref a/\H a=some (.lst (ws.map V.int))/\vs=[.int k]/\ws[j]?=some k/\(∀ m,m<j->ws[m]?≠some k)/\Q (.int (j:Nat)) H
theorem zV{X:Cx}:Fi X "list.index" B_:=by
 intro pins s σ H x xs v us Q I rx rs h;obtain⟨a,ws,k,j,rfl,hH,rfl,hj,hno,q⟩:=h;cases rx;obtain⟨u,rfl,t,rfl⟩:=vals1 rs;obtain⟨z,its,n,r,hl,e⟩:=I.ki hH;obtain⟨t',hit⟩:=ints_get r j k hj;have hjl:j<ws.length:=(K8.mp hj).1;rw[K3] at z hl;have hji:j<its.toArray.size:=by rw[Ky];lia
 have sz:(sizeLine:Int)<2^63-1:=by decide
 have hje:its.toArray[j]=.int k t':=by
  have:its.toArray[j]?=some (.int k t'):=by rw[La];exact hit
  exact (LX.mp this).2
 have hall:∀(m:Nat) (hm:m<its.toArray.size),∃ y ty,its.toArray[m]=.int y ty/\ws[m]?=some y:=fun m hm=>by
  have hm':m<ws.length:=by rw[Ky] at hm;lia
  have e1:=Kw hm';obtain⟨ty,hy⟩:=ints_get r m _ e1;have:its.toArray[m]?=some (.int ws[m] ty):=by rw[La];exact hy
  exact⟨_,ty,(LX.mp this).2,e1⟩
 refine LF PySem.F.slot_list_index ⟨_,e,rfl⟩ PySem.F.entry_list_index (PySem.F.args_list_index_2 _ _) (SeqAt.list_indexAt a its.toArray n none _ (.int k t) (fun y=>match y with|.int y _=>y == k|_=>false) j hji (by lia) (by rw[hje];exact Mm k) fun m hm hmj=>?_) ⟨e,fun y hy=>?_,⟨.int (j:Nat),H,I.tok _,⟨_,rfl⟩,q⟩⟩
 ·obtain⟨y,ty,ey,ew⟩:=hall m hm;rw[ey];exact Lh.mpr fun z=>hno m hmj (by rw[ew,z])
 ·obtain⟨m,hm,rfl⟩:=OV.mp hy;obtain⟨y,ty,ey,ew⟩:=hall m hm;rw[ey];exact NX _ _ _ _
noncomputable def mP:UM:=fun j rs μ Q=>match rs with
 |[.tr (.int k)]=>(match (μ[j]?).bind Sl.box with
  |some (.lst ts)=>∃(ws:List Int) (i:Nat),ts=ws.map T.int/\ws[i]?=some k/\(∀ m,m<i->ws[m]?≠some k)/\Q (.tr (.int (i:Nat))) μ
  |_=>False)
 |_=>False
theorem Br{K:Pq}:RM K B_ mP:=by
 intro F ad B σ H μ Q Qt j s c xs rs hF l e b ps q k;unfold mP at q
 split at q
 ·rename_i z;obtain⟨_,_,rfl,h,ps⟩:=Paired.bW ps;obtain rfl:=Paired.jv ps;rw[e] at q
  cases bL h
  have q':(match s.box with|some (.lst ts)=>∃(ws:List Int) (i:Nat),ts=ws.map T.int/\ws[i]?=some z/\(∀ m,m<i->ws[m]?≠some z)/\Qt (.tr (.int (i:Nat))) μ|_=>False):=q
  rw[b] at q';rcases ((l.slot j s e).boxed b).2.2.1.is with ⟨ts,vs,rfl,hl,rv⟩|⟨_,_,_,rfl,_⟩
  case inr=>exact q'.elim
  simp only at q';obtain⟨ws,i,rfl,h1,h2,q2⟩:=q';rw[bF rv] at hl;exact⟨_,ws,z,i,rfl,hl,rfl,h1,h2,k _ H _ μ (Vr.flat l (.int _)) Fr.refl (Kp.refl μ) q2⟩
 ·exact q.elim
end Y
namespace A
theorem mP(j:Nat)(k:Int)(μ:Mu)(Q:R->Mu->Prop):Y.mP j [.tr (.int k)] μ Q=(match (μ[j]?).bind Sl.box with
  |some (.lst ts)=>∃(ws:List Int) (i:Nat),ts=ws.map T.int/\ws[i]?=some k/\(∀ m,m<i->ws[m]?≠some k)/\Q (.tr (.int (i:Nat))) μ
  |_=>False):=rfl
end A
open PySem PySem.Calls PySem.NumText PySem.Spec PyProof PyProof.Rows
abbrev Src:=Bool×Addr×Addr
end L2
namespace G
local macro_rules|`(tactic|and_intros)=>`(tactic|exact ⟨rfl,rfl,rfl,by decide +kernel,rfl,by decide +kernel,by decide +kernel⟩)
open PySem L2 PySem.Spec PyProof.Rows
variable{D L i k n:Nat}{a b c l r:List Nat}{X:List It}{α:Type}{C f lc_by_worth lp_by_worth p0 p1 p2:Addr}{cs:List Int}{H:Hp}{fd:FuncData}{B:aL}{q:Program}{K:Pq}{h:Heap}{mg:Str->Option Value}{lO_by_worth:Value}{lD_by_worth:Option Addr}{lv_by_worth:Array Value}{lS_by_worth:Array (Option Value)}
noncomputable def top(i:Nat):Stmt:=PySem.Challenge.pw_shortrows_k48_whole_fewest_bits.main.body.getD i (.Pass ⟨0,0,0,0⟩)
abbrev gU:Stmt:=top 4
theorem bP:ar ["lengths","free","depth","left","length"] ["lengths"] (aa gU):=by and_intros
abbrev bf:Stmt:=top 5
theorem cI:ar ["counts","bound","things","chosen"] ["counts","bound"] (aa bf):=by and_intros
abbrev bE:Stmt:=top 6
theorem aN:ar ["counts","bound","coins","shelf","depth","chosen","item"] ["counts","bound"] (aa bE):=by and_intros
abbrev cc:Stmt:=top 7
theorem oG:ar ["shelf"] ["shelf"] (aa cc):=by and_intros
abbrev dv:Stmt:=top 8
theorem nH:ar ["shelf"] ["shelf"] (aa dv):=by and_intros
abbrev fF:Stmt:=top 13
theorem qz:ar ["row"] ["row"] (aa fF):=by and_intros
abbrev dm:Stmt:=top 20
theorem cH:ar ["program","counts","sums","row","count","which","thing"] ["program","counts"] (aa dm):=by and_intros
abbrev cp:Stmt:=top 21
theorem bY:ar ["row","things","kind","part"] ["row"] (aa cp):=by and_intros
abbrev ax:Stmt:=inClass (top 23) 0
theorem fQ:ar ["self","given"] ["self","given"] (aa ax):=by and_intros
abbrev av:Stmt:=inClass (top 23) 1
theorem cE:ar ["self","row","behind","end","goes"] ["self","row","behind","end"] (aa av):=by and_intros
abbrev ay:Stmt:=inClass (top 23) 2
theorem cS:ar ["self","row","word"] ["self","row"] (aa ay):=by and_intros
abbrev aw:Stmt:=inClass (top 23) 3
theorem a_:ar ["self","row","word","old","other"] ["self","row"] (aa aw):=by and_intros
abbrev ao:Stmt:=inClass (top 23) 4
theorem dZ:ar ["self"] ["self"] (aa ao):=by and_intros
abbrev aq:Stmt:=inClass (top 23) 5
theorem dS:ar ["self"] ["self"] (aa aq):=by and_intros
abbrev ak:Stmt:=inClass (top 23) 6
theorem eG:ar ["self"] ["self"] (aa ak):=by and_intros
abbrev d8:Stmt:=top 24
theorem b6:ar ["program","given","most","machine","turns","at","done","how"] ["program","given","most"] (aa d8):=by and_intros
abbrev dJ:Stmt:=top 26
theorem gW:ar ["cell","number"] ["cell"] (aa dJ):=by and_intros
abbrev dC:Stmt:=top 27
theorem dh:ar ["seed","most","found","number"] ["seed","most"] (aa dC):=by and_intros
abbrev c_:Stmt:=top 28
theorem kf:ar ["script","many"] ["script","many"] (aa c_):=by and_intros
abbrev dc:Stmt:=top 29
theorem kl:ar ["found"] ["found"] (aa dc):=by and_intros
abbrev bX:Stmt:=top 30
theorem j3:ar ["found","many"] ["found","many"] (aa bX):=by and_intros
abbrev dM:Stmt:=top 32
theorem b8:ar ["lengths","need","last","length","gap"] ["lengths"] (aa dM):=by and_intros
abbrev eB:Stmt:=top 35
theorem ow:ar ["seed"] ["seed"] (aa eB):=by and_intros
abbrev cR:Stmt:=top 36
theorem fB:ar ["seed","way"] ["seed"] (aa cR):=by and_intros
abbrev eO:Stmt:=top 37
theorem fm:ar ["seed","many","way","goal"] ["seed","many"] (aa eO):=by and_intros
abbrev bK:Stmt:=top 38
theorem eX:ar ["seed","many"] ["seed"] (aa bK):=by and_intros
abbrev bw:Stmt:=top 39
theorem aS:ar ["seed","many","most","found","at","left"] ["seed","many","most"] (aa bw):=by and_intros
abbrev de:Stmt:=top 41
theorem cN:ar ["number","found"] ["number"] (aa de):=by and_intros
abbrev dG:Stmt:=top 42
theorem bR:ar ["row","book","words","total","part"] ["row","book"] (aa dG):=by and_intros
abbrev cq:Stmt:=top 43
theorem jW:ar ["program","counts","book"] ["program","counts","book"] (aa cq):=by and_intros
abbrev bu:Stmt:=top 44
theorem eU:ar ["seed","program","way"] ["seed","program"] (aa bu):=by and_intros
abbrev cm:Stmt:=top 45
theorem cY:ar ["found","many","lengths"] ["found"] (aa cm):=by and_intros
abbrev cP:Stmt:=top 46
theorem bN:ar ["seed","book","at","some","one","other"] ["seed","book"] (aa cP):=by and_intros
abbrev fU:Stmt:=top 47
theorem eJ:ar ["script","cell","seed","program","counts","book","least","turn","other"] ["script"] (aa fU):=by and_intros
structure Txt (K:Pq) (mg:Str->Option Value):Prop where
 Eb:mg "bool"=none
 CU:mg "dict"=none
 oP:mg "enumerate"=none
 Cc:mg "int"=none
 cy:mg "isinstance"=none
 cU:mg "len"=none
 qy:mg "list"=none
 rE:mg "max"=none
 kq:mg "min"=none
 fJ:mg "range"=none
 jf:mg "sorted"=none
 Fy:mg "str"=none
 Fv:mg "sum"=none
 bU:mg "tuple"=none
 oF:mg "zip"=none
 m4:∃ w u,mg "BOXES"=some u/\RelV w u/\∀ H B,Rep K H B w (.dN [.str "a",.str "b",.str "c",.str "d",.str "e",.str "f",.str "g",.str "h"])
 qx:∃ w u,mg "HOW_MANY"=some u/\RelV w u/\∀ H B,Rep K H B w (.dN [.int 9,.int 17,.int 8])
 tH:∃ w u,mg "LONGEST"=some u/\RelV w u/\∀ H B,Rep K H B w (.int 12)
 pL:∃ w u,mg "OF_BOXES"=some u/\RelV w u/\∀ H B,Rep K H B w (.int 2)
 lI:∃ w u,mg "OF_CLASSES"=some u/\RelV w u/\∀ H B,Rep K H B w (.int 1)
 qJ:∃ w u,mg "OF_WORDS"=some u/\RelV w u/\∀ H B,Rep K H B w (.int 0)
 Ab:∃ w u,mg "WHOLE"=some u/\RelV w u/\∀ H B,Rep K H B w (.int 65536)
 zN:F_ K mg "BOXES"
 j5:∃ d,mg "SHAPES"=some (.ref d)/\lF K d [("put",["box","number"]),("add",["box","box"]),("sub",["box","box"]),("copy",["box","box"]),("tell",["box"]),("hear",["box"]),("jump",["goal"]),("zero",["box","goal"]),("halt",[])]
 mc:∃(C_Machine f___init__ f_place_next f_carry_out f_number_for f_heard_number f_told_numbers f_box_numbers:Addr) (d___init__ d_place_next d_carry_out d_number_for d_heard_number d_told_numbers d_box_numbers:FuncData),mg "Machine"=some (.ref C_Machine)/\jU K C_Machine/\aY K C_Machine "given"/\aY K C_Machine "heard"/\aY K C_Machine "told"/\aY K C_Machine "boxes"/\Mk K C_Machine f___init__/\iM K "__init__" "Machine.__init__" ax f___init__ d___init__/\Binds K d___init__ ["self","given"] []/\Meth K C_Machine "place_next" f_place_next/\iM K "place_next" "Machine.place_next" av f_place_next d_place_next/\Binds K d_place_next ["self","row","behind","end"] []/\Meth K C_Machine "carry_out" f_carry_out/\iM K "carry_out" "Machine.carry_out" ay f_carry_out d_carry_out/\Binds K d_carry_out ["self","row"] []/\Meth K C_Machine "number_for" f_number_for/\iM K "number_for" "Machine.number_for" aw f_number_for d_number_for/\Binds K d_number_for ["self","row"] []/\Meth K C_Machine "heard_number" f_heard_number/\iM K "heard_number" "Machine.heard_number" ao f_heard_number d_heard_number/\Binds K d_heard_number ["self"] []/\Meth K C_Machine "told_numbers" f_told_numbers/\iM K "told_numbers" "Machine.told_numbers" aq f_told_numbers d_told_numbers/\Binds K d_told_numbers ["self"] []/\Meth K C_Machine "box_numbers" f_box_numbers/\iM K "box_numbers" "Machine.box_numbers" ak f_box_numbers d_box_numbers/\Binds K d_box_numbers ["self"] []
 lH:sV K mg "by_worth"
section
variable {P:Program} {w:World} {K:Pq} {mg:Str->Option Value} {base:Heap}
local macro_rules | `(tactic| walk_at "lc") => `(tactic| first | exact Or.inl rfl | exact Or.inr rfl)
local macro_rules | `(tactic| wp_walk using $ts,*) => do
  let ids := ("L2.A.mP L2.A.rA L2.A.sT L2.A.rZ L2.A.Hf L2.A.Gn L2.A.ze L2.A.wK L2.A.A5 L2.A.Fw L2.A.zO L2.A.mQ L2.A.A7 L2.A3.Ah L2.A3.mf L2.A3.gJ L2.A3.Fp L2.A3.ou L2.A3.IG L2.A3.Cz L2.A3.gT L2.A3.nF L2.A3.IV L2.A3.IQ L2.A3.Jj L2.A3.Gb L2.A3.add_l L2.A3.FY L2.A3.Jt L2.A3.ID L2.A3.Jl L2.A3.FP L2.A3.G5 L2.A3.FO L2.A3.Jy L2.A3.JE L2.A3.Iy L2.A.oo L2.A.uC L2.A.mL L2.A.Ac L2.A.zr L2.A.FA L2.A.t9 L2.A.rT L2.A.H_ L2.A.BG L2.A.zQ L2.A.uK L2.A.AQ L2.A.BD L2.A.BS L2.A.iP L2.A.qW L2.A.yV L2.A.GC L2.A.IU L2.A.DQ L2.A.As L2.A.Gu L2.A.FZ L2.A.G7 L2.A.FD L2.A.IY L2.A.Ji L2.A.qw L2.A.dP L2.A.mM L2.A.D0 L2.A.FN L2.A.o8 L2.A.JD L2.A.HV L2.A.Jk L2.A.Dq L2.A.jH L2.A.jO L2.A.Ko L2.A.J_ L2.A.vo L2.A.G6 L2.A.Gr L2.A.HF L2.A.FJ L2.A.Iu L2.A.Ib L2.A.gS L2.A.BK L2.A.rk L2.A.yN L2.A.Im L2.A.HU L2.A.HZ L2.A.iZ L2.A.wo L2.A.i4 L2.A.HS L2.A.gy L2.A.Ha L2.A.Kc L2.A.Km L2.A.Ja L2.A.JI L2.A.IT L2.A.Jv L2.A.GY L2.A.HE L2.A.G2 L2.A.Ga L2.A.IZ L2.A.Js L2.A.Jx L2.A.IB L2.A.IM Sl.box Sl.put df L2.putAll C5 oi qF L2.Y.trees L2.Y.Aa L2.Y.An L2.Y.tI L2.Y.Ie L2.Y.Ii List.tail_cons Nat.zero_le startM yS cJ Option.bind_some Option.map_some List.map_cons List.map_nil List.length_cons List.length_nil List.replicate List.cons_append List.nil_append List.append_nil List.getElem?_cons_zero List.getElem?_cons_succ List.set_cons_zero List.set_cons_succ List.nodup_nil List.nodup_cons List.not_mem_nil List.mem_cons not_false_eq_true false_implies implies_true forall_eq or_false and_true true_and and_self true_or Hz DM Ht HN Nat.reduceAdd Nat.reduceSub Nat.reduceLeDiff Bool.false_eq_true Bool.not_true Bool.not_false decide_eq_true_eq Bool.not_eq_true' decide_eq_false_iff_not Int.reduceToNat Int.reducePow reduceCtorEq exists_eq_left exists_eq_left' L2.A4.Kh L2.A4.Kt L2.A4.Kf L2.A4.HK L2.A4.Hj L2.A4.GL L2.A4.G8 L2.A4.CI L2.A4.rD".splitOn " ").toArray.map fun n => Lean.mkIdent n.toName
  let pre:=ids.filter fun n=>n.getId.toString.startsWith "L2.A"
  `(tactic| simp only [↓reduceIte, $[↓$ts:term],*, $[↓$pre:term],*, $[$ids:ident],*, $[$ts:term],*])
local macro_rules | `(tactic| walk_at "rt") => `(tactic| wp_walk using and_self)
local macro_rules|`(tactic|rfl')=>`(tactic|wp_walk using and_self)
local macro_rules|`(tactic|symm)=>do
  let n:=Lean.mkIdent `N
  let h:=Lean.mkIdent `hN
  `(tactic|(refine $h _ ?_;clear $h $n;refine aB fun $n $h=>?_))
local macro_rules|`(tactic|ac_rfl)=>do
  let n:=Lean.mkIdent `N
  let h:=Lean.mkIdent `hN
  `(tactic|(refine $h _ ?_;clear $h $n))
local macro_rules|`(tactic|right)=>`(tactic|walk_at "lc")
local macro_rules|`(tactic|exists $ts,*)=>`(tactic|wp_walk using $ts,*)
namespace Kr
noncomputable def ks(L:Nat):List Nat->Nat
 |[]=>0
 |l::r=>2^(L-l)+ks L r
theorem dq(L:Nat):∀ a b,ks L (a++b)=ks L a+ks L b
 |[],b=>by simp[ks]
 |x::a,b=>by simp[ks,dq L a b];lia
theorem fE(h:a.Perm b):ks L a=ks L b:=by
 induction h with
 |nil=>rfl
 |cons x _ ih=>simp[ks,ih]
 |swap x y l=>simp[ks];lia
 |trans _ _ h1 h2=>exact h1.trans h2
theorem u6{d l:Nat}(h:d<l)(hl:l<=L):2^(L-d)=2*2^(L-(d+1)):=by
 have:L-d=(L-(d+1))+1:=by lia
 rw[this,Mf];lia
noncomputable def fit:List Nat->Nat->Nat->Nat->Prop:=fun r free depth L=>ks L r<=free*2^(L-depth)
theorem mK{L d:Nat}:∀{r:List Nat},(∀ x∈r,d<=x)->ks L r<=r.length*2^(L-d)
 |[],_=>by simp[ks]
 |x::r,h=>by
  have ih:=mK (L:=L) (d:=d) (r:=r) fun y hy=>h y (K9 _ hy);have hx:=h x KD;have:=LM (n:=2) (by decide) (Nat.sub_le_sub_left hx L)
  simp only[ks,K6,Mq];lia
theorem DU{x:Nat}:0<ks L (x::r):=by
 have:=Nr (n:=L-x) (show 0<2 by decide)
 simp only[ks];lia
theorem pY{free depth:Nat}(h:∀ x∈r,depth<=x)(hf:r.length<=free):fit r free depth L:=
 KG (mK h) (Mz _ hf)
theorem qN{free depth l:Nat}(h:depth<l)(hl:l<=L):fit r free depth L ↔ fit r (free*2) (depth+1) L:=by
 unfold fit;rw[u6 h hl,Mh]
theorem y3{free l:Nat}(hf:0<free):fit (l::r) free l L ↔ fit r (free-1) l L:=by
 unfold fit;simp only[ks];obtain⟨f,rfl⟩:∃ f,free=f+1:=⟨free-1,by lia⟩
 rw[Oa,Mq];lia
theorem wC{x:Nat}{r:List Nat}{depth L:Nat}:¬ fit (x::r) 0 depth L:=by
 unfold fit;have:=DU (L:=L) (x:=x) (r:=r);lia
noncomputable def zL(L:Nat)(done:List Nat)(need last:Int):Prop:=0<=need/\0<=last/\∀ m:Nat,(need<=m ↔ ks L done<=m*2^(L-last.toNat))
theorem shr(n:Int)(g:Nat)(hn:0<=n)(m:Nat):(1-((0-n) / 2^g)<=(m:Int)) ↔ (1<=m/\n<=((m-1:Nat):Int)*2^g):=by
 have hp:(0:Int)<2^g:=Int.pow_pos (by decide)
 have h1:(1-((0-n) / 2^g)<=(m:Int)) ↔ (1-(m:Int))<=(0-n) / 2^g:=by lia
 rw[h1,Int.le_ediv_iff_mul_le hp];constructor
 ·intro h;have hm:1<=m:=by
   rcases Nk m with z|z
   ·subst z;simp at h;lia
   ·exact z
  refine⟨hm,?_⟩;have e:((m-1:Nat):Int)=(m:Int)-1:=by lia
  rw[e,OM];rw[OM] at h;lia
 ·rintro⟨hm,h⟩;have e:((m-1:Nat):Int)=(m:Int)-1:=by lia
  rw[e,OM] at h;rw[OM];lia
theorem zL.step{done:List Nat}{need last l:Int}(h:zL L done need last)(h0:0<=l)(hl:l<=last)(hL:last<=L):
  zL L (done++[l.toNat]) (1-((0-need) / 2^(last-l).toNat)) l:=by
 obtain⟨n0,l0,hm⟩:=h;refine⟨?_,h0,fun m=>?_⟩
 ·have hp:(0:Int)<2^(last-l).toNat:=Int.pow_pos (by decide)
  have:(0-need) / 2^(last-l).toNat<=0:=Int.ediv_nonpos_of_nonpos_of_neg (by lia) hp
  lia
 ·rw[shr need _ n0 m,dq];simp only[ks];have e1:2^(L-l.toNat)=2^(last-l).toNat*2^(L-last.toNat):=by
   rw[<- MY];congr 1;lia
  have hpos:=Nr (n:=L-l.toNat) (show 0<2 by decide)
  constructor
  ·rintro⟨m1,h⟩;have h':need<=(((m-1)*2^(last-l).toNat:Nat):Int):=by
    rw[Int.natCast_mul,OE];exact h
   have:=(hm _).mp h';rw[Mh,<- e1] at this;obtain⟨k,rfl⟩:∃ k,m=k+1:=⟨m-1,by lia⟩
   rw[Oa] at this;rw[Mq];exact Nat.add_le_add this (K2 _)
  ·intro h;have m1:1<=m:=by
    rcases Nk m with z|z
    ·subst z;lia
    ·exact z
   refine⟨m1,?_⟩;have h':need<=(((m-1)*2^(last-l).toNat:Nat):Int):=by
    refine (hm _).mpr ?_;rw[Mh,<- e1];obtain⟨k,rfl⟩:∃ k,m=k+1:=⟨m-1,by lia⟩
    rw[Oa];rw[Mq] at h;exact Nat.le_of_add_le_add_right h
   rw[Int.natCast_mul,OE] at h';exact h'
end Kr
namespace Pm
abbrev It:=Int×List Nat
noncomputable def wt(X:List It):Int:=(X.map fun x=>x.1).sum
noncomputable def th(X:List It):List Nat:=X.flatMap fun x=>x.2
theorem dF(x:It)(X:List It):wt (x::X)=x.1+wt X:=by simp[wt]
theorem xM:wt []=0:=rfl
theorem wm(X Y:List It):wt (X++Y)=wt X+wt Y:=by simp[wt]
theorem uQ{a b:List Int}(h:a.Perm b):a.sum=b.sum:=by
 induction h with
 |nil=>rfl
 |cons x _ ih=>rw[Nw,Nw,ih]
 |swap x y l=>simp only[Nw];lia
 |trans _ _ h1 h2=>exact h1.trans h2
theorem Af{Y:List It}(h:X.Perm Y):wt X=wt Y:=uQ (h.map _)
theorem bj(x:It)(X:List It):th (x::X)=x.2++th X:=Mw ..
theorem gZ(X Y:List It):th (X++Y)=th X++th Y:=List.flatMap_append ..
theorem iS{Y:List It}(h:X.Perm Y):(th X).Perm (th Y):=by
 induction h with
 |nil=>exact .refl _
 |cons x _ ih=>rw[bj,bj];exact ih.append_left _
 |swap x y l =>
  rw[bj,bj,bj,bj,<- KH,<- KH];exact N7.append_right _
 |trans _ _ h1 h2=>exact h1.trans h2
theorem pick{a:α}{X:List α}(h:a∈X):∃ X',X.Perm (a::X'):=by
 obtain⟨s,t,rfl⟩:=List.append_of_mem h;exact⟨s++t,Lz⟩
theorem split:∀(A B X Y:List α),(A++B).Perm (X++Y)->∃ X1 X2 Y1 Y2,X.Perm (X1++X2)/\A.Perm (X1++Y1)/\B.Perm (X2++Y2)
 |[],B,X,Y,h=>⟨[],X,[],Y,.refl _,.refl _,h⟩
 |a::A,B,X,Y,h=>by
  rw[O1] at h;rcases KR.mp (h.mem_iff.mp KD) with m|m
  ·obtain⟨X',hX⟩:=pick m;have h2:(a::(A++B)).Perm (a::(X'++Y)):=h.trans (hX.append_right Y);obtain⟨X1,X2,Y1,Y2,p1,p2,p3⟩:=split A B X' Y h2.cons_inv;exact⟨a::X1,X2,Y1,Y2,hX.trans (p1.cons a),p2.cons a,p3⟩
  ·obtain⟨Y',hY⟩:=pick m;have h2:(a::(A++B)).Perm (a::(X++Y')):=(h.trans (hY.append_left X)).trans Lz;obtain⟨X1,X2,Y1,Y2,p1,p2,p3⟩:=split A B X Y' h2.cons_inv;exact⟨X1,X2,a::Y1,Y2,p1,(p2.cons a).trans Lz.symm,p3⟩
noncomputable def Up(A:List It):Prop:=A.Pairwise fun x y=>x.1<=y.1
theorem Cj(h:∀ x∈X,0<=x.1):0<=wt X:=by
 induction X with
 |nil=>exact M0 0
 |cons x X ih =>
  rw[dF];have:=h x KD;have:=ih fun y hy=>h y (K9 _ hy);lia
theorem fe:∀(A X Y:List It) (k:Nat),Up A->(∀ x∈A,0<=x.1)->A.Perm (X++Y)->k<=X.length->wt (A.take k)<=wt X
 |[],X,Y,k,_,_,h,hk=>by
  have e:X++Y=[]:=h.symm.eq_nil;have:X=[]:=(MR.mp e).1;subst this;simp[wt]
 |a::A,X,Y,0,_,hn,h,_=>by
  rw[List.take_zero,xM];exact Cj fun x hx=>hn x (h.mem_iff.mpr (KR.mpr (.inl hx)))
 |a::A,X,Y,k+1,hu,hn,h,hk=>by
  have hu2:=Ln.mp hu;have hn2:∀ x∈A,0<=x.1:=fun x hx=>hn x (K9 _ hx);rw[ME,dF];rcases KR.mp (h.mem_iff.mp KD) with m|m
  ·obtain⟨X',hX⟩:=pick m;have h2:(a::A).Perm (a::(X'++Y)):=h.trans (hX.append_right Y);have hl:=hX.length_eq;rw[K6] at hl;have:=fe A X' Y k hu2.2 hn2 h2.cons_inv (by lia)
   rw[Af hX,dF];lia
  ·obtain⟨Y',hY⟩:=pick m
   cases X with
   |nil=>simp at hk
   |cons x X' =>
    have h2:(a::A).Perm (a::(x::X'++Y')):=(h.trans (hY.append_left _)).trans Lz;have h3:=h2.cons_inv;have hx:x∈A:=h3.mem_iff.mpr (by simp)
    have:=hu2.1 x hx;have h4:A.Perm (X'++(x::Y')):=h3.trans (by rw[O1];exact Lz.symm)
    have:=fe A X' (x::Y') k hu2.2 hn2 h4 (by rw[K6] at hk;lia)
    rw[dF];lia
noncomputable def pk:List It->List It
 |a::b::r=>(a.1+b.1,a.2++b.2)::pk r
 |_=>[]
theorem p8:∀(A X Y:List It),(pk A).Perm (X++Y)->∃ X' Y',A.Perm (X'++Y')/\X'.length=2*X.length/\(th X').Perm (th X)
 |[],X,Y,h=>by
  have:X=[]:=(MR.mp h.symm.eq_nil).1;subst this;exact⟨[],[],.refl _,rfl,.refl _⟩
 |[a],X,Y,h=>by
  have:X=[]:=(MR.mp h.symm.eq_nil).1;subst this;exact⟨[],[a],.refl _,rfl,.refl _⟩
 |a::b::r,X,Y,h=>by
  unfold pk at h;rcases KR.mp (h.mem_iff.mp KD) with m|m
  ·obtain⟨X',hX⟩:=pick m;obtain⟨X2,Y2,p1,p2,p3⟩:=p8 r X' Y (h.trans (hX.append_right Y)).cons_inv;refine⟨a::b::X2,Y2,(p1.cons b).cons a,?_,?_⟩
   ·rw[hX.length_eq];simp only[K6];lia
   ·refine List.Perm.trans ?_ (iS hX).symm;rw[bj,bj,bj,<- KH];exact p3.append_left _
  ·obtain⟨Y',hY⟩:=pick m;obtain⟨X2,Y2,p1,p2,p3⟩:=p8 r X Y' ((h.trans (hY.append_left X)).trans Lz).cons_inv;exact⟨X2,a::b::Y2,(((p1.cons b).cons a).trans ((Lz (l₁:=X2) (l₂:=Y2) (a:=b)).symm.cons a)).trans Lz.symm,p2,p3⟩
theorem mq:∀ A:List It,(pk A).length=A.length / 2
 |[]=>rfl
 |[_]=>by simp[pk]
 |a::b::r=>by
  unfold pk;rw[K6,mq r];simp only[K6];lia
theorem rB:∀(A:List It) (p:Nat),(∀ x∈A,0<=x.1)->wt ((pk A).take p)<=wt (A.take (2*p))
 |[],p,_=>by simp[pk]
 |[a],p,h=>by
  have:=Cj (X:=[a].take (2*p)) fun x hx=>h x (NN hx)
  simpa[pk,xM] using this
 |a::b::r,0,_=>by simp
 |a::b::r,p+1,h=>by
  have:=rB r p fun x hx=>h x (by simp[hx])
  unfold pk;rw[show 2*(p+1)=2*p+1+1 by lia,ME,ME,ME,dF,dF,dF]
  show a.1+b.1+_<=_;lia
theorem Ce:∀{A:List It},(∀ x∈A,0<=x.1)->∀ x∈pk A,0<=x.1
 |[],_,x,h=>by cases h
 |[_],_,x,h=>by cases h
 |a::b::r,hn,x,h=>by
  unfold pk at h;rcases K4.mp h with e|e
  ·have:=hn a (by simp)
   have:=hn b (by simp)
   rw[e];show 0<=a.1+b.1;lia
  ·exact Ce (A:=r) (fun y hy=>hn y (by simp[hy])) x e
noncomputable def sN(f:Nat->Nat):Nat->Nat
 |0=>0
 |n+1=>sN f n+f n
noncomputable def sI(f:Nat->Int):Nat->Int
 |0=>0
 |n+1=>sI f n+f n
theorem h9(f g:Nat->Nat):∀ n,sN (fun i=>f i+g i) n=sN f n+sN g n
 |0=>rfl
 |n+1=>by simp only[sN,h9 f g n];lia
theorem lM(k:Nat)(f:Nat->Nat):∀ n,sN (fun i=>k*f i) n=k*sN f n
 |0=>rfl
 |n+1=>by simp only[sN,lM k f n];rw[Nat.mul_add]
theorem yJ{f g:Nat->Nat}:∀{n},(∀ i,i<n->f i<=g i)->sN f n<=sN g n
 |0,_=>K2 _
 |n+1,h=>by
  have:=yJ (n:=n) fun i hi=>h i (by lia)
  have:=h n (by lia)
  simp only[sN];lia
theorem cV{f g:Nat->Nat}:∀{n},(∀ i,i<n->f i=g i)->sN f n=sN g n
 |0,_=>rfl
 |n+1,h=>by simp only[sN];rw[cV (n:=n) fun i hi=>h i (by lia),h n (by lia)]
theorem qQ(f g:Nat->Int):∀ n,sI (fun i=>f i+g i) n=sI f n+sI g n
 |0=>rfl
 |n+1=>by simp only[sI,qQ f g n];lia
theorem fz{f g:Nat->Int}:∀{n},(∀ i,i<n->f i=g i)->sI f n=sI g n
 |0,_=>rfl
 |n+1,h=>by simp only[sI];rw[fz (n:=n) fun i hi=>h i (by lia),h n (by lia)]
theorem mi:∀ n,sN (fun _=>0) n=0
 |0=>rfl
 |n+1=>by simp only[sN,mi n]
theorem lG:∀ n,sI (fun _=>0) n=0
 |0=>rfl
 |n+1=>by simp only[sI,lG n];rfl
theorem ml(x:Nat):∀ n,sN (fun i=>if x=i then 1 else 0) n=if x<n then 1 else 0
 |0=>rfl
 |n+1=>by
  simp only[sN,ml x n];by_cases h:x<n
  ·rw[Kz h,Kx (by lia),Kz (by lia)]
  ·by_cases h2:x=n
   ·rw[Kx h,Kz h2,Kz (by lia)]
   ·rw[Kx h,Kx h2,Kx (by lia)]
theorem xb(c:Nat->Int)(x:Nat):∀ n,sI (fun i=>if x=i then c i else 0) n=if x<n then c x else 0
 |0=>rfl
 |n+1=>by
  simp only[sI,xb c x n];by_cases h:x<n
  ·rw[Kz h,Kx (by lia),Kz (by lia)];lia
  ·by_cases h2:x=n
   ·subst h2;rw[Kx h,Kz rfl,Kz (by lia)];lia
   ·rw[Kx h,Kx h2,Kx (by lia)];rfl
theorem iu(i x:Nat)(l:List Nat):(x::l).count i=l.count i+if x=i then 1 else 0:=by
 rw[NO];by_cases h:x=i<;>simp[h]
theorem oM{n:Nat}:∀{l:List Nat},(∀ x∈l,x<n)->sN (fun i=>l.count i) n=l.length
 |[],_=>by simp[mi]
 |x::l,h=>by
  have e:=oM (n:=n) (l:=l) fun y hy=>h y (K9 _ hy);rw[cV (g:=fun i=>l.count i+if x=i then 1 else 0) fun i _=>iu i x l,h9,e,ml,Kz (h x KD),K6]
theorem oH{n:Nat}{c:Nat->Int}:∀{l:List Nat},(∀ x∈l,x<n)->(l.map c).sum=sI (fun i=>c i*(l.count i:Int)) n
 |[],_=>by simp[lG]
 |x::l,h=>by
  have e:=oH (n:=n) (c:=c) (l:=l) fun y hy=>h y (K9 _ hy);rw[fz (g:=fun i=>c i*(l.count i:Int)+if x=i then c i else 0) fun i _=>?_,qQ,<- e,xb,Kz (h x KD),KN,Nw]
  ·lia
  ·rw[iu];by_cases z:x=i
   ·rw[Kz z,Kz z,Int.natCast_add,OO];simp
   ·rw[Kx z,Kx z];simp
section
variable (c:Nat->Int) (n:Nat)
noncomputable def coins:List It:=(List.range n).map fun i=>(c i,[i])
noncomputable def Fl(l:List It):List It:=fM (l.map fun x=>x.1) l
noncomputable def shelf:Nat->List It
 |0=>[]
 |d+1=>Fl (coins c n++pk (shelf d))
end
theorem ee(l:List It):(Fl l).Perm l:=yE (by rw[K3])
theorem m8:∀(l:List It) (p:Int×It),p∈(l.map fun x=>x.1).zip l->p.1=p.2.1
 |[],p,h=>by cases h
 |x::l,p,h=>by
  rw[KN,List.zip_cons_cons] at h;rcases K4.mp h with e|e
  ·rw[e]
  ·exact m8 l p e
theorem Eo(l:List It):Up (Fl l):=by
 unfold Fl fM Up;rw[List.pairwise_map];refine (jS ((l.map fun x=>x.1).zip l)).imp_of_mem fun {a b} ha hb h=>?_;rw[<- m8 l a ((d6 _).mem_iff.mp ha),<- m8 l b ((d6 _).mem_iff.mp hb)];exact h
variable {c:Nat->Int} {n:Nat}
theorem wD:∀ d,Up (shelf c n d)
 |0=>List.Pairwise.nil
 |d+1=>Eo _
theorem jg(hc:∀ i,i<n->0<=c i):∀ d,∀ x∈shelf c n d,0<=x.1
 |0,x,h=>by cases h
 |d+1,x,h=>by
  rcases KR.mp ((ee _).mem_iff.mp h) with m|m
  ·obtain⟨i,hi,rfl⟩:=Lm.mp m;exact hc i (Mj.mp hi)
  ·exact Ce (jg hc d) x m
noncomputable def Wd(c:Nat->Int)(n:Nat)(x:It):Prop:=x.1=(x.2.map c).sum/\∀ i∈x.2,i<n
theorem Ci:∀{A:List It},(∀ x∈A,Wd c n x)->∀ x∈pk A,Wd c n x
 |[],_,x,h=>by cases h
 |[_],_,x,h=>by cases h
 |a::b::r,hn,x,h=>by
  unfold pk at h;rcases K4.mp h with e|e
  ·have h1:=hn a (by simp)
   have h2:=hn b (by simp)
   rw[e];refine⟨?_,fun i hi=>?_⟩
   ·show a.1+b.1=_;rw[h1.1,h2.1,KI,NP]
   ·rcases KR.mp hi with z|z
    ·exact h1.2 i z
    ·exact h2.2 i z
  ·exact Ci (A:=r) (fun y hy=>hn y (by simp[hy])) x e
theorem nA:∀ d,∀ x∈shelf c n d,Wd c n x
 |0,x,h=>by cases h
 |d+1,x,h=>by
  rcases KR.mp ((ee _).mem_iff.mp h) with m|m
  ·obtain⟨i,hi,rfl⟩:=Lm.mp m;exact⟨by simp,fun j hj=>by rw[KC.mp hj];exact Mj.mp hi⟩
  ·exact Ci (nA d) x m
theorem CG:∀{X:List It},(∀ x∈X,Wd c n x)->wt X=((th X).map c).sum/\∀ i∈th X,i<n
 |[],_=>⟨rfl,fun i h=>by cases h⟩
 |x::X,h=>by
  obtain⟨h1,h2⟩:=CG (X:=X) fun y hy=>h y (K9 _ hy);have h3:=h x KD;rw[dF,bj,KI,NP,h1,h3.1];exact⟨rfl,fun i hi=>(KR.mp hi).elim (h3.2 i) (h2 i)⟩
theorem nE:th (coins c n)=List.range n:=by
 unfold th coins;rw[List.flatMap_map];generalize List.range n=l
 induction l with
 |nil=>rfl
 |cons x l ih=>rw[Mw,ih];rfl
theorem zh{C Y:List It}(h:(coins c n).Perm (C++Y)):(∀ i,(th C).count i<=1)/\(th C).length=C.length/\∀ i∈th C,i<n:=by
 have h1:(List.range n).Perm (th C++th Y):=by rw[<- gZ,<- nE (c:=c)];exact iS h
 have hm:∀ x∈C,∃ i,x.2=[i]:=fun x hx=>by
  obtain⟨i,_,e⟩:=Lm.mp (h.mem_iff.mpr (KR.mpr (.inl hx)));exact⟨i,by rw[<- e]⟩
 refine⟨fun i=>?_,?_,fun i hi=>Mj.mp (h1.mem_iff.mpr (KR.mpr (.inl hi)))⟩
 ·have h2:=h1.count_eq i;rw[List.count_append] at h2;have h3:(List.range n).count i<=1:=List.nodup_iff_count.mp List.nodup_range i;lia
 ·clear h h1
  induction C with
  |nil=>rfl
  |cons x C ih =>
   obtain⟨i,e⟩:=hm x KD;rw[bj,e,K0,K6,K6,ih fun y hy=>hm y (K9 _ hy)]
   simp;lia
theorem sR(a b D:Nat):(a+b)*2^(D+1)=2*(2^D*a)+2*b*2^D:=by
 rw[Mf];generalize 2^D=x;have h1:a*(x*2)=2*(x*a):=by rw[Nf a,Nf x 2,Mh]
 have h2:b*(x*2)=2*b*x:=by rw[Nf x 2,<- Mh,Nf b 2]
 rw[Nat.add_mul,h1,h2]
theorem two_split{a:Nat}(h:a<=D):2^(D+1-a)=2*2^(D-a):=by
 rw[show D+1-a=(D-a)+1 by lia,Mf];lia
theorem worth:∀(D:Nat) (X Y:List It),(shelf c n D).Perm (X++Y)->(∀ i,(th X).count i<=D)/\X.length*2^D<=2*sN (fun i=>2^D-2^(D-(th X).count i)) n
 |0,X,Y,h=>by
  have:X=[]:=(MR.mp h.symm.eq_nil).1;subst this;exact⟨fun i=>K2 0,by simp⟩
 |D+1,X,Y,h=>by
  obtain⟨C,P,Y1,Y2,p1,p2,p3⟩:=split _ _ X Y ((ee _).symm.trans h);obtain⟨X',Y',q1,q2,q3⟩:=p8 _ _ _ p3;obtain⟨i1,i2⟩:=worth D X' Y' q1;obtain⟨c1,c2,c3⟩:=zh p2;have e:∀ i,(th X).count i=(th C).count i+(th X').count i:=fun i=>by
   rw[(iS p1).count_eq,gZ,List.count_append,q3.count_eq]
  have hl:X.length=C.length+P.length:=by rw[p1.length_eq,K0]
  refine⟨fun i=>by rw[e];have:=c1 i;have:=i1 i;lia,?_⟩
  have key:sN (fun i=>2^D*(th C).count i+(2^D-2^(D-(th X').count i))) n<=sN (fun i=>2^(D+1)-2^(D+1-(th X).count i)) n:=yJ fun i _=>by
   have a1:=c1 i;have a2:=i1 i;have a3:2^(D-(th X').count i)<=2^D:=LM (by decide) (OZ _ _)
   have a4:2^(D+1)=2*2^D:=by rw[Mf];lia
   rw[e i];rcases Nk ((th C).count i) with z|z
   ·rw[z,Nh,two_split a2,a4];lia
   ·rw[show (th C).count i=1 by lia,show D+1-(1+(th X').count i)=D-(th X').count i by lia,a4];lia
  rw[h9,lM,oM c3,c2] at key;rw[q2] at i2;rw[hl,sR];lia
theorem least(hc:∀ i,i<n->0<=c i):∀(D:Nat) (l:Nat->Nat),(∀ i,i<n->l i<=D)->∀ k,k*2^D<=2*sN (fun i=>2^D-2^(D-l i)) n->k<=(shelf c n D).length/\wt ((shelf c n D).take k)<=sI (fun i=>c i*(l i:Int)) n
 |0,l,hl,k,hk=>by
  have e:sN (fun i=>2^0-2^(0-l i)) n=0:=by
   rw[cV (g:=fun _=>0) fun i hi=>?_,mi];rw[show l i=0 by have:=hl i hi;lia]
  rw[e] at hk;have hk0:k=0:=by simpa using hk
  subst hk0;refine⟨KY _,?_⟩;rw[fz (g:=fun _=>0) fun i hi=>?_,lG]
  ·exact M0 0
  ·rw[show l i=0 by have:=hl i hi;lia];simp
 |D+1,l,hl,k,hk=>by
  have cz:∀ m,m<=n->∃ C Y:List It,(coins c m).Perm (C++Y)/\wt C=sI (fun i=>if 1<=l i then c i else 0) m/\C.length=sN (fun i=>if 1<=l i then 1 else 0) m:=fun m=>by
   induction m with
   |zero=>exact fun _=>⟨[],[],.refl _,rfl,rfl⟩
   |succ m ih =>
    intro hm;obtain⟨C,Y,h1,h2,h3⟩:=ih (by lia)
    have e:coins c (m+1)=coins c m++[(c m,[m])]:=by unfold coins;rw[MM,KI];rfl
    by_cases z:1<=l m
    ·refine⟨C++[(c m,[m])],Y,?_,?_,?_⟩
     ·rw[e];refine (h1.append_right _).trans ?_;rw[KH,KH];exact N7.append_left C
     ·rw[wm,h2];simp only[sI,Kz z];simp[wt]
     ·rw[K0,h3];simp only[sN,Kz z];rfl
    ·refine⟨C,Y++[(c m,[m])],?_,?_,?_⟩
     ·rw[e,<- KH];exact h1.append_right _
     ·rw[h2];simp only[sI,Kx z];lia
     ·rw[h3];simp only[sN,Kx z];lia
  obtain⟨C,Y,h1,h2,h3⟩:=cz n (K2 _);have eV:2*sN (fun i=>2^(D+1)-2^(D+1-l i)) n=2*(2^D*C.length)+2*sN (fun i=>2^D-2^(D-(l i-1))) n:=by
   rw[h3,<- lM (2^D),<- Nat.mul_add,<- h9];congr 1;refine cV fun i hi=>?_;have a4:2^(D+1)=2*2^D:=by rw[Mf];lia
   by_cases z:1<=l i
   ·have a3:2^(D-(l i-1))<=2^D:=LM (by decide) (OZ _ _)
    rw[Kz z,show D+1-l i=D-(l i-1) by lia,a4];lia
   ·rw[Kx z,show l i=0 by lia,Nj,Nat.zero_sub,Nj];simp
  rw[eV] at hk;have hk2:2*(k-C.length)*2^D<=2*sN (fun i=>2^D-2^(D-(l i-1))) n:=by
   rcases Pp k C.length with z|z
   ·rw[Nat.sub_eq_zero_of_le z];simp
   ·obtain⟨j,rfl⟩:=Nat.le.dest z;rw[O7];rw[sR] at hk;lia
  obtain⟨g1,g2⟩:=least hc D (fun i=>l i-1) (fun i hi=>by have:=hl i hi;lia) _ hk2
  have nn:=jg hc D;have hp:=rB (shelf c n D) (k-C.length) nn;have hpl:((pk (shelf c n D)).take (k-C.length)).length=k-C.length:=by
   rw[Ld,mq];lia
  have hX:(shelf c n (D+1)).Perm ((C++(pk (shelf c n D)).take (k-C.length))++(Y++(pk (shelf c n D)).drop (k-C.length))):=by
   refine (ee _).trans ((h1.append_right _).trans ?_);rw[KH,KH];refine OW C ?_;have:pk (shelf c n D)=(pk (shelf c n D)).take (k-C.length)++(pk (shelf c n D)).drop (k-C.length):=(LG _ _).symm;refine List.Perm.trans (l₂:=Y++((pk (shelf c n D)).take (k-C.length)++(pk (shelf c n D)).drop (k-C.length))) (by rw[<- this]) ?_
   rw[<- KH,<- KH];exact N7.append_right _
  have hlen:k<=(C++(pk (shelf c n D)).take (k-C.length)).length:=by rw[K0,hpl];lia
  have hmin:=fe _ _ _ k (wD (D+1)) (jg hc (D+1)) hX hlen;refine⟨by rw[hX.length_eq,K0];lia,?_⟩
  rw[wm,h2] at hmin;have e:sI (fun i=>c i*(l i:Int)) n=sI (fun i=>if 1<=l i then c i else 0) n+sI (fun i=>c i*((l i-1:Nat):Int)) n:=by
   rw[<- qQ];refine fz fun i hi=>?_;by_cases z:1<=l i
   ·rw[Kz z];obtain⟨j,hj⟩:=Nat.le.dest z;rw[<- hj,O7,Int.natCast_add,OO];simp
   ·rw[Kx z,show l i=0 by lia];simp
  rw[e];lia
theorem jx{l:Nat->Nat}(hl:∀ i,i<n->l i<=D):sN (fun i=>2^D-2^(D-l i)) n+sN (fun i=>2^(D-l i)) n=n*2^D:=by
 rw[<- h9,cV (g:=fun _=>2^D) fun i _=>?_]
 ·clear hl
  induction n with
  |zero=>simp[sN]
  |succ n ih=>simp only[sN,ih];rw[Mq]
 ·exact Nat.sub_add_cancel (LM (by decide) (OZ _ _))
noncomputable def fT(c:Nat->Int)(n D i:Nat):Nat:=(th ((shelf c n D).take (2*n-2))).count i
theorem Ar(hc:∀ i,i<n->0<=c i){D:Nat}(hn:2<=n)(hD:n<=2^D):
  (∀ i,fT c n D i<=D)/\(∀ i,i<n->1<=fT c n D i)/\sN (fun i=>2^(D-fT c n D i)) n<=2^D/\wt ((shelf c n D).take (2*n-2))=sI (fun i=>c i*(fT c n D i:Int)) n:=by
 have hp:(shelf c n D).Perm ((shelf c n D).take (2*n-2)++(shelf c n D).drop (2*n-2)):=by rw[LG]
 obtain⟨w1,w2⟩:=worth D _ _ hp;have hk:(2*n-2)*2^D<=2*sN (fun _=>2^D-2^(D-D)) n:=by
  have this:sN (fun _=>2^D-2^(D-D)) n+sN (fun _=>2^(D-D)) n=n*2^D:=jx (n:=n) (D:=D) (l:=fun _=>D) fun _ _=>K2 _;have e:∀ m,sN (fun _=>2^(D-D)) m=m:=fun m=>by
   rw[cV (g:=fun _=>1) fun i _=>by simp]
   induction m with
   |zero=>rfl
   |succ n ih=>simp only[sN,ih]
  rw[e] at this;clear e;have h2:(2*n-2)*2^D=2*(n*2^D)-2*2^D:=by rw[Nat.sub_mul,Mh]
  rw[h2];lia
 have hlen:=(least hc D (fun _=>D) (fun _ _=>K2 _) _ hk).1;have e1:((shelf c n D).take (2*n-2)).length=2*n-2:=by rw[Ld];lia
 rw[e1] at w2;have w3:=jx (n:=n) (D:=D) (l:=fT c n D) fun i _=>w1 i;have w2':(2*n-2)*2^D<=2*sN (fun i=>2^D-2^(D-fT c n D i)) n:=w2;have h2:(2*n-2)*2^D=2*(n*2^D)-2*2^D:=by rw[Nat.sub_mul,Mh]
 have hks:sN (fun i=>2^(D-fT c n D i)) n<=2^D:=by
  have:n*2^D >= 1*2^D:=Mz _ (by lia)
  lia
 refine⟨w1,fun i hi=>?_,hks,?_⟩
 ·rcases Nk (fT c n D i) with z|z
  ·exfalso
   have hpos:∀ j,1<=2^(D-fT c n D j):=fun j=>Nr (by decide)
   obtain⟨j,hj,hji⟩:∃ j,j<n/\j≠i:=if h:i=0 then ⟨1,by lia,by lia⟩ else ⟨0,by lia,by lia⟩
   have:sN (fun k=>(if i=k then 2^D else 0)+if j=k then 1 else 0) n<=sN (fun i=>2^(D-fT c n D i)) n:=yJ fun k hk=>by
    by_cases a:i=k
    ·subst a;rw[Kz rfl,Kx hji,z];simp
    ·rw[Kx a];have:=hpos k;by_cases b:j=k
     ·rw[Kz b];lia
     ·rw[Kx b];lia
   rw[h9,ml,Kz hj] at this;have e:sN (fun k=>if i=k then 2^D else 0) n=2^D:=by
    rw[cV (g:=fun k=>2^D*if i=k then 1 else 0) fun k _=>by by_cases a:i=k<;>simp[a],lM,ml,Kz hi,Nat.mul_one]
   rw[e] at this;lia
  ·exact z
 ·have hw:=CG (X:=(shelf c n D).take (2*n-2)) fun x hx=>nA (c:=c) (n:=n) D x (NN hx);rw[hw.1,oH hw.2];rfl
theorem pF(hc:∀ i,i<n->0<=c i)(hn:1<=n){l:Nat->Nat}(hl:∀ i,i<n->l i<=D)(hk:sN (fun i=>2^(D-l i)) n<=2^D):wt ((shelf c n D).take (2*n-2))<=sI (fun i=>c i*(l i:Int)) n:=by
 refine (least hc D l hl (2*n-2) ?_).2;have:=jx hl;have h2:(2*n-2)*2^D=2*(n*2^D)-2*2^D:=by rw[Nat.sub_mul,Mh]
 rw[h2];lia
end Pm
noncomputable def cF(s:T):Prop:=∃ n f c m:Int,s=.lst [.int n,.int f,.int c,.int m]
noncomputable def iC:eZ:=fun args Q=>∃(s:T) (k:Int),args=[s,.int k]/\cF s/\0<k/\k<2^30/\∀(v:Int) (s':T),cF s'->0<=v->v<k->Q (.tr (.int v)) [s']
abbrev k0z(P w K mg base):=aj P w K mg base aV 1 "_law_draw" ["seed","most"] (spT K [true,false] iC)
theorem z_(T:Txt K mg)(F:HasFn K mg "_law_draw" dC ["seed","most"]):k0z P w K mg base:=by
 refine F.jJ dh [true,false] rfl (by decide) (fun args Qt hl h f cdv A outer s H E hr=>?_)
 have hu:=aR hr;obtain⟨sd,k,rfl,⟨n,fl,c,m,rfl⟩,k0,k1,q⟩:=h;refine⟨_,(Y.af (Y.asg (Y.op (Y.aJ K rfl) Y.aI (Y.ix (Y.bp K rfl) Y.aA (Y.vS 0) Y.int) Y.int) (Y.oI (Y.vS 0) Y.int))
   (Y.af (Y.e9 (Y.tw (Y.wA (Y.aZ (Y.cu K rfl (Lb hu)) Y.dI (Y.ix (Y.bp K rfl) Y.aA (Y.vS 0) Y.int) Y.int) (Y.mJ (Y.aZ zu Y.cC (Y.ix (Y.bp K rfl) Y.aA (Y.vS 0) Y.int) Y.int)))) (Y.af (Y.set (i:=2) dh.nd rfl (by right) (Y.op dO Y.cg (Y.ix (Y.bp K rfl) Y.aA (Y.vS 0) Y.int) (Y.vS 1)))
   (Y.af (Y.asg (Y.op Y.ji Y.cg (Y.ix (Y.bp K rfl) Y.aA (Y.vS 0) Y.int) (Y.vS 1)) (Y.oI (Y.vS 0) Y.int))
   (Y.az (Y.ret (Y.vS 2))))) Y.bG)
   (Y.af (Y.set (i:=3) dh.nd rfl (by right) (Y.op dO Y.cg (Y.op (Y.dB K rfl) Y.cL (Y.op (Y.aJ K rfl) Y.aI (Y.op (Y.aJ K rfl) Y.aI (Y.ix (Y.bp K rfl) Y.aA (Y.vS 0) Y.int) (Y.op (Y.dB K rfl) Y.cL Y.int (Y.ix (Y.bp K rfl) Y.aA (Y.vS 0) Y.int))) Y.int) Y.int) Y.int))
   (Y.af (Y.set (i:=3) dh.nd rfl (by right) (Y.op dO Y.cg (Y.op (Y.dB K rfl) Y.cL (Y.op dO Y.cg (Y.op (Y.dB K rfl) Y.cL (Y.vS 3) (Y.vS 3)) Y.int) Y.int) Y.int))
   (Y.az (Y.ret (Y.op dO Y.cg (Y.op Y.ji Y.cg (Y.vS 3) Y.int) (Y.vS 1)))))))),?_⟩
 have fin:∀ v n c:Int,Qt (.tr (.int (v % k))) [.lst [.int n,.int fl,.int c,.int m]]:=fun v n c=>q _ _ ⟨_,_,_,_,rfl⟩ (Int.emod_nonneg _ (by lia)) (Int.emod_lt_of_pos _ k0)
 have x0:jT 4 0=some 0:=by decide
 have x2:jT 4 2=some 2:=by decide
 refine aB fun N hN=>?_;exists x2;symm;exists x0;by_cases h1:fl=1
 ·by_cases h2:0<n
  ·exists Kz h1,Kz h2;refine aB fun M hM=>?_;rfl';refine⟨k0,?_⟩;refine hM _ ?_;clear hM M;refine aB fun M hM=>?_;exists x0;refine⟨⟨k0,by lia⟩,?_⟩
   refine hM _ ?_;clear hM M;rfl';exact fin _ _ _
  ·exists Kz h1,Kx h2;ac_rfl;have m1:∀ a:Int,0<=a % 2147483647/\a % 2147483647<2147483647:=fun a=>⟨by lia,by lia⟩
   refine aB fun N hN=>?_;rfl';refine⟨.inl (by decide),.inr (by decide),by decide,?_⟩
   symm;rfl';refine⟨.inl ⟨by have:=m1 ((m+7127*(c+1)+17)*48271);lia,by have:=m1 ((m+7127*(c+1)+17)*48271);lia⟩,by decide,.inr (by decide),by decide,?_⟩
   ac_rfl;rfl';exact⟨⟨by decide,by decide⟩,k0,fin _ _ _⟩
 ·exists Kx h1;ac_rfl;have m1:∀ a:Int,0<=a % 2147483647/\a % 2147483647<2147483647:=fun a=>⟨by lia,by lia⟩
  refine aB fun N hN=>?_;rfl';refine⟨.inl (by decide),.inr (by decide),by decide,?_⟩
  symm;rfl';refine⟨.inl ⟨by have:=m1 ((m+7127*(c+1)+17)*48271);lia,by have:=m1 ((m+7127*(c+1)+17)*48271);lia⟩,by decide,.inr (by decide),by decide,?_⟩
  ac_rfl;rfl';exact⟨⟨by decide,by decide⟩,k0,fin _ _ _⟩
noncomputable def nI:List Int->List L2.T:=List.map L2.T.int
theorem aU(xs:List Int):(nI xs).length=xs.length:=K3 ..
theorem jQ(xs ys:List Int):nI (xs++ys)=nI xs++nI ys:=KI
theorem BX{xs:List Int}{i:Int}{v:Int}(h:bC xs i=some v):bC (nI xs) i=some (.int v):=by
 unfold bC at h ⊢;unfold nI;rw[K3]
 cases e:jT xs.length i with
 |none=>rw[e] at h;cases h
 |some j=>rw[e] at h;have h':xs[j]?=some v:=h;show (List.map L2.T.int xs)[j]?=_;rw[KL,h'];rfl
theorem Az(xs:List Int)(a b:Option Int):Y.bB (nI xs) a b=nI (Y.bB xs a b):=by
 unfold Y.bB nI;rw[K3,MJ,Og]
noncomputable def DG(ls:List Int):Prop:=0<ls.length/\ls.length<=20/\∀ x∈ls,1<=x/\x<=40
noncomputable def KS(ls:List Int):Nat:=Kr.ks 40 (ls.map Int.toNat)
noncomputable def o_(ls:List Int):Bool:=decide (KS ls<=2^40)
noncomputable def CH:eZ:=fun args Q=>∃ c:Int,args=[.int c]/\∀ s,cF s->Q (.fr s) []
theorem zY(T:Txt K mg)(F:HasFn K mg "_law_seed" dJ ["cell"]):aj P w K mg base aV 1 "_law_seed" ["cell"] (spT K [false] CH):=by
 refine F.jJ gW [false] rfl (by decide) (fun args Qt hl h f cdv A outer s H E hr=>?_)
 have hu:=aR hr;obtain⟨c,rfl,q⟩:=h;refine⟨_,(Y.af (Y.set (i:=1) gW.nd rfl (by right) (Y.cb (g_ rfl) Y.qj rfl T.rE (by decide +kernel) (Y.cons (Y.vS 0) (Y.cons (Y.op b_ Y.bV Y.int (Y.vS 0)) Y.nil))))
   (Y.az (Y.ret (Y.lst (Y.cons (Y.vS 1) (Y.cons (Y.ct tY Y.DS rfl T.Cc (by decide +kernel) (Y.cons (Y.cmp rJ Y.cC (Y.vS 1) (Y.op xm Y.cg Y.int Y.int)) Y.nil)) (Y.cons Y.int (Y.cons (Y.op dO Y.cg (Y.vS 0) Y.int) Y.nil)))))))),?_⟩
 refine aB fun N hN=>?_;rfl';ac_rfl;rfl';exact⟨⟨by decide,by decide,by decide⟩,by decide,by decide,q _ ⟨_,_,_,_,rfl⟩⟩
noncomputable def vI:eZ:=fun args Q=>∃(ns:List Int) (m:Nat),args=[.dW (nI ns),.int (m:Int)]/\m<=20/\∀ ms,Q (.fr (.lst (nI ms))) []
abbrev k9z(P w K mg base):=aj P w K mg base aV 1 "_law_cells" ["script","many"] (spT K [false,false] vI)
theorem xx(T:Txt K mg)(F:HasFn K mg "_law_cells" c_ ["script","many"]):k9z P w K mg base:=by
 refine F.jJ kf [false,false] rfl (by decide) (fun args Qt hl h f cdv A outer s H E hr=>?_)
 have hu:=aR hr;obtain⟨ns,m,rfl,hm,q⟩:=h;refine⟨_,(Y.az (Y.ret (Y.op (Y.aJ K rfl) Y.aI (Y.fq K rfl (Y.vS 0) Y.zC (Y.zB (Y.vS 1))) (Y.lst (Y.cons (Y.cb (Y.aX K rfl) Y.bS rfl T.cU (by decide +kernel) (Y.cons (Y.vS 0) Y.nil)) Y.nil))))),?_⟩
 have e0:∀ n:Int,nI (Y.bB ns none (some (m:Int)))++[L2.T.int n]=nI (Y.bB ns none (some (m:Int))++[n]):=fun n=>by rw[jQ];rfl
 have e1:(Y.bB ns none (some (m:Int))).length<=20:=by
  unfold Y.bB;rw[HT.fC,HT.gR,Ld];lia
 exists Az,aU,e0;refine⟨by decide,?_,q _⟩
 exact KG (show _<=100 by lia) (by decide)
noncomputable def FT:eZ:=fun args Q=>∃ ls:List Int,args=[.tup (nI ls)]/\DG ls/\Q (.tr (.bl (o_ ls))) []
noncomputable def CJ:eZ:=fun args Q=>∃(c:L2.T) (ls:List Int),args=[c]/\(c=.tup (nI ls)\/c=.lst (nI ls))/\DG ls/\Q (.tr (.bl (o_ ls))) []
theorem DD(T:Txt K mg)(F:HasFn K mg "can_be" gU ["lengths"]):aj P w K mg base aV 1 "can_be" ["lengths"] (spT K [false] CJ):=by
 refine F.jJ bP [false] rfl (by decide) (fun args Qt hl h f cdv A outer s H E hr=>?_)
 have hu:=aR hr;obtain⟨c,ls,rfl,hc,hL,q⟩:=h;have hlen:pf c=Ou.ok (.tr (.int (ls.length:Int))):=by rcases hc with rfl|rfl<;>(rw[<- aU ls];rfl)
 have hsrt:∀(μ:Mu) (Q:R->Mu->Prop),Y.yw c μ Q=(∃ ns:List Int,nI ls=ns.map L2.T.int/\ns.length<64/\∀ ns':List Int,ns'.Perm ns->ns'.Pairwise (·<=·)->Q (.fr (.lst (ns'.map L2.T.int))) μ):=fun μ Q=>by rcases hc with rfl|rfl<;>rfl
 refine⟨_,(Y.af (Y.set (i:=1) bP.nd rfl (by right) Y.int)
   (Y.af (Y.set (i:=2) bP.nd rfl (by right) Y.int)
   (Y.af (Y.set (i:=3) bP.nd rfl (by right) (Y.cb (Y.aX K rfl) Y.bS rfl T.cU (by decide +kernel) (Y.cons (Y.vS 0) Y.nil)))
   (Y.af (Y.h_ Lk rfl (Y.anyS K rfl (Y.cb (Y.p9 K rfl) Y.wL rfl T.jf (by decide +kernel) (Y.cons (Y.vS 0) Y.nil))) (Y.aO (i:=4) bP.nd rfl (by right)) (Y.af (Y.e9 (Y.aZ (Y.cu K rfl (Lb hu)) Y.dI (Y.vS 1) Y.int) (Y.az (Y.ret Y.bl)) Y.bG)
   (Y.af (Y.ic Lk (Y.tw (Y.wA (Y.aZ dE Y.cC (Y.vS 2) (Y.vS 4)) (Y.mJ (Y.aZ dE Y.cC (Y.vS 1) (Y.vS 3))))) (Y.af (Y.set (i:=1) bP.nd rfl (by right) (Y.op (Y.dB K rfl) Y.cL (Y.vS 1) Y.int))
   (Y.az (Y.set (i:=2) bP.nd rfl (by right) (Y.op (Y.aJ K rfl) Y.aI (Y.vS 2) Y.int)))))
   (Y.af (Y.e9 (Y.aZ rJ Y.cC (Y.vS 1) (Y.vS 3)) (Y.az (Y.ret Y.bl)) Y.bG)
   (Y.af (Y.set (i:=1) bP.nd rfl (by right) (Y.op b_ Y.bV (Y.vS 1) Y.int))
   (Y.az (Y.set (i:=3) bP.nd rfl (by right) (Y.op b_ Y.bV (Y.vS 3) Y.int))))))))
   (Y.az (Y.ret Y.bl)))))),?_⟩
 refine aB fun N hN=>?_;rfl';symm;rfl';symm;exists hlen;symm;exists hsrt;refine⟨ls,rfl,by have:=hL.2.1;lia,fun rs hp hs=>?_⟩
 refine di (fun rest μ=>∃(r:List Int) (f d n:Int) (s4:Option L2.T),rest=nI r/\r.Pairwise (·<=·)/\(∀ x∈r,1<=x/\x<=40/\d<=x)/\0<=f/\0<=d/\n=r.length/\(o_ ls=true ↔ Kr.fit (r.map Int.toNat) f.toNat d.toNat 40)/\μ=[.tr c,.tr (.int f),.tr (.int d),.tr (.int n),sl s4])
  ⟨rs,1,0,_,none,rfl,hs,fun x hx=>by have:=hL.2.2 x (hp.mem_iff.mp hx);lia,by decide,by decide,by rw[hp.length_eq],?_,rfl⟩ ?_ ?_
 ·unfold o_ KS Kr.fit;rw[decide_eq_true_eq,Kr.fE (hp.map Int.toNat),show (1:Int).toNat*2^(40-(0:Int).toNat)=2^40 from rfl]
 ·rintro μ ⟨r,f,d,n,s4,e,_,_,_,_,_,hi,rfl⟩
  cases r with
  |cons=>cases e
  |nil =>
   show N _;ac_rfl;rfl';have:o_ ls=true:=hi.mpr (KY _);rw[this] at q;exact q
 ·rintro t ts μ M ⟨r,f,d,n,s4,e,hs,hx,f0,d0,hn,hi,rfl⟩ k
  cases r with
  |nil=>cases e
  |cons l r =>
   cases e;obtain⟨hl1,hl2,hl3⟩:=hx l (by simp)
   have hle:∀ x∈r,l<=x:=(Ln.mp hs).1;rfl';refine aB fun M' hM=>?_;by_cases hf:f=0
   ·exists Kz hf;have:o_ ls=false:=by
     cases c:o_ ls with
     |false=>rfl
     |true=>have:=hi.mp c;rw[hf] at this;exact absurd this Kr.wC
    rw[this] at q;exact q
   ·exists Kx hf;refine hM _ ?_;clear hM M';refine aB fun M' hM=>?_;have after:∀ f d:Int,0<f->0<=d->d<=l->(d=l\/n<=f)->(o_ ls=true ↔ Kr.fit ((l::r).map Int.toNat) f.toNat d.toNat 40)->M' [.tr c,.tr (.int f),.tr (.int d),.tr (.int n),.tr (.int l)]:=fun f d f0 d0 dl hc hi=>by
     refine hM _ ?_;clear hM M';refine aB fun M' hM=>?_;by_cases h3:n<=f
     ·exists Kz h3;have:o_ ls=true:=hi.mpr (Kr.pY (fun x hx=>by
       obtain⟨y,hy,rfl⟩:=Lm.mp hx;rcases K4.mp hy with rfl|hy
       ·lia
       ·have:=hle y hy;lia) (by rw[K3];lia))
      rw[this] at q;exact q
     ·exists Kx h3;refine hM _ ?_;clear hM M';refine aB fun M' hM=>?_;rfl';refine hM _ ?_;clear hM M';rfl';have hd:d=l:=hc.resolve_right h3;subst hd;refine k _ ⟨r,f-1,d,n-1,some _,rfl,(Ln.mp hs).2,fun x hx'=>⟨(hx x (by simp[hx'])).1,(hx x (by simp[hx'])).2.1,hle x hx'⟩,by lia,d0,by rw[hn,K6];lia,?_,rfl⟩
      rw[hi,KN,Kr.y3 (by lia),show (f-1).toNat=f.toNat-1 by lia]
    refine⟨fun m μ=>∃ f d:Int,0<f/\0<=d/\d<=l/\m=(l-d).toNat/\(o_ ls=true ↔ Kr.fit ((l::r).map Int.toNat) f.toNat d.toNat 40)/\μ=[.tr c,.tr (.int f),.tr (.int d),.tr (.int n),.tr (.int l)],⟨_,f,d,by lia,d0,hl3,rfl,hi,rfl⟩,?_⟩
    rintro m μ ⟨f,d,f0,d0,dl,rfl,hi,rfl⟩;by_cases c1:d<l
    ·by_cases c2:f<n
     ·exists Kz c1,Kz c2;refine aB fun M2 h2=>?_;rfl';refine⟨.inr (by decide),?_⟩
      refine h2 _ ?_;clear h2 M2;rfl';refine⟨_,?_,f*2,d+1,by lia,by lia,by lia,rfl,?_,rfl⟩
      ·lia
      ·rw[hi,Kr.qN (l:=l.toNat) (by lia) (by lia),show (f*2).toNat=f.toNat*2 by lia,show (d+1).toNat=d.toNat+1 by lia]
       exact Iff.rfl
     ·exists Kz c1,Kx c2;exact after f d f0 d0 dl (.inr (by lia)) hi
    ·exists Kx c1;exact after f d f0 d0 dl (.inl (by lia)) hi
theorem B9(T:Txt K mg)(F:HasFn K mg "_law_fits" dM ["lengths"]):aj P w K mg base aV 1 "_law_fits" ["lengths"] (spT K [false] FT):=by
 refine F.jJ b8 [false] rfl (by decide) (fun args Qt hl h f cdv A outer s H E hr=>?_)
 have hu:=aR hr;obtain⟨ls,rfl,hL,q⟩:=h;refine⟨_,(Y.af (Y.set (i:=1) b8.nd rfl (by right) Y.int)
   (Y.af (Y.set (i:=2) b8.nd rfl (by right) (Y.cb (Y.kB K rfl rfl) Y.sU rfl T.rE (by decide +kernel) (Y.cons (Y.vS 0) Y.nil)))
   (Y.af (Y.h_ Lk rfl (Y.anyS K rfl (Y.GG rfl T.jf (Y.cons (Y.vS 0) Y.nil))) (Y.aO (i:=3) b8.nd rfl (by right)) (Y.af (Y.set (i:=4) b8.nd rfl (by right) (Y.cb (fI rfl) Y.mB rfl T.kq (by decide +kernel) (Y.cons (Y.op b_ Y.bV (Y.vS 2) (Y.vS 3)) (Y.cons Y.int Y.nil))))
   (Y.af (Y.set (i:=1) b8.nd rfl (by right) (Y.op b_ Y.bV Y.int (Y.op D8 Y.cg (Y.op b_ Y.bV Y.int (Y.vS 1)) (Y.vS 4))))
   (Y.az (Y.set (i:=2) b8.nd rfl (by right) (Y.vS 3))))))
   (Y.az (Y.ret (Y.cmp Gd Y.cC (Y.vS 1) (Y.op vC Y.cg Y.int (Y.cb (fI rfl) Y.mB rfl T.kq (by decide +kernel) (Y.cons (Y.vS 2) (Y.cons Y.int Y.nil)))))))))),?_⟩
 refine aB fun N hN=>?_;rfl';symm;rfl';refine⟨ls,rfl,hL.1,fun M hM hMx=>?_⟩;symm;rfl';refine⟨ls,rfl,by have:=hL.2.1;lia,fun rs hp hs=>?_⟩
 refine di (fun rest μ=>∃(r dn:List Int) (nd la:Int) (s3 s4:Option L2.T),rest=nI r/\r.Pairwise (· >= ·)/\(∀ x∈r,1<=x/\x<=la)/\1<=la/\la<=40/\(dn++r).Perm ls/\Kr.zL 40 (dn.map Int.toNat) nd la/\μ=[.tr (.tup (nI ls)),.tr (.int nd),.tr (.int la),sl s3,sl s4])
  ⟨rs,[],0,M,none,none,rfl,hs,fun x hx=>⟨(hL.2.2 x (hp.mem_iff.mp hx)).1,hMx x (hp.mem_iff.mp hx)⟩,(hL.2.2 M hM).1,(hL.2.2 M hM).2,hp,⟨by decide,by have:=(hL.2.2 M hM).1;lia,fun m=>⟨fun _=>KY _,fun _=>by lia⟩⟩,rfl⟩ ?_ ?_
 ·rintro μ ⟨r,dn,nd,la,s3,s4,e,_,_,la1,la2,hperm,hN2,rfl⟩
  cases r with
  |cons=>cases e
  |nil =>
   show N _;ac_rfl;have e1:¬ (40:Int)<la:=by lia
   exists Kx e1;refine⟨⟨by lia,by lia,by decide⟩,?_⟩
   have:decide (nd<=1*2^la.toNat)=o_ ls:=by
    unfold o_ KS;rw[Lj] at hperm;rw[<- Kr.fE (hperm.map Int.toNat)];refine M7.mpr ?_;have h:=hN2.2.2 (2^la.toNat);rw[<- MY,show la.toNat+(40-la.toNat)=40 by lia,OE] at h
    rw[Int.one_mul];exact h
   rw[<- this] at q;exact q
 ·rintro t ts μ M' ⟨r,dn,nd,la,s3,s4,e,hs,hx,la1,la2,hperm,hN2,rfl⟩ k
  cases r with
  |nil=>cases e
  |cons l r =>
   cases e;obtain⟨hl1,hl2⟩:=hx l (by simp)
   have hle:∀ x∈r,x<=l:=(Ln.mp hs).1;have e1:¬ (40:Int)<la-l:=by lia
   rfl';refine aB fun M2 h2=>?_;exists Kx e1;refine h2 _ ?_;clear h2 M2;refine aB fun M2 h2=>?_;rfl';refine⟨by lia,?_⟩
   refine h2 _ ?_;clear h2 M2;rfl';refine k _ ⟨r,dn++[l],_,l,some _,some _,rfl,(Ln.mp hs).2,fun x hx'=>⟨(hx x (by simp[hx'])).1,hle x hx'⟩,hl1,by lia,by simpa using hperm,?_,rfl⟩
   rw[KI];exact hN2.step (by lia) hl2 (by lia)
noncomputable def nN(l:List Nat):List L2.T:=l.map fun i:Nat=>L2.T.int (i:Int)
theorem iY(l:List Nat):(nN l).length=l.length:=K3 ..
theorem qH(a b:List Nat):nN (a++b)=nN a++nN b:=KI
noncomputable def B4(x:Pm.It):L2.T:=.tup [.int x.1,.lst (nN x.2)]
noncomputable def iT(X:List Pm.It):List L2.T:=X.map B4
theorem jR(X:List Pm.It):(iT X).length=X.length:=K3 ..
theorem ph(X Y:List Pm.It):iT (X++Y)=iT X++iT Y:=KI
theorem sv{β:Type}(f:α->β)(ks:List Int)(l:List α):fM ks (l.map f)=(fM ks l).map f:=by
 have e:∀ m:List α,Paired (fun (b:β) (a:α)=>b=f a) (m.map f) m:=fun m=>by
  induction m with
  |nil=>exact .nil
  |cons x m ih=>exact .cons rfl ih
 have h:=iR (ks:=ks) (e l);generalize fM ks (l.map f)=u at h;generalize fM ks l=v at h
 induction h with
 |nil=>rfl
 |cons a b ih=>rw[a,ih];rfl
noncomputable def yQ:eZ:=fun args Q=>∃ X:List Pm.It,args=[.lst (iT X)]/\X.length<64/\Q (.fr (.lst (iT (Pm.Fl X)))) []
theorem wg(T:Txt K mg)(F:HasFn K mg "by_worth" cc ["shelf"]):aj P w K mg base aV 4 "by_worth" ["shelf"] (spT K [false] yQ):=by
 obtain⟨c,Pt,htab,hcc⟩:=T.lH.ex;refine F.Hg oG [false] rfl (by decide) (fun args Qt hl h f cdv A outer s H E hr hm hcd=>?_)
 have:=hcc _ _ ⟨hm,hcd⟩;subst this;have hu:=aR hr;obtain⟨X,rfl,hX,q⟩:=h;refine⟨_,(Y.az (Y.ret (Y.sortI (k:=0) K rfl (by decide) htab rfl rfl rfl rfl rfl T.jf (Y.cons (Y.vS 0) Y.nil) (hr.mono (by decide)) rfl rfl rfl (fun _ _ _ _=>rfl)))),?_⟩
 rfl';refine⟨X.map fun x=>x.1,?_,by rw[jR];exact hX,?_⟩
 ·unfold iT;rw[MC,MC];rfl
 ·unfold iT;rw[sv];exact q
noncomputable def vm:List Pm.It->List (Pm.It×Pm.It)
 |a::b::r=>(a,b)::vm r
 |_=>[]
theorem r9:∀ X:List Pm.It,km (jV (iT X)) (jV ((iT X).drop 1))=(vm X).map fun p=>L2.T.tup [B4 p.1,B4 p.2]
 |[]=>rfl
 |[a]=>rfl
 |[a,b]=>rfl
 |a::b::c::r=>by
  have ih:=r9 (c::r);show L2.T.tup [B4 a,B4 b]::km (jV (iT (c::r))) (jV ((iT (c::r)).drop 1))=_;rw[ih];rfl
theorem yG:∀ X:List Pm.It,Pm.pk X=(vm X).map fun p=>(p.1.1+p.2.1,p.1.2++p.2.2)
 |[]=>by simp[vm,Pm.pk]
 |[a]=>by simp[vm,Pm.pk]
 |a::b::r=>by rw[Pm.pk,vm,KN,yG r]
theorem zp:∀{X:List Pm.It} {p:Pm.It×Pm.It},p∈vm X->p.1.2.length+p.2.2.length<=(Pm.th X).length
 |[],p,h=>by cases h
 |[a],p,h=>by cases h
 |a::b::r,p,h=>by
  rw[Pm.bj,Pm.bj,K0,K0];rcases K4.mp h with e|e
  ·rw[e];show a.2.length+b.2.length<=_;lia
  ·have:=zp e;lia
theorem tu:∀ X:List Pm.It,(vm X).length<=X.length
 |[]=>K2 _
 |[_]=>KY _
 |a::b::r=>by
  have:=tu r;unfold vm;simp only[K6];lia
noncomputable def xk:eZ:=fun args Q=>∃ X:List Pm.It,args=[.lst (iT X)]/\X.length<=64/\(Pm.th X).length<=1000/\Q (.fr (.lst (iT (Pm.pk X)))) []
theorem yI(T:Txt K mg)(F:HasFn K mg "packs_of" dv ["shelf"]):aj P w K mg base aV 1 "packs_of" ["shelf"] (spT K [false] xk):=by
 refine F.jJ nH [false] rfl (by decide) (fun args Qt hl h f cdv A outer s H E hr=>?_)
 have hu:=aR hr;obtain⟨X,rfl,hX,ht,q⟩:=h;refine⟨_,(Y.az (Y.ret (Y.C0 K rfl (osc:=aa dv) (ON:=["shelf"]) (own:=["one","other"]) (N:=["one","other","shelf"]) ⟨rfl,by decide +kernel,rfl,by decide +kernel,by decide +kernel,by decide +kernel,by decide +kernel,by decide +kernel⟩ rfl rfl rfl rfl (Y.zip K rfl rfl T.oF (Y.cons (Y.vv K rfl 0 rfl (Y.vS 0)) (Y.cons (Y.vv K rfl 1 rfl (Y.vS 0)) Y.nil))) (fun _ _ _ _=>(Z.qd (n:=2) K rfl rfl (Z.bH (Z.aO (i:=0) (show List.Nodup (["one","other","shelf"]:List Str) by decide +kernel) rfl (by right)) (Z.bH (Z.aO (i:=1) (show List.Nodup (["one","other","shelf"]:List Str) by decide +kernel) rfl (by right)) Z.gb)))) (fun _ _ _ _=>Y.nY) (fun _ _ _ _=>(Y.tup (Y.cons (Y.op (Y.aJ K rfl) Y.aI (Y.ix (Y.bp K rfl) Y.aA (Y.vS 0) Y.int) (Y.ix (Y.bp K rfl) Y.aA (Y.vS 1) Y.int)) (Y.cons (Y.op (Y.aJ K rfl) Y.aI (Y.ix (Y.bp K rfl) Y.aA (Y.vS 0) Y.int) (Y.ix (Y.bp K rfl) Y.aA (Y.vS 1) Y.int)) Y.nil))))))),?_⟩
 rfl';rw[MU,r9];refine cx (fun rest acc μ=>∃(done todo:List (Pm.It×Pm.It)),done++todo=vm X/\(rest=todo.map fun p=>L2.T.tup [B4 p.1,B4 p.2])/\acc=iT (done.map fun p=>(p.1.1+p.2.1,p.1.2++p.2.2))/\μ=[.tr (.lst (iT X))]) ⟨[],vm X,rfl,rfl,rfl,rfl⟩ ?_ ?_
 ·rintro acc μ ⟨done,todo,e1,e2,rfl,rfl⟩;have e3:todo=[]:=by simpa using e2.symm
  subst e3;rw[Lj] at e1;refine⟨trivial,?_⟩;rw[yG,<- e1] at q;exact q
 ·rintro t r acc μ M ⟨done,todo,e1,e2,rfl,rfl⟩ k
  cases todo with
  |nil=>cases e2
  |cons p todo =>
   obtain⟨rfl,rfl⟩:=List.cons.inj e2;have hm:p∈vm X:=by rw[<- e1];simp
   have h1:=zp hm;have h2:=tu X;rw[<- e1,K0] at h2;refine⟨trivial,by rw[jR,K3];exact Lc (show _<=64 by lia) (by decide),?_⟩
   obtain⟨⟨w1,t1⟩,w2,t2⟩:=p;unfold B4;have a0:∀(v:Int) (l:List Nat),bC [L2.T.int v,.lst (nN l)] 0=some (.int v):=fun v l=>rfl;have a1:∀(v:Int) (l:List Nat),bC [L2.T.int v,.lst (nN l)] 1=some (.lst (nN l)):=fun v l=>rfl;exists a0,a1;refine⟨by rw[iY,iY];exact KG (show _<=1000 by have:t1.length+t2.length<=_:=h1;lia) (by decide),by decide,k _ _ ⟨done++[((w1,t1),(w2,t2))],todo,by rw[<- e1];simp,rfl,?_,rfl⟩⟩
   rw[KI,ph,<- qH];rfl
theorem C8:∀ A:List Pm.It,(Pm.th (Pm.pk A)).length<=(Pm.th A).length
 |[]=>by simp[Pm.pk]
 |[a]=>by simp[Pm.pk,Pm.th]
 |a::b::r=>by
  have:=C8 r;rw[Pm.pk,Pm.bj,Pm.bj,Pm.bj];simp only[K0];lia
theorem kH(c:Nat->Int)(hn:1<=n):∀ d,(Pm.shelf c n d).length<=2*n-1
 |0=>KY _
 |d+1=>by
  have:=kH c hn d;rw[Pm.shelf,(Pm.ee _).length_eq,K0,Pm.mq];unfold Pm.coins;rw[K3,L1];lia
theorem i_(c:Nat->Int)(n:Nat):∀ d,(Pm.th (Pm.shelf c n d)).length<=n*d
 |0=>K2 _
 |d+1=>by
  have h1:=i_ c n d;have h2:=C8 (Pm.shelf c n d);rw[Pm.shelf,(Pm.iS (Pm.ee _)).length_eq,Pm.gZ,K0,Pm.nE,L1,Po];lia
noncomputable def eQ(cs:List Int)(i:Nat):Int:=cs.getD i 0
theorem Bh(cs:List Int):pairs (nI cs)=(List.range' 0 cs.length).map fun i:Nat=>L2.T.tup [.int (i:Int),.int (eQ cs i)]:=by
 unfold pairs;rw[aU,<- My];refine Na fun i hi=>?_;have h:=Mj.mp hi;unfold nI eQ;rw[KL,Kw h,KP,Kw h];rfl
theorem pK(c:Nat->Int)(i:Nat):Pm.coins c (i+1)=Pm.coins c i++[(c i,[i])]:=by
 unfold Pm.coins;rw[MM,KI];rfl
noncomputable def rQ:eZ:=fun args Q=>∃(cs:List Int) (b:Nat),args=[.tup (nI cs),.int (b:Int)]/\2<=cs.length/\cs.length<=20/\1<=b/\b<=40/\Q (.fr (.lst (nN (Pm.th ((Pm.shelf (eQ cs) cs.length b).take (2*cs.length-2)))))) []
abbrev k6z(P w K mg base):=aj P w K mg base aV 5 "chosen_things" ["counts","bound"] (spT K [false,false] rQ)
theorem uT(T:Txt K mg)(F:HasFn K mg "chosen_things" bE ["counts","bound"])(hby_worth:aj P w K mg base aV 4 "by_worth" ["shelf"] (spT K [false] yQ))(hpacks_of:aj P w K mg base aV 1 "packs_of" ["shelf"] (spT K [false] xk)):
  k6z P w K mg base:=by
 refine F.jJ aN [false,false] rfl (by decide) (fun args Qt hl h f cdv A outer s H E hr=>?_)
 have hu:=aR hr;obtain⟨cs,b,rfl,hn2,hn,hb1,hb,q⟩:=h;refine⟨_,(Y.af (Y.DA (j:=2) K rfl aN.nd rfl (by right) (osc:=aa bE) (ON:=["counts","bound","coins","shelf","depth","chosen","item"]) (own:=["thing","count"]) (N:=["thing","count","counts","bound","coins","shelf","depth","chosen","item"]) ⟨rfl,by decide +kernel,rfl,by decide +kernel,by decide +kernel,by decide +kernel,by decide +kernel,by decide +kernel⟩ rfl rfl rfl rfl (Y.enum K rfl rfl T.oP (Y.cons (Y.vS 0) Y.nil)) (fun _ _ _ _=>(Z.qd (n:=2) K rfl rfl (Z.bH (Z.aO (i:=0) (show List.Nodup (["thing","count","counts","bound","coins","shelf","depth","chosen","item"]:List Str) by decide +kernel) rfl (by right)) (Z.bH (Z.aO (i:=1) (show List.Nodup (["thing","count","counts","bound","coins","shelf","depth","chosen","item"]:List Str) by decide +kernel) rfl (by right)) Z.gb)))) (fun _ _ _ _=>Y.nY) (fun _ _ _ _=>(Y.tup (Y.cons (Y.vS 1) (Y.cons (Y.lst (Y.cons (Y.vS 0) Y.nil)) Y.nil)))))
   (Y.af (Y.Gv (i:=3) aN.nd rfl (by right) (Y.fn K rfl hby_worth (hr.mono (by decide)) rfl au (Y.cons (Y.vS 2) Y.nil)))
   (Y.af (Y.h_ Lk rfl (Y.Ez rfl T.fJ (Y.cons Y.int (Y.cons (Y.vS 1) Y.nil))) (Y.aO (i:=4) aN.nd rfl (by right)) (Y.az (Y.Gv (i:=3) aN.nd rfl (by right) (Y.fn K rfl hby_worth (hr.mono (by decide)) rfl au (Y.cons (Y.op (Y.aJ K rfl) Y.aI (Y.vS 2) (Y.fn K rfl hpacks_of (hr.mono (by decide)) rfl au (Y.cons (Y.vS 3) Y.nil))) Y.nil)))))
   (Y.af (Y.set (i:=5) aN.nd rfl (by right) (Y.lst Y.nil))
   (Y.af (Y.h_ Lk rfl (Y.anyS K rfl (Y.fq K rfl (Y.vS 3) Y.zC (Y.zB (Y.op b_ Y.bV (Y.op (Y.dB K rfl) Y.cL Y.int (Y.cb (Y.aX K rfl) Y.bS rfl T.cU (by decide +kernel) (Y.cons (Y.vS 0) Y.nil))) Y.int)))) (Y.aO (i:=6) aN.nd rfl (by right)) (Y.az (Y.expr (Y.bm K rfl PySem.F.slot_list_extend PySem.F.type_list_extend Y.DR Y.EH (Y.vS 5) (Y.cons (Y.ix (Y.bp K rfl) Y.aA (Y.vS 6) Y.int) Y.nil)))))
   (Y.az (Y.ret (Y.vS 5)))))))),?_⟩
 refine aB fun N hN=>?_;rfl';rw[Bh];refine cx (fun rest acc μ=>∃ i:Nat,i<=cs.length/\(rest=(List.range' i (cs.length-i)).map fun i:Nat=>L2.T.tup [.int (i:Int),.int (eQ cs i)])/\acc=iT (Pm.coins (eQ cs) i)/\μ=[.tr (.tup (nI cs)),.tr (.int (b:Int)),.un,.un,.un,.un,.un]) ⟨0,KY _,rfl,rfl,rfl⟩ ?_ ?_
 ·rintro acc μ ⟨i,hi,e,rfl,rfl⟩;have hi2:i=cs.length:=by
   have:=Le List.length e;rw[K3,Mb,Lf] at this;lia
  subst hi2;refine⟨trivial,?_⟩;rfl';ac_rfl;have e1:Pm.Fl (Pm.coins (eQ cs) cs.length)=Pm.shelf (eQ cs) cs.length 1:=by
   rw[Pm.shelf,Pm.shelf,Pm.pk,Lj];simp
  refine aB fun N hN=>?_;rfl';have hcl:(Pm.coins (eQ cs) cs.length).length=cs.length:=by unfold Pm.coins;rw[K3,L1]
  refine⟨Pm.coins (eQ cs) cs.length,rfl,by lia,?_⟩
  rfl';ac_rfl;rw[e1];clear e1;refine aB fun N hN=>?_;rfl';refine⟨by lia,?_⟩
  have eb:((b:Int)-1).toNat=b-1:=by lia
  rw[eb,My];refine di (fun rest μ=>∃(d:Nat) (o:Option L2.T),d<=b-1/\(rest=(List.range' d (b-1-d)).map fun k:Nat=>L2.T.int (1+(k:Int)))/\μ=[.tr (.tup (nI cs)),.tr (.int (b:Int)),.tr (.lst (iT (Pm.coins (eQ cs) cs.length))),.tr (.lst (iT (Pm.shelf (eQ cs) cs.length (d+1)))),sl o,.un,.un]) ⟨0,none,KY _,rfl,rfl⟩ ?_ ?_
  ·rintro μ ⟨d,o,hd,e,rfl⟩;have hd2:d+1=b:=by
    have:=Le List.length e;rw[K3,Mb,Lf] at this;lia
   rw[hd2];show N _;symm;rfl';symm;exists aU;have ec:((2*(cs.length:Int)-2))=((2*cs.length-2:Nat):Int):=by lia
   have h2:=i_ (eQ cs) cs.length b;have h3:cs.length*b<=20*40:=NV hn hb;have et:Y.bB (iT (Pm.shelf (eQ cs) cs.length b)) none (some (2*(cs.length:Int)-2))=iT ((Pm.shelf (eQ cs) cs.length b).take (2*cs.length-2)):=by
    rw[ec];unfold Y.bB iT;rw[HT.fC,HT.gR,Nj,MU,K3,<- MJ];congr 1;rw[OX];lia
   rw[et];have ht:(Pm.th ((Pm.shelf (eQ cs) cs.length b).take (2*cs.length-2))).length<=800:=by
    have e2:Pm.th (Pm.shelf (eQ cs) cs.length b)=Pm.th ((Pm.shelf (eQ cs) cs.length b).take (2*cs.length-2))++Pm.th ((Pm.shelf (eQ cs) cs.length b).drop (2*cs.length-2)):=by rw[<- Pm.gZ,LG]
    rw[e2,K0] at h2;lia
   refine⟨.inl (by decide),?_⟩
   generalize (Pm.shelf (eQ cs) cs.length b).take (2*cs.length-2)=Z at ht q ⊢;refine di (fun rest μ=>∃(done todo:List Pm.It) (o2:Option L2.T),done++todo=Z/\rest=iT todo/\μ=[.tr (.tup (nI cs)),.tr (.int (b:Int)),.tr (.lst (iT (Pm.coins (eQ cs) cs.length))),.tr (.lst (iT (Pm.shelf (eQ cs) cs.length b))),sl o,.bx (.lst (nN (Pm.th done))),sl o2]) ⟨[],Z,none,rfl,rfl,rfl⟩ ?_ ?_
   ·rintro μ ⟨done,todo,o2,e1,e2,rfl⟩;have e3:todo=[]:=by
     cases todo with
     |nil=>rfl
     |cons=>cases e2
    subst e3;rw[Lj] at e1;subst e1;show N _;ac_rfl;rfl';exact q
   ·rintro t r μ M ⟨done,todo,o2,e1,e2,rfl⟩ k
    cases todo with
    |nil=>cases e2
    |cons x todo =>
     obtain⟨rfl,rfl⟩:=List.cons.inj e2;have a1:∀(v:Int) (l:List Nat),bC [L2.T.int v,.lst (nN l)] 1=some (.lst (nN l)):=fun v l=>rfl;have hz:(Pm.th done).length+x.2.length<=800:=by
      rw[<- e1,Pm.gZ,Pm.bj] at ht;simp only[K0] at ht;lia
     unfold B4;exists a1;refine⟨by rw[iY,iY];exact KG hz (by decide),?_⟩
     refine k _ ⟨done++[x],todo,some (.tup [.int x.1,.lst (nN x.2)]),by rw[<- e1];simp,rfl,?_⟩
     rw[Pm.gZ,qH];simp only[Pm.th,Mw,List.flatMap_nil,Lj];rfl
  ·rintro t r μ M ⟨d,o,hd,e,rfl⟩ k;have hd2:d<b-1:=by
    have:=Le List.length e;rw[K3,Mb,K6] at this;lia
   rw[show b-1-d=(b-1-(d+1))+1 by lia,LK,KN] at e
   obtain⟨rfl,rfl⟩:=List.cons.inj e;clear e;have h1:=kH (eQ cs) (n:=cs.length) (by lia) (d+1)
   have h2:=i_ (eQ cs) cs.length (d+1);have h3:cs.length*(d+1)<=20*40:=NV hn (by lia)
   rfl';refine⟨Pm.shelf (eQ cs) cs.length (d+1),rfl,by lia,by lia,?_⟩
   rfl';have h4:=Pm.mq (Pm.shelf (eQ cs) cs.length (d+1));refine⟨by rw[jR,jR];exact KG (show _<=100 by lia) (by decide),?_⟩
   rw[<- ph];refine⟨_,rfl,by rw[K0];lia,?_⟩
   rfl';exact k _ ⟨d+1,some _,hd2,rfl,rfl⟩
 ·rintro t r acc μ M ⟨i,hi,e,rfl,rfl⟩ k;have hi2:i<cs.length:=by
   have:=Le List.length e;rw[K3,Mb,K6] at this;lia
  rw[show cs.length-i=(cs.length-(i+1))+1 by lia,LK,KN] at e
  obtain⟨rfl,rfl⟩:=List.cons.inj e;clear e;have hl:(iT (Pm.coins (eQ cs) i)).length=i:=by unfold Pm.coins;rw[jR,K3,L1]
  refine⟨trivial,by rw[hl];exact Lc (show i<=20 by lia) (by decide),?_⟩
  rfl';refine⟨by decide,by decide,k _ _ ⟨i+1,hi2,rfl,?_,rfl⟩⟩
  rw[pK,ph];rfl
noncomputable def aF(cs:List Int)(b:Nat):List Nat:=if cs.length=1 then [1] else (List.range cs.length).map (Pm.fT (eQ cs) cs.length (min b (cs.length-1)))
noncomputable def Cb:eZ:=fun args Q=>∃ cs:List Int,args=[.tup (nI cs),.int 12]/\1<=cs.length/\cs.length<=20/\Q (.tr (.tup (nN (aF cs 12)))) []
theorem vG(L l:Nat):∀ n,Kr.ks L (List.replicate n l)=n*2^(L-l)
 |0=>by simp[Kr.ks]
 |n+1=>by rw[Li,Kr.ks,vG L l n,Mq];lia
theorem Eh{b:Nat}(hb:b<=40):o_ (List.replicate n (b:Int))=decide (n<=2^b):=by
 unfold o_ KS;rw[List.map_replicate,Lr,vG];refine M7.mpr ?_;have e:2^40=2^b*2^(40-b):=by rw[<- MY,NR hb]
 rw[e];exact⟨fun h=>Oh h (Nr (by decide)),fun h=>Mz _ h⟩
theorem D7(l:List Nat)(i:Nat):(l.map fun k:Nat=>(k:Int)).count (i:Int)=l.count i:=by
 induction l with
 |nil=>rfl
 |cons x l ih =>
  rw[KN,NO,NO,ih];congr 1;by_cases h:x=i
  ·subst h;simp
  ·have:¬ (x:Int)=(i:Int):=by lia
   simp[h,this]
abbrev k7z(P w K mg base):=aj P w K mg base aV 6 "least_lengths" ["counts","bound"] (spT K [false,false] Cb)
theorem ya(T:Txt K mg)(F:HasFn K mg "least_lengths" bf ["counts","bound"])(hcan_be:aj P w K mg base aV 1 "can_be" ["lengths"] (spT K [false] CJ))(hchosen_things:k6z P w K mg base):
  k7z P w K mg base:=by
 refine F.jJ cI [false,false] rfl (by decide) (fun args Qt hl h f cdv A outer s H E hr=>?_)
 have hu:=aR hr;obtain⟨cs,rfl,hn1,hn,q⟩:=h;obtain⟨b,eb0,hb1,hb,hm2,q'⟩:∃ b:Nat,(12:Int)=(b:Int)/\1<=b/\b<=40/\cs.length<=2^b/\Qt (.tr (.tup (nN (aF cs b)))) []:=⟨12,rfl,by decide,by decide,KG hn (by decide),q⟩
 rw[eb0];clear q eb0;refine⟨_,(Y.af (Y.set (i:=2) cI.nd rfl (by right) (Y.cb (Y.aX K rfl) Y.bS rfl T.cU (by decide +kernel) (Y.cons (Y.vS 0) Y.nil)))
   (Y.af (Y.e9 (Y.tw (Y.CC (Y.aZ dE Y.cC (Y.vS 1) Y.int) (Y.u3 (Y.lP (Y.i6 K rfl (Y.fn K rfl hcan_be (hr.mono (by decide)) rfl au (Y.cons (Y.jn (osc:=aa bf) (ON:=["counts","bound","things","chosen"]) (own:=["count"]) (N:=["count","counts","bound","things","chosen"]) ⟨rfl,by decide +kernel,rfl,by decide +kernel,by decide +kernel,by decide +kernel,by decide +kernel,by decide +kernel⟩ rfl rfl rfl rfl (Y.anyS K rfl (Y.vS 0)) (fun _ _ _ _=>(Z.aO (i:=0) (show List.Nodup (["count","counts","bound","things","chosen"]:List Str) by decide +kernel) rfl (by right))) (fun _ _ _ _=>Y.nY) (fun _ _ _ _=>(Y.vS 2))) Y.nil))))))) (Y.az Y.AU) Y.bG)
   (Y.af (Y.e9 (Y.aZ (Y.cu K rfl (Lb hu)) Y.dI (Y.vS 2) Y.int) (Y.az (Y.ret (Y.tup (Y.cons Y.int Y.nil)))) Y.bG)
   (Y.af (Y.set (i:=3) cI.nd rfl (by right) (Y.fn K rfl hchosen_things (hr.mono (by decide)) rfl au (Y.cons (Y.vS 0) (Y.cons (Y.cb (fI rfl) Y.mB rfl T.kq (by decide +kernel) (Y.cons (Y.vS 1) (Y.cons (Y.op b_ Y.bV (Y.vS 2) Y.int) Y.nil))) Y.nil))))
   (Y.az (Y.ret (Y.ct (Y.du K rfl) Y.dR rfl T.bU (by decide +kernel) (Y.cons (Y.jn (osc:=aa bf) (ON:=["counts","bound","things","chosen"]) (own:=["thing"]) (N:=["thing","counts","bound","things","chosen"]) ⟨rfl,by decide +kernel,rfl,by decide +kernel,by decide +kernel,by decide +kernel,by decide +kernel,by decide +kernel⟩ rfl rfl rfl rfl (Y.pS rfl T.fJ (Y.cons (Y.vS 2) Y.nil)) (fun _ _ _ _=>(Z.aO (i:=0) (show List.Nodup (["thing","counts","bound","things","chosen"]:List Str) by decide +kernel) rfl (by right))) (fun _ _ _ _=>Y.nY) (fun _ _ _ _=>(Y.bm K rfl PySem.F.slot_list_count PySem.F.type_list_count Y.DT Y.Ek (Y.vS 4) (Y.cons (Y.vS 0) Y.nil)))) Y.nil)))))))),?_⟩
 refine aB fun N hN=>?_;exists aU;symm;have b1:¬ (b:Int)<1:=by lia
 exists Kx b1;refine cx (fun rest acc μ=>rest.length+acc.length=cs.length/\acc=nI (List.replicate acc.length (b:Int))/\μ=[.tr (.tup (nI cs)),.tr (.int (b:Int)),.tr (.int (cs.length:Int)),.un]) ⟨by rw[aU];rfl,rfl,rfl⟩ ?_ ?_
 ·rintro acc μ ⟨e1,e2,rfl⟩;have e3:acc=nI (List.replicate cs.length (b:Int)):=by rw[<- show acc.length=cs.length by simpa using e1];exact e2
  clear e1 e2;subst e3;refine⟨trivial,?_⟩;rfl';refine⟨_,_,rfl,.inr rfl,⟨by rw[Lo];lia,by rw[Lo];exact hn,fun x hx=>by have:=List.eq_of_mem_replicate hx;lia⟩,?_⟩
  rw[Eh (by lia)]
  have hm:decide (cs.length<=2^b)=true:=L4 hm2;rw[hm];rfl';symm;by_cases h1:cs.length=1
  ·exists Kz (show (cs.length:Int)=1 by lia)
   refine⟨by decide,?_⟩
   unfold aF at q';rw[Kz h1] at q';exact q'
  ·exists Kx (show ¬ (cs.length:Int)=1 by lia)
   symm;have eb:(if (cs.length:Int)-1<(b:Int) then (cs.length:Int)-1 else (b:Int))=((min b (cs.length-1):Nat):Int):=by split<;>lia
   exists eb;refine⟨cs,min b (cs.length-1),rfl,by lia,hn,by lia,by lia,?_⟩
   rfl';ac_rfl;rfl';refine⟨by lia,by lia,?_⟩
   rw[Lr,My];unfold aF at q';rw[Kx h1] at q';refine cx (fun rest acc μ=>∃ i:Nat,i<=cs.length/\(rest=(List.range' i (cs.length-i)).map fun k:Nat=>L2.T.int (0+(k:Int)))/\acc=nN ((List.range i).map (Pm.fT (eQ cs) cs.length (min b (cs.length-1))))/\μ=[.tr (.tup (nI cs)),.tr (.int (b:Int)),.tr (.int (cs.length:Int)),.bx (.lst (nN (Pm.th ((Pm.shelf (eQ cs) cs.length (min b (cs.length-1))).take (2*cs.length-2)))))]) ⟨0,KY _,rfl,rfl,rfl⟩ ?_ ?_
   ·rintro acc μ ⟨i,hi,e,rfl,rfl⟩;have hi2:i=cs.length:=by
     have:=Le List.length e;rw[K3,Mb,Lf] at this;lia
    subst hi2;refine⟨trivial,?_⟩;rfl';exact q'
   ·rintro t r acc μ M ⟨i,hi,e,rfl,rfl⟩ k;have hi2:i<cs.length:=by
     have:=Le List.length e;rw[K3,Mb,K6] at this;lia
    rw[show cs.length-i=(cs.length-(i+1))+1 by lia,LK,KN] at e
    obtain⟨rfl,rfl⟩:=List.cons.inj e;clear e;refine⟨trivial,by rw[iY,K3,L1];exact Lc (show i<=20 by lia) (by decide),?_⟩
    rfl';refine⟨(Pm.th ((Pm.shelf (eQ cs) cs.length (min b (cs.length-1))).take (2*cs.length-2))).map fun k:Nat=>(k:Int),by unfold nN;rw[MC];rfl,?_⟩
    rw[Int.zero_add,D7];refine k _ _ ⟨i+1,hi2,rfl,?_,rfl⟩;rw[MM,KI,qH];rfl
 ·rintro t r acc μ M ⟨e1,e2,rfl⟩ k;rfl';rw[K6] at e1;refine⟨trivial,Lc (show acc.length<=20 by lia) (by decide),k _ _ ⟨by rw[K0];simp;lia,?_,rfl⟩⟩
  rw[K0,LZ,List.replicate_succ',jQ,<- e2];rfl
namespace Pm
theorem oO(f:Nat->Nat):∀ n,sN f (n+1)=f 0+sN (fun i=>f (i+1)) n
 |0=>by simp[sN]
 |n+1=>by rw[sN,oO f n,sN];lia
theorem mT(f:Nat->Int):∀ n,sI f (n+1)=f 0+sI (fun i=>f (i+1)) n
 |0=>by simp[sI]
 |n+1=>by rw[sI,mT f n,sI];lia
theorem xX(L:Nat):∀ l:List Nat,Kr.ks L l=sN (fun i=>2^(L-l.getD i 0)) l.length
 |[]=>rfl
 |x::l=>by rw[Kr.ks,xX L l,K6,oO];rfl
theorem oh(h:D<=L):∀{l:List Nat},(∀ x∈l,x<=D)->Kr.ks L l=Kr.ks D l*2^(L-D)
 |[],_=>by simp[Kr.ks]
 |x::l,hx=>by
  have:=hx x KD;rw[Kr.ks,Kr.ks,oh h fun y hy=>hx y (K9 _ hy),Nat.add_mul,<- MY];congr 2;lia
theorem mK(h:D<=L)(hx:∀ x∈l,x<=D):Kr.ks L l<=2^L ↔ Kr.ks D l<=2^D:=by
 rw[oh h hx,show 2^L=2^D*2^(L-D) by rw[<- MY,NR h]]
 exact⟨fun h=>Oh h (Nr (by decide)),fun h=>Mz _ h⟩
theorem yn{m:Nat}(hm:m<=L):∀{l:List Nat},(∀ x∈l,x<=m)->2^(L-m) ∣ Kr.ks L l
 |[],_=>⟨0,rfl⟩
 |x::l,h=>by
  have:=h x KD;exact Nat.dvd_add (Nat.pow_dvd_pow 2 (by lia)) (yn hm fun y hy=>h y (K9 _ hy))
theorem dy:∀(m:Nat) (l:List Nat),l.length=m->m<=L->Kr.ks L l<2^L->Kr.ks L l+2^(L-m)<=2^L
 |0,l,hl,_,_=>by
  rw[O6.mp hl];simp[Kr.ks]
 |m+1,l,hl,hm,hk=>by
  have e2:2^(L-m)=2*2^(L-(m+1)):=by rw[show L-m=(L-(m+1))+1 by lia,Mf];lia
  by_cases h:∃ a∈l,m+1<=a
  ·obtain⟨a,ha,hma⟩:=h;obtain⟨s,t,rfl⟩:=List.append_of_mem ha;have e:Kr.ks L (s++a::t)=2^(L-a)+Kr.ks L (s++t):=by rw[Kr.dq,Kr.ks,Kr.dq];lia
   have hl2:(s++t).length=m:=by
    rw[K0,K6] at hl;rw[K0];lia
   have hk2:Kr.ks L (s++t)<2^L:=by
    rw[e] at hk;exact Lc (Nat.le_add_left _ _) hk
   have:=dy m (s++t) hl2 (by lia) hk2
   have:2^(L-a)<=2^(L-(m+1)):=LM (by decide) (by lia)
   lia
  ·have hx:∀ x∈l,x<=m:=fun x hx=>by
    rcases LJ m x with z|z
    ·exact absurd ⟨x,hx,z⟩ h
    ·exact z
   obtain⟨k,ek⟩:=yn (show m<=L by lia) hx
   have eL:2^L=2^(L-m)*2^m:=by rw[<- MY];congr 1;lia
   rw[ek] at hk ⊢;have hkm:k<2^m:=by
    rw[eL] at hk;exact Nat.lt_of_mul_lt_mul_left hk
   have:2^(L-m)*(k+1)<=2^(L-m)*2^m:=Nat.mul_le_mul_left _ hkm;rw[<- eL,Po] at this;lia
theorem nV{d:Nat}:∀ l:List Nat,Kr.ks L (l.map fun x=>min x d)=Kr.ks L (l.filter fun x=>decide (x<=d))+(l.filter fun x=>!decide (x<=d)).length*2^(L-d)
 |[]=>by simp[Kr.ks]
 |x::l=>by
  rw[KN,Kr.ks,nV l,MX,MX];by_cases h:x<=d
  ·rw[OF h];simp only[h,decide_true,Mg,Bool.not_true,Lw,LY,Kr.ks];lia
  ·rw[O3 (by lia)]
   simp only[h,decide_false,LY,Bool.not_false,Mg,Lw,K6,Mq];lia
theorem oj{L d:Nat}:∀ l:List Nat,Kr.ks L l=Kr.ks L (l.filter fun x=>decide (x<=d))+Kr.ks L (l.filter fun x=>!decide (x<=d))/\l.length=(l.filter fun x=>decide (x<=d)).length+(l.filter fun x=>!decide (x<=d)).length
 |[]=>by simp[Kr.ks]
 |x::l=>by
  obtain⟨h1,h2⟩:=oj (L:=L) (d:=d) l;rw[Kr.ks,h1,K6,h2,MX,MX];by_cases h:x<=d
  ·simp only[h,decide_true,Mg,Bool.not_true,Lw,LY,Kr.ks,K6];lia
  ·simp only[h,decide_false,LY,Bool.not_false,Mg,Lw,K6,Kr.ks];lia
theorem two_le_pow:∀ k:Nat,1<=k->2*k<=2^k
 |0,h=>by lia
 |1,_=>by decide
 |k+2,_=>by
  have:=two_le_pow (k+1) (by lia)
  rw[Mf];lia
theorem clamp{L:Nat}(hn:1<=l.length)(hL:l.length<=L)(hk:Kr.ks L l<=2^L):Kr.ks L (l.map fun x=>min x (l.length-1))<=2^L:=by
 obtain⟨s1,s2⟩:=oj (L:=L) (d:=l.length-1) l;rw[nV];generalize hd:l.length-1=d at s1 s2 ⊢;generalize l.filter (fun x=>decide (x<=d))=lo at s1 s2 ⊢;generalize ho:l.filter (fun x=>!decide (x<=d))=ov at s1 s2 ⊢
 cases ov with
 |nil=>simp only[Lf,Nat.zero_mul,Kr.ks] at s1 ⊢;lia
 |cons y ov =>
  have hpos:0<2^(L-y):=Nr (by decide)
  rw[Kr.ks] at s1;have h:=dy (L:=L) lo.length lo rfl (by lia) (by lia)
  have h2:=two_le_pow (y::ov).length (by simp)
  have e1:2^(L-d)=2^(L-l.length)*2:=by rw[show L-d=(L-l.length)+1 by lia,Mf]
  have e2:2^(L-lo.length)=2^(L-l.length)*2^(y::ov).length:=by rw[<- MY];congr 1;lia
  have e3:(y::ov).length*2^(L-d)=2^(L-l.length)*(2*(y::ov).length):=by rw[e1,Nf,Mh]
  have e4:=Nat.mul_le_mul_left (2^(L-l.length)) h2;rw[e3];rw[e2] at h;lia
end Pm
noncomputable def dot:List Int->List Int->Int
 |c::cs,l::ls=>c*l+dot cs ls
 |_,_=>0
noncomputable def nZ(l:List Nat):List Int:=l.map fun k:Nat=>(k:Int)
theorem aT(l:List Nat):(nZ l).length=l.length:=K3 ..
theorem pH:∀(cs:List Int) (l:List Nat),l.length=cs.length->dot cs (nZ l)=Pm.sI (fun i=>eQ cs i*((l.getD i 0:Nat):Int)) cs.length
 |[],[],_=>rfl
 |c::cs,x::l,h=>by
  rw[K6,Pm.mT];show c*(x:Int)+dot cs (nZ l)=_;rw[pH cs l (by simpa using h)]
  rfl
theorem yY:∀{cs:List Int} {l:List Nat} {d:Nat},(∀ c∈cs,0<=c)->dot cs (nZ (l.map fun x=>min x d))<=dot cs (nZ l)
 |[],_,_,_=>by unfold dot;exact M0 _
 |c::cs,[],_,_=>by show (0:Int)<=0;lia
 |c::cs,x::l,d,h=>by
  have ih:=yY (l:=l) (d:=d) fun y hy=>h y (K9 _ hy);have hc:=h c KD;show c*((min x d:Nat):Int)+dot cs (nZ (l.map fun x=>min x d))<=c*(x:Int)+dot cs (nZ l);have:=NQ (show ((min x d:Nat):Int)<=(x:Int) by lia) hc
  lia
theorem Cy:∀ n:Nat,1<=n->n<=2^(n-1)
 |0,h=>by lia
 |1,_=>by decide
 |n+2,_=>by
  have:=Cy (n+1) (by lia)
  rw[show n+2-1=(n+1-1)+1 by lia,Mf];lia
theorem Je(h:∀ c∈cs,0<=c)(i:Nat)(hi:i<cs.length):0<=eQ cs i:=by
 unfold eQ;rw[KP,Kw hi];exact h _ (Ll hi)
theorem j0(f:Nat->Nat)(h:i<n):((List.range n).map f).getD i 0=f i:=by
 rw[KP,KL,M_ h];rfl
structure sQ (cs:List Int) (b:Nat) (ls:List Nat):Prop where
 len:ls.length=cs.length
 gw:∀ x∈ls,1<=x/\x<=b
 ks:Kr.ks 40 ls<=2^40
 low:∀ l:List Nat,l.length=cs.length->(∀ x∈l,1<=x/\x<=b)->Kr.ks 40 l<=2^40->dot cs (nZ ls)<=dot cs (nZ l)
theorem ij{b:Nat}(hc:∀ c∈cs,0<=c)(hn:1<=cs.length)(hn2:cs.length<=20)(hb:1<=b)(hb2:b<=40)(hm:cs.length<=2^b):sQ cs b (aF cs b):=by
 unfold aF;by_cases h1:cs.length=1
 ·rw[Kz h1];refine⟨h1.symm,fun x hx=>?_,by decide,fun l hl hx hk=>?_⟩
  ·rw[KC.mp hx];lia
  ·rw[h1] at hl;obtain⟨x,rfl⟩:=MQ.mp hl;obtain⟨c,rfl⟩:=MQ.mp h1;have h0:=hc c (by simp)
   have hx1:=(hx x (by simp)).1
   show c*((1:Nat):Int)+0<=c*(x:Int)+0;have:=NQ (show ((1:Nat):Int)<=(x:Int) by lia) h0
   lia
 ·rw[Kx h1];have hn3:2<=cs.length:=by lia
  have hcc:=Je hc;generalize hD:min b (cs.length-1)=D;have hD1:cs.length<=2^D:=by
   rcases Pp b (cs.length-1) with z|z
   ·rw[<- hD,OF z];exact hm
   ·rw[<- hD,O3 z];exact Cy _ hn
  obtain⟨w1,w2,w3,w4⟩:=Pm.Ar hcc hn3 hD1;have hlen:((List.range cs.length).map (Pm.fT (eQ cs) cs.length D)).length=cs.length:=by rw[K3,L1]
  have hrng:∀ x∈(List.range cs.length).map (Pm.fT (eQ cs) cs.length D),1<=x/\x<=D:=fun x hx=>by
   obtain⟨i,hi,rfl⟩:=Lm.mp hx;exact⟨w2 i (Mj.mp hi),w1 i⟩
  have hdot:dot cs (nZ ((List.range cs.length).map (Pm.fT (eQ cs) cs.length D)))=Pm.wt ((Pm.shelf (eQ cs) cs.length D).take (2*cs.length-2)):=by
   rw[pH _ _ hlen,w4];exact Pm.fz fun i hi=>by rw[j0 _ hi]
  refine⟨hlen,fun x hx=>by have:=hrng x hx;lia,?_,fun l hl hx hk=>?_⟩
  ·rw[Pm.mK (D:=D) (by lia) fun x hx=>(hrng x hx).2,Pm.xX,hlen]
   rw[Pm.cV (g:=fun i=>2^(D-Pm.fT (eQ cs) cs.length D i)) fun i hi=>by rw[j0 _ hi]]
   exact w3
  ·rw[hdot];have key:∀ l:List Nat,l.length=cs.length->(∀ x∈l,x<=D)->Kr.ks 40 l<=2^40->Pm.wt ((Pm.shelf (eQ cs) cs.length D).take (2*cs.length-2))<=dot cs (nZ l):=fun l hl hx hk=>by
    rw[pH _ _ hl];refine Pm.pF hcc hn (l:=fun i=>l.getD i 0) (fun i hi=>?_) ?_
    ·rw[KP,Kw (by lia)]
     exact hx _ (Ll _)
    ·rw[Pm.mK (D:=D) (by lia) hx,Pm.xX,hl] at hk
     exact hk
   refine Pn (key (l.map fun x=>min x (cs.length-1)) (by rw[K3];exact hl) (fun x hx'=>?_) ?_) (yY hc)
   ·obtain⟨y,hy,rfl⟩:=Lm.mp hx';have:=(hx y hy).2;lia
   ·have:=Pm.clamp (L:=40) (l:=l) (by lia) (by lia) hk
    rw[hl] at this;exact this
noncomputable def wG:eZ:=fun args Q=>∃ i:Int,args=[.int i]/\Q (.tr (.bl true)) []
theorem xR(T:Txt K mg)(F:HasFn K mg "_law_whole" dc ["found"]):aj P w K mg base aV 1 "_law_whole" ["found"] (spT K [false] wG):=by
 refine F.jJ kl [false] rfl (by decide) (fun args Qt hl h f cdv A outer s H E hr=>?_)
 have hu:=aR hr;obtain⟨i,rfl,q⟩:=h;refine⟨_,(Y.az (Y.ret (Y.and (Y.GI (C:="int") K rfl rfl T.cy (Y.vS 0) rfl T.Cc (by decide +kernel)) (Y.one (Y.not (Y.GI (C:="bool") K rfl rfl T.cy (Y.vS 0) rfl T.Eb (by decide +kernel))))))),?_⟩
 exists (show fO "int" "int"=true by decide),(show fO "int" "bool"=false by decide)
 exact q
noncomputable def tD:eZ:=fun args Q=>∃ ls:List Int,args=[.tup (nI ls),.int (ls.length:Int)]/\Q (.tr (.bl true)) []
abbrev k10z(P w K mg base):=aj P w K mg base aV 2 "_law_wholes" ["found","many"] (spT K [false,false] tD)
theorem tW(T:Txt K mg)(F:HasFn K mg "_law_wholes" bX ["found","many"])(h_law_whole:aj P w K mg base aV 1 "_law_whole" ["found"] (spT K [false] wG)):k10z P w K mg base:=by
 refine F.jJ j3 [false,false] rfl (by decide) (fun args Qt hl h f cdv A outer s H E hr=>?_)
 have hu:=aR hr;obtain⟨ls,rfl,q⟩:=h;refine⟨_,(Y.af (Y.e9 (Y.tw (Y.CC (Y.lP (Y.i6 K rfl (Y.GI (C:="tuple") K rfl rfl T.cy (Y.vS 0) rfl T.bU (by decide +kernel)))) (Y.u3 (Y.aZ (Y.vE K rfl (Lb hu)) Y.yq (Y.cb (Y.aX K rfl) Y.bS rfl T.cU (by decide +kernel) (Y.cons (Y.vS 0) Y.nil)) (Y.vS 1))))) (Y.az (Y.ret Y.bl)) Y.bG)
   (Y.az (Y.ret (Y.cmp (Y.cu K rfl (Lb hu)) Y.dI (Y.jn (osc:=aa bX) (ON:=["found","many"]) (own:=["one"]) (N:=["one","found","many"]) ⟨rfl,by decide +kernel,rfl,by decide +kernel,by decide +kernel,by decide +kernel,by decide +kernel,by decide +kernel⟩ rfl rfl rfl rfl (Y.anyS K rfl (Y.vS 0)) (fun _ _ _ _=>(Z.aO (i:=0) (show List.Nodup (["one","found","many"]:List Str) by decide +kernel) rfl (by right))) (fun _ _ _ _=>(Y.Jr (Y.lP (Y.i6 K rfl (Y.fn K rfl h_law_whole (hr.mono (by decide)) rfl au (Y.cons (Y.vS 0) Y.nil)))))) (fun _ _ _ _=>(Y.vS 0))) (Y.lst Y.nil))))),?_⟩
 refine aB fun N hN=>?_;exists (show fO "tuple" "tuple"=true by decide),aU
 ac_rfl;rfl';refine cx (fun rest acc μ=>∃ r:List Int,rest=nI r/\acc=[]/\μ=[.tr (.tup (nI ls)),.tr (.int (ls.length:Int))]) ⟨ls,rfl,rfl,rfl⟩ ?_ ?_
 ·rintro acc μ ⟨r,_,rfl,rfl⟩;refine⟨trivial,?_⟩;exists (show Y.nS [] []=true from rfl);exact⟨rfl,rfl,q⟩
 ·rintro t r acc μ M ⟨rs,e,rfl,rfl⟩ k
  cases rs with
  |nil=>cases e
  |cons x rs =>
   cases e;refine⟨trivial,by decide,?_⟩
   rfl';refine⟨x,rfl,?_⟩;rfl';exact k _ _ ⟨rs,rfl,rfl,rfl⟩
theorem vz:200000<=sizeLine:=by decide
theorem yK(u:_root_.Fin 2):u=0\/u=1:=by revert u;decide
theorem HM(u:_root_.Fin 3):u=0\/u=1\/u=2:=by revert u;decide
theorem Dk{b:Nat}(h:b<8):b=0\/b=1\/b=2\/b=3\/b=4\/b=5\/b=6\/b=7:=by omega
theorem GW{l:List α}(h:l.length=8):∃ a b c d e f g i,l=[a,b,c,d,e,f,g,i]:=by
 rcases l with _|⟨a,_|⟨b,_|⟨c,_|⟨d,_|⟨e,_|⟨f,_|⟨g,_|⟨i,_|⟨j,l⟩⟩⟩⟩⟩⟩⟩⟩⟩<;>first|exact⟨_,_,_,_,_,_,_,_,rfl⟩ | (exfalso;revert h;simp)
inductive Row where
 |put (b n:Nat)|two (w:Fin 3) (a b:Nat)|one (w:Fin 2) (b:Nat)|jump (g:Nat)|zero (b g:Nat)|halt
 deriving DecidableEq
noncomputable def cB(i:Nat):Str:=⟨#[97+i]⟩
noncomputable def w2:Fin 3->Str
 |0=>"add"
 |1=>"sub"
 |2=>"copy"
noncomputable def w1:Fin 2->Str
 |0=>"tell"
 |1=>"hear"
inductive zx where
 |s (z:Str)|n (k:Nat)
noncomputable def zx.t:zx->L2.T
 |.s z=>.str z
 |.n k=>.int (k:Nat)
noncomputable def Row.ps:Row->List zx
 |.put b n=>[.s "put",.s (cB b),.n n]
 |.two w a b=>[.s (w2 w),.s (cB a),.s (cB b)]
 |.one w b=>[.s (w1 w),.s (cB b)]
 |.jump g=>[.s "jump",.n g]
 |.zero b g=>[.s "zero",.s (cB b),.n g]
 |.halt=>[.s "halt"]
noncomputable def Row.t(r:Row):L2.T:=.tup (r.ps.map zx.t)
noncomputable def Row.Ok(size:Nat):Row->Prop
 |.put b n=>b<8/\n<65536
 |.two _ a b=>a<8/\b<8
 |.one _ b=>b<8
 |.jump g=>g<=size
 |.zero b g=>b<8/\g<=size
 |.halt=>True
theorem Row.Ok.mono{a b:Nat}{r:Row}(h:r.Ok a)(hm:a<=b):r.Ok b:=by
 cases r<;>simp only[Row.Ok] at h ⊢<;>omega
theorem E9{k:Int}(h0:0<=k)(h1:k<8):bC (Str.ofString "abcdefgh").cps.toList k=some (97+k.toNat):=by
 have e:(Str.ofString "abcdefgh").cps.toList=[97,98,99,100,101,102,103,104]:=by decide +kernel
 rw[e];obtain⟨n,rfl⟩:∃ n:Nat,k=n:=⟨k.toNat,by omega⟩
 unfold bC jT;have hn:n<8:=by omega
 rw[Kz (by omega),Kz (by simp;omega)]
 show [97,98,99,100,101,102,103,104][((n:Nat):Int).toNat]?=some (97+((n:Nat):Int).toNat);rw[Lr];rcases Dk hn with rfl|rfl|rfl|rfl|rfl|rfl|rfl|rfl<;>rfl
noncomputable def pT(rs:List Row):List L2.T:=rs.map Row.t
theorem qP(rs:List Row):(pT rs).length=rs.length:=K3 ..
local macro_rules | `(tactic| walk_at "rz") => do
  let ids := ("Nat.reduceAdd Nat.reduceSub Nat.reduceLeDiff L2.Ap.uH L2.Ap.tC L2.Ap.vt L2.Ap.kA L2.Ap.G9 L2.Ap.uq L2.Ap.iX L2.Ap.Bi L2.Ap.fY L2.Ap.zg L2.Ap.wy L2.Ap.j1 L2.Ap.vf L2.Ap.Fh L2.Ap.uS L2.Ap.kh L2.Ap.bJ L2.Ap.zt L2.Ap.nJ L2.Ap.eY L2.Ap.mU L2.Ap.xI L2.Ap.nj L2.Ap.xG L2.Ap.nr L2.Ap.u9 BO xZ L2.Ap.rI L2.Ap.tE L2.Ap.wW L2.Ap.IW L2.Ap.Dd L2.Ap.Iz L2.Ap.HR L2.Ap.ft L2.Ap.setRef L2.Ap.mr L2.Ap.mx L2.start Hz DM Ht HN List.map_cons List.map_nil List.length_cons List.length_nil List.length_set List.replicate List.cons_append List.nil_append List.append_nil List.getElem?_cons_zero List.getElem?_cons_succ List.set_cons_zero List.set_cons_succ Option.some.injEq exists_eq_left exists_eq_left' V.bl.injEq V.ref.injEq List.cons.injEq and_true true_and decide_eq_true_eq Bool.not_eq_true' decide_eq_false_iff_not Bool.false_eq_true L2.Ap.oV L2.Ap.wJ L2.Ap.vD L2.Ap.j7 L2.Ap.oz L2.Ap.oA L2.Ap.mW L2.Ap.we".splitOn " ").toArray.map fun n => Lean.mkIdent n.toName
  `(tactic| simp only [↓reduceIte, $[$ids:ident],*])
noncomputable def BW:List Key:=[.inr "a",.inr "b",.inr "c",.inr "d",.inr "e",.inr "f",.inr "g",.inr "h"]
structure mF where
 given:List Int
 heard:Nat
 told:List Int
 bs:List Int
noncomputable def iV(xs:List Int):List V:=xs.map V.int
structure MA where
 m:Addr
 dx:Addr
 gv:Addr
 tl:Addr
 bx:Addr
noncomputable def zF(a:MA)(h:Nat):List (Str×V):=[("given",.ref a.gv),("heard",.int (h:Nat)),("told",.ref a.tl),("boxes",.ref a.bx)]
structure MS (K:Pq) (C:Addr) (H:Hp) (a:MA) (st:mF):Prop where
 om:H a.m=some (.ins C a.dx (zF a st.heard))
 od:H a.dx=some (.own a.m)
 og:H a.gv=some (.tup (iV st.given))
 ot:H a.tl=some (.lst (iV st.told))
 ob:H a.bx=some (.dK (BW.zip (iV st.bs)))
 l8:st.bs.length=8
 hh:st.heard<=st.given.length
noncomputable def MF(a:MA):List Addr:=[a.m,a.tl,a.bx]
theorem n_(a:MA)(h:Nat):(zF a h).lookup ("given":Str)=some (.ref a.gv):=rfl
theorem jq(a:MA)(h:Nat):(zF a h).lookup ("heard":Str)=some (.int (h:Nat)):=rfl
theorem sA(a:MA)(h:Nat):(zF a h).lookup ("told":Str)=some (.ref a.tl):=rfl
theorem d_(a:MA)(h:Nat):(zF a h).lookup ("boxes":Str)=some (.ref a.bx):=rfl
theorem uv(a:MA)(h k:Nat):cZ "heard" (.int (k:Nat)) (zF a h)=zF a k:=rfl
theorem MS.ne1{a:MA}{st:mF}(M:MS K C H a st):a.tl≠a.m/\a.bx≠a.m/\a.gv≠a.m/\a.dx≠a.m/\a.bx≠a.tl/\a.gv≠a.tl/\a.dx≠a.tl/\a.gv≠a.bx/\a.dx≠a.bx:=by
 have h1:=M.om;have h2:=M.od;have h3:=M.og;have h4:=M.ot;have h5:=M.ob;have ap:∀{x y:Addr} {o o':HO},H x=some o->H y=some o'->o≠o'->x≠y:=fun h h' n e=>n (by rw[e] at h;exact Option.some.inj (h.symm.trans h'))
 exact⟨ap h4 h1 (by simp),ap h5 h1 (by simp),ap h3 h1 (by simp),ap h2 h1 (by simp),ap h5 h4 (by simp),ap h3 h4 (by simp),ap h2 h4 (by simp),ap h3 h5 (by simp),ap h2 h5 (by simp)⟩
noncomputable def rM(K:Pq)(C:Addr):Sp:=fun vs H Q _=>∃(a:MA) (st:mF),vs=[.ref a.m]/\MS K C H a st /\
 (st.given.length<=st.heard->Q (.int 0) H)/\∀ x,st.given[st.heard]?=some x->∀ H',MS K C H' a {st with heard:=st.heard+1}->KB (MF a) H H'->Q (.int x) H'
theorem yy(T:Txt K mg)(cM:jU K C)(na_given:aY K C "given")(na_heard:aY K C "heard")(F:iM K "heard_number" "Machine.heard_number" ao f fd):bD P w K mg base aV 1 f fd ["self"] (rM K C):=by
 refine F.ok dZ (fun vs H Q E h=>?_) (fun cdv A outer s H vs Q E hr h=>?_)
 ·obtain⟨a,st,rfl,_⟩:=h;rfl
 ·obtain⟨a,st,rfl,M,q1,q2⟩:=h;have hu:=aR hr;have key:∃ t,QB (eE aV P w K mg base ["self"] "Machine.heard_number" (aa ao) f cdv A outer s H E).mD (aC ao) t/\t {nx:=fun _ H'=>Q .aM H',rt:=Q} (start ["self"] [.ref a.m]) H:=by
   refine⟨_,(Z.af (Z.e9 (Z.aZ rJ (Z.fld K rfl (Z.v 0)) (Z.cb (Z.rd K rfl) rfl T.cU (by decide +kernel) (Z.cons (Z.fld K rfl (Z.v 0)) Z.nil))) (Z.az (Z.ret Z.int)) Z.bG)
   (Z.af (Z.yk K rfl (Z.v 0) (Z.op (Z.lh K rfl) (Z.fld K rfl (Z.v 0)) Z.int))
   (Z.az (Z.ret (Z.ix (Z.gq K rfl hu) (Z.fld K rfl (Z.v 0)) (Z.op b_ (Z.fld K rfl (Z.v 0)) Z.int)))))),?_⟩
   have e1:sq H a.gv=some (false,iV st.given):=eI M.og;have hl:(iV st.given).length=st.given.length:=K3 ..;refine b9 fun N hN=>?_;walk_at "rz";refine⟨a.m,C,a.dx,_,_,rfl,M.om,cM,na_heard,jq a _,a.m,C,a.dx,_,_,rfl,M.om,cM,na_given,n_ a _,?_⟩;simp only[L2.Ap.mr,e1,hl];walk_at "rz";by_cases h1:st.given.length<=st.heard
   ·rw[Kz (by omega)]
    exact q1 h1
   ·rw[Kx (by omega),hN];clear hN N
    have h2:st.heard<st.given.length:=by omega
    obtain⟨n1,n2,n3,n4,n5,n6,n7,n8,n9⟩:=M.ne1;have M':MS K C (upd H a.m (.ins C a.dx (zF a (st.heard+1)))) a {st with heard:=st.heard+1}:=⟨ae,by rw[ab n4];exact M.od,by rw[ab n3];exact M.og,by rw[ab n1];exact M.ot,by rw[ab n2];exact M.ob,M.l8,h2⟩
    refine b9 fun N hN=>?_;walk_at "rz";refine⟨a.m,C,a.dx,_,_,rfl,M.om,cM,na_heard,jq a _,?_⟩;walk_at "rz";refine⟨a.m,C,a.dx,_,rfl,M.om,cM,na_heard,(show 4<1000 by decide),?_⟩
    rw[show ((st.heard:Nat):Int)+1=((st.heard+1:Nat):Int) from rfl,uv,hN];clear hN N;walk_at "rz";refine⟨a.m,C,a.dx,_,_,rfl,M'.om,cM,na_given,n_ a _,a.m,C,a.dx,_,_,rfl,M'.om,cM,na_heard,jq a _,?_⟩;have e2:sq (upd H a.m (.ins C a.dx (zF a (st.heard+1)))) a.gv=some (false,iV st.given):=eI M'.og;have e3:bC (iV st.given) (((st.heard+1:Nat):Int)-1)=some (V.int st.given[st.heard]):=by
     rw[show ((st.heard+1:Nat):Int)-1=((st.heard:Nat):Int) by omega]
     exact bZ (by unfold iV;rw[KL,Kw h2];rfl)
    simp only[L2.Ap.tE,L2.Ap.ft,e2,e3];exact q2 _ (Kw h2) _ M' (KB.set (by unfold MF;simp))
  obtain⟨t,hb,ht⟩:=key;exact⟨t,hb.h,ht⟩
noncomputable def zx.v:zx->V
 |.s z=>.str z
 |.n k=>.int (k:Nat)
noncomputable def Row.vs(r:Row):List V:=r.ps.map zx.v
noncomputable def rL(bs:List Int)(b:Nat):Int:=bs[b]?.getD 0
theorem qR:∀(b:Nat),b<8->∀ bs:List Int,bs.length=8->gr (BW.zip (iV bs)) (.inr (cB b))=some (.int (rL bs b)):=by
 intro b hb bs hl;obtain⟨x0,x1,x2,x3,x4,x5,x6,x7,rfl⟩:=GW hl;rcases Dk hb with rfl|rfl|rfl|rfl|rfl|rfl|rfl|rfl<;>rfl
theorem CP:∀(b:Nat),b<8->∀(bs:List Int) (x:Int),bs.length=8->putK (BW.zip (iV bs)) (.inr (cB b)) (.int x)=BW.zip (iV (bs.set b x)):=by
 intro b hb bs x hl;obtain⟨x0,x1,x2,x3,x4,x5,x6,x7,rfl⟩:=GW hl;rcases Dk hb with rfl|rfl|rfl|rfl|rfl|rfl|rfl|rfl<;>rfl
noncomputable def gC(st:mF):Int×mF:=match st.given[st.heard]? with
 |some x=>(x,{st with heard:=st.heard+1})
 |none=>(0,st)
noncomputable def bI(st:mF):Row->Int×mF
 |.put _ n=>((n:Nat),st)
 |.two w a b=>((match w with
  |0=>(rL st.bs a+rL st.bs b) % 65536
  |1=>(rL st.bs a-rL st.bs b) % 65536
  |2=>rL st.bs b % 65536),st)
 |.one _ _=>((gC st).1 % 65536,(gC st).2)
 |_=>(0,st)
noncomputable def isNum:Row->Bool
 |.put _ _=>true
 |.two _ _ _=>true
 |.one 1 _=>true
 |_=>false
noncomputable def BQ(K:Pq)(C:Addr):Sp:=fun vs H Q _=>∃(a:MA) (st:mF) (p:Addr) (r:Row),vs=[.ref a.m,.ref p]/\MS K C H a st/\H p=some (.tup r.vs)/\r.Ok 100000/\isNum r=true /\
 ∀ H',MS K C H' a (bI st r).2->KB (MF a) H H'->Q (.int (bI st r).1) H'
theorem Dp{fh:Addr}{d_heard_number:FuncData}(T:Txt K mg)(cM:jU K C)(na_boxes:aY K C "boxes")(mm_heard_number:Meth K C "heard_number" fh)(bm_heard_number:Binds K d_heard_number ["self"] [])(FO_heard_number:bD P w K mg base aV 1 fh d_heard_number ["self"] (rM K C))(F:iM K "number_for" "Machine.number_for" aw f fd):bD P w K mg base aV 2 f fd ["self","row"] (BQ K C):=by
 obtain⟨w_WHOLE,u_WHOLE,hg_WHOLE,hr_WHOLE,rp_WHOLE⟩:=T.Ab;have ew:w_WHOLE=.int 65536:=by
  have:=rp_WHOLE (fun _=>none) (fun _=>False)
  cases this;rfl
 subst ew;refine F.ok a_ (fun vs H Q E h=>?_) (fun cdv A outer s H vs Q E hr h=>?_)
 ·obtain⟨a,st,p,r,rfl,_⟩:=h;rfl
 ·obtain⟨a,st,p,r,rfl,M,hp,aD,hi,q⟩:=h;have hu:=aR hr;have key:∃ t,QB (eE aV P w K mg base ["self","row","word","old","other"] "Machine.number_for" (aa aw) f cdv A outer s H E).mD (aC aw) t/\t {nx:=fun _ H'=>Q .aM H',rt:=Q} (start ["self","row","word","old","other"] [.ref a.m,.ref p]) H:=by
   refine⟨_,(Z.af (Z.set (i:=2) a_.nd rfl (by right) (Z.ix (Z.gq K rfl hu) (Z.v 1) Z.int))
   (Z.af (Z.e9 (Z.aZ eC (Z.v 2) Z.str) (Z.az (Z.ret (Z.ix (Z.gq K rfl hu) (Z.v 1) Z.int))) Z.bG)
   (Z.af (Z.e9 (Z.aZ eC (Z.v 2) Z.str) (Z.az (Z.ret (Z.op dO (Z.xU K rfl (Z.v 0) cM mm_heard_number FO_heard_number (hr.mono (by decide)) bm_heard_number au) (Z.glob rfl hg_WHOLE hr_WHOLE)))) Z.bG)
   (Z.af (Z.set (i:=3) a_.nd rfl (by right) (Z.yx hu (Z.fld K rfl (Z.v 0)) (Z.ix (Z.gq K rfl hu) (Z.v 1) Z.int)))
   (Z.af (Z.set (i:=4) a_.nd rfl (by right) (Z.yx hu (Z.fld K rfl (Z.v 0)) (Z.ix (Z.gq K rfl hu) (Z.v 1) Z.int)))
   (Z.af (Z.e9 (Z.aZ eC (Z.v 2) Z.str) (Z.az (Z.ret (Z.op dO (Z.op (Z.lh K rfl) (Z.v 3) (Z.v 4)) (Z.glob rfl hg_WHOLE hr_WHOLE)))) Z.bG)
   (Z.af (Z.e9 (Z.aZ eC (Z.v 2) Z.str) (Z.az (Z.ret (Z.op dO (Z.op b_ (Z.v 3) (Z.v 4)) (Z.glob rfl hg_WHOLE hr_WHOLE)))) Z.bG)
   (Z.az (Z.ret (Z.op dO (Z.v 4) (Z.glob rfl hg_WHOLE hr_WHOLE))))))))))),?_⟩
   have e1:sq H p=some (false,r.vs):=eI hp;refine b9 fun N hN=>?_;walk_at "rz";simp only[L2.Ap.ft,e1];have dg:∀ b,b<8->va H a.bx (.str (cB b)) (some (.int (rL st.bs b))):=fun b hb=>.inl ⟨_,.inr (cB b),.inl M.ob,rfl,(qR b hb st.bs M.l8).symm⟩;have sD:∀{x y:Str} {P1 P2:Prop},x≠y->P2->(if x=y then P1 else P2):=fun h h2=>by rw[Kx h];exact h2
   cases r with
   |put b n =>
    show N [some (.ref a.m),some (.ref p),some (.str "put"),none,none] H;rw[hN];clear hN N;refine b9 fun N hN=>?_;walk_at "rz";simp only[L2.Ap.ft,e1];exact q H M (KB.refl _ _)
   |two u b c =>
    show N [some (.ref a.m),some (.ref p),some (.str (w2 u)),none,none] H;have hput:w2 u≠"put":=(show ∀ u,w2 u≠"put" by decide +kernel) u
    have hhear:w2 u≠"hear":=(show ∀ u,w2 u≠"hear" by decide +kernel) u
    rw[hN];clear hN N;refine b9 fun N hN=>?_;walk_at "rz";refine sD hput ?_;rw[hN];clear hN N;refine b9 fun N hN=>?_;walk_at "rz";refine sD hhear ?_;rw[hN];clear hN N;refine b9 fun N hN=>?_;walk_at "rz";refine⟨a.m,C,a.dx,_,_,rfl,M.om,cM,na_boxes,d_ a _,?_⟩;simp only[L2.Ap.ft,e1];refine⟨a.bx,_,rfl,dg b aD.1,?_⟩;rw[hN];clear hN N;refine b9 fun N hN=>?_;walk_at "rz";refine⟨a.m,C,a.dx,_,_,rfl,M.om,cM,na_boxes,d_ a _,?_⟩;simp only[L2.Ap.ft,e1];refine⟨a.bx,_,rfl,dg c aD.2,?_⟩;rw[hN];clear hN N;have fin:=q H M (KB.refl _ _);have hs:w2 1="sub":=rfl;refine b9 fun N hN=>?_;walk_at "rz";rcases HM u with rfl|rfl|rfl
    ·rw[Kz (show w2 0="add" from rfl)];exact⟨by decide,fin⟩
    ·refine sD (by decide +kernel) ?_
     rw[hN];clear hN N;refine b9 fun N hN=>?_;walk_at "rz";rw[Kz (show w2 1="sub" from rfl)];exact⟨by decide,fin⟩
    ·refine sD (by decide +kernel) ?_
     rw[hN];clear hN N;refine b9 fun N hN=>?_;walk_at "rz";refine sD (by decide +kernel) ?_
     rw[hN];clear hN N;walk_at "rz";exact⟨by decide,fin⟩
   |one u b =>
    have hu1:u=1:=by
     rcases yK u with h|h
     ·rw[h] at hi;cases hi
     ·exact h
    subst hu1;show N [some (.ref a.m),some (.ref p),some (.str "hear"),none,none] H;rw[hN];clear hN N;refine b9 fun N hN=>?_;walk_at "rz";refine sD (by decide +kernel) ?_
    rw[hN];clear hN N;refine b9 fun N hN=>?_;walk_at "rz";refine⟨a.m,a.dx,_,rfl,M.om,rfl,a,st,rfl,M,fun h=>?_,fun x hx H' M' kb=>?_⟩
    ·have e0:gC st=(0,st):=by unfold gC;rw[K_.mpr h]
     have e2:bI st (.one 1 b)=(0 % 65536,st):=by unfold bI;rw[e0]
     rw[e2] at q;walk_at "rz";exact⟨by decide,q H M (KB.refl _ _)⟩
    ·have e0:gC st=(x,{st with heard:=st.heard+1}):=by unfold gC;rw[hx]
     have e2:bI st (.one 1 b)=(x % 65536,{st with heard:=st.heard+1}):=by unfold bI;rw[e0]
     rw[e2] at q;walk_at "rz";exact⟨by decide,q H' M' kb⟩
   |jump g=>cases hi
   |zero b g=>cases hi
   |halt=>cases hi
  obtain⟨t,hb,ht⟩:=key;exact⟨t,hb.h,ht⟩
noncomputable def carry(st:mF):Row->Bool×mF
 |.jump _=>(true,st)
 |.zero b _=>(decide (rL st.bs b=0),st)
 |.one 0 b=>(false,{st with told:=st.told++[rL st.bs b]})
 |.halt=>(false,st)
 |.put b n=>(false,{(bI st (.put b n)).2 with bs:=(bI st (.put b n)).2.bs.set b (bI st (.put b n)).1})
 |.two w a b=>(false,{(bI st (.two w a b)).2 with bs:=(bI st (.two w a b)).2.bs.set a (bI st (.two w a b)).1})
 |.one 1 b=>(false,{(bI st (.one 1 b)).2 with bs:=(bI st (.one 1 b)).2.bs.set b (bI st (.one 1 b)).1})
noncomputable def sJ(K:Pq)(C:Addr):Sp:=fun vs H Q _=>∃(a:MA) (st:mF) (p:Addr) (r:Row),vs=[.ref a.m,.ref p]/\MS K C H a st/\H p=some (.tup r.vs)/\r.Ok 100000/\st.told.length<100000 /\
 ∀ H',MS K C H' a (carry st r).2->KB (MF a) H H'->Q (.bl (carry st r).1) H'
theorem xT{fn:Addr}{d_number_for:FuncData}(T:Txt K mg)(cM:jU K C)(na_boxes:aY K C "boxes")(na_told:aY K C "told")(mm_number_for:Meth K C "number_for" fn)(bm_number_for:Binds K d_number_for ["self","row"] [])(FO_number_for:bD P w K mg base aV 2 fn d_number_for ["self","row"] (BQ K C))(F:iM K "carry_out" "Machine.carry_out" ay f fd):bD P w K mg base aV 3 f fd ["self","row"] (sJ K C):=by
 refine F.ok cS (fun vs H Q E h=>?_) (fun cdv A outer s H vs Q E hr h=>?_)
 ·obtain⟨a,st,p,r,rfl,_⟩:=h;rfl
 ·obtain⟨a,st,p,r,rfl,M,hp,aD,htl,q⟩:=h;have hu:=aR hr;have key:∃ t,QB (eE aV P w K mg base ["self","row","word"] "Machine.carry_out" (aa ay) f cdv A outer s H E).mD (aC ay) t/\t {nx:=fun _ H'=>Q .aM H',rt:=Q} (start ["self","row","word"] [.ref a.m,.ref p]) H:=by
   refine⟨_,(Z.af (Z.set (i:=2) cS.nd rfl (by right) (Z.ix (Z.gq K rfl hu) (Z.v 1) Z.int))
   (Z.af (Z.e9 (Z.aZ eC (Z.v 2) Z.str) (Z.az (Z.ret Z.bl)) Z.bG)
   (Z.af (Z.e9 (Z.aZ eC (Z.v 2) Z.str) (Z.az (Z.ret (Z.cmp eC (Z.yx hu (Z.fld K rfl (Z.v 0)) (Z.ix (Z.gq K rfl hu) (Z.v 1) Z.int)) Z.int))) Z.bG)
   (Z.af (Z.e9 (Z.aZ eC (Z.v 2) Z.str) (Z.az (Z.expr (Z.bm K rfl PySem.F.plainAttrs_list PySem.F.slot_list_append PySem.F.type_list_append fD (Z.fld K rfl (Z.v 0)) (Z.cons (Z.yx hu (Z.fld K rfl (Z.v 0)) (Z.ix (Z.gq K rfl hu) (Z.v 1) Z.int)) Z.nil)))) (Z.az (Z.e9 (Z.aZ Ey (Z.v 2) Z.str) (Z.az (Z.dput hu (Z.fld K rfl (Z.v 0)) (Z.ix (Z.gq K rfl hu) (Z.v 1) Z.int) (Z.Ei K rfl (Z.v 0) cM mm_number_for FO_number_for (hr.mono (by decide)) bm_number_for au (Z.cons (Z.v 1) Z.nil)))) Z.bG)))
   (Z.az (Z.ret Z.bl)))))),?_⟩
   have e1:sq H p=some (false,r.vs):=eI hp;obtain⟨n1,n2,n3,n4,n5,n6,n7,n8,n9⟩:=M.ne1;refine b9 fun N hN=>?_;walk_at "rz";simp only[L2.Ap.ft,e1];have dg:∀ b,b<8->va H a.bx (.str (cB b)) (some (.int (rL st.bs b))):=fun b hb=>.inl ⟨_,.inr (cB b),.inl M.ob,rfl,(qR b hb st.bs M.l8).symm⟩;have sD:∀{x y:Str} {P1 P2:Prop},x≠y->P2->(if x=y then P1 else P2):=fun h h2=>by rw[Kx h];exact h2
   have go:∀(r':Row) (wd:Str) (b:Nat),r.vs=.str wd::.str (cB b)::(r.vs.drop 2)->b<8->isNum r=true->wd≠"jump"->wd≠"zero"->wd≠"tell"->wd≠"halt"->carry st r=(false,{(bI st r).2 with bs:=(bI st r).2.bs.set b (bI st r).1})->N [some (.ref a.m),some (.ref p),some (.str wd)] H:=by
    intro r' wd b ev hb hi w1 w2 w3 w4 ec;rw[hN];clear hN N;refine b9 fun N hN=>?_;walk_at "rz";refine sD w1 ?_;rw[hN];clear hN N;refine b9 fun N hN=>?_;walk_at "rz";refine sD w2 ?_;rw[hN];clear hN N;refine b9 fun N hN=>?_;walk_at "rz";refine sD w3 ?_;rw[Kz (show ¬ wd="halt" from w4)];refine⟨a.m,a.dx,_,rfl,M.om,rfl,a,st,p,r,rfl,M,hp,aD,hi,fun H1 M1 kb=>?_⟩;have hp1:H1 p=some (.tup r.vs):=kb _ _ hp (by
     unfold MF;simp only[K4,KZ,LO,Oz];exact⟨fun e=>(by rw[e,M.om] at hp;cases hp),fun e=>(by rw[e,M.ot] at hp;cases hp),fun e=>(by rw[e,M.ob] at hp;cases hp)⟩)
    have e2:sq H1 p=some (false,r.vs):=eI hp1;refine⟨a.m,C,a.dx,_,_,rfl,M1.om,cM,na_boxes,d_ a _,?_⟩;rw[e2,ev];simp only[DM];obtain⟨k1,k2,k3,k4,k5,k6,k7,k8,k9⟩:=M1.ne1;refine⟨a.bx,_,rfl,.inl ⟨_,.inr (cB b),M1.ob,rfl,?_,rfl⟩,?_⟩
    ·have l8:=M1.l8;rw[OC];exact Lc (Nat.min_le_left _ _) (by decide)
    rw[CP b hb _ _ M1.l8,hN];clear hN N;walk_at "rz";rw[ec] at q;refine q _ ⟨by rw[ab k2.symm];exact M1.om,by rw[ab k9];exact M1.od,by rw[ab k8];exact M1.og,by rw[ab k5.symm];exact M1.ot,ae,by rw[Lp];exact M1.l8,M1.hh⟩ (kb.trans (KB.set (by unfold MF;simp)))
   cases r with
   |put b n=>exact go (.put b n) "put" b rfl aD.1 rfl (by decide +kernel) (by decide +kernel) (by decide +kernel) (by decide +kernel) rfl
   |two u b c=>exact go (.two u b c) (w2 u) b rfl aD.1 rfl ((show ∀ u,w2 u≠"jump" by decide +kernel) u) ((show ∀ u,w2 u≠"zero" by decide +kernel) u) ((show ∀ u,w2 u≠"tell" by decide +kernel) u) ((show ∀ u,w2 u≠"halt" by decide +kernel) u) rfl
   |one u b =>
    rcases yK u with rfl|rfl
    rotate_left
    ·exact go (.one 1 b) "hear" b rfl aD rfl (by decide +kernel) (by decide +kernel) (by decide +kernel) (by decide +kernel) rfl
    ·show N [some (.ref a.m),some (.ref p),some (.str "tell")] H;rw[hN];clear go hN N;refine b9 fun N hN=>?_;walk_at "rz";refine sD (by decide +kernel) ?_
     rw[hN];clear hN N;refine b9 fun N hN=>?_;walk_at "rz";refine sD (by decide +kernel) ?_
     rw[hN];clear hN N;refine b9 fun N hN=>?_;walk_at "rz";refine⟨a.m,C,a.dx,_,_,rfl,M.om,cM,na_told,sA a _,Or.inl ⟨rfl,_,bz.of M.ot⟩,a.m,C,a.dx,_,_,rfl,M.om,cM,na_boxes,d_ a _,?_⟩;simp only[L2.Ap.ft,e1];refine⟨a.bx,_,rfl,dg b aD,?_⟩;refine⟨a.tl,_,_,rfl,rfl,M.ot,?_,?_⟩
     ·unfold iV;rw[K3];exact MT htl (KU (by decide) vz)
     rw[hN];clear hN N;walk_at "rz";refine q _ ⟨by rw[ab n1.symm];exact M.om,by rw[ab n7];exact M.od,by rw[ab n6];exact M.og,?_,by rw[ab n5];exact M.ob,M.l8,M.hh⟩ (KB.set (by unfold MF;simp))
     rw[ae];show some (HO.lst (iV st.told++[V.int (rL st.bs b)]))=some (.lst (iV (st.told++[rL st.bs b])));unfold iV;rw[KI];rfl
   |jump g =>
    show N [some (.ref a.m),some (.ref p),some (.str "jump")] H;rw[hN];clear go hN N;refine b9 fun N hN=>?_;walk_at "rz";exact q H M (KB.refl _ _)
   |zero b g =>
    show N [some (.ref a.m),some (.ref p),some (.str "zero")] H;rw[hN];clear go hN N;refine b9 fun N hN=>?_;walk_at "rz";refine sD (by decide +kernel) ?_
    rw[hN];clear hN N;refine b9 fun N hN=>?_;walk_at "rz";refine⟨a.m,C,a.dx,_,_,rfl,M.om,cM,na_boxes,d_ a _,?_⟩;simp only[L2.Ap.ft,e1];refine⟨a.bx,_,rfl,dg b aD.1,?_⟩;walk_at "rz";exact q H M (KB.refl _ _)
   |halt =>
    show N [some (.ref a.m),some (.ref p),some (.str "halt")] H;rw[hN];clear go hN N;refine b9 fun N hN=>?_;walk_at "rz";refine sD (by decide +kernel) ?_
    rw[hN];clear hN N;refine b9 fun N hN=>?_;walk_at "rz";refine sD (by decide +kernel) ?_
    rw[hN];clear hN N;refine b9 fun N hN=>?_;walk_at "rz";refine sD (by decide +kernel) ?_
    rw[Kx (by simp),hN];clear hN N
    walk_at "rz";exact q H M (KB.refl _ _)
  obtain⟨t,hb,ht⟩:=key;exact⟨t,hb.h,ht⟩
noncomputable def rn:Row->Option Nat
 |.jump g=>some g
 |.zero _ g=>some g
 |_=>none
noncomputable def t7(r:Row):L2.T:=match rn r with
 |some g=>.int (g:Nat)
 |none=>.aM
noncomputable def yA:eZ:=fun args Q=>∃ r:Row,args=[r.t]/\Q (.tr (t7 r)) []
abbrev k5z(P w K mg base):=aj P w K mg base aV 1 "goal_of" ["row"] (spT K [false] yA)
theorem Ao(T:Txt K mg)(F:HasFn K mg "goal_of" fF ["row"]):k5z P w K mg base:=by
 refine F.jJ qz [false] rfl (by decide) (fun args Qt hl h f cdv A outer s H E hr=>?_)
 have hu:=aR hr;obtain⟨r,rfl,q⟩:=h;refine⟨_,(Y.az (Y.ret (Y.GB (Y.aZ (Y.Dy K rfl) Y.FK Y.str (Y.JP K rfl rfl T.j5 (Y.ix (Y.bp K rfl) Y.aA (Y.vS 0) Y.int))) (Y.ix (Y.bp K rfl) Y.aA (Y.vS 0) (Y.neg Y.int)) Y.aM))),?_⟩;unfold Row.t;have yes:∀{ws:List L2.T} {P1 P2:Prop},ws.all aK=true->Y.oX (.str "goal") ws=true->P1->aK (.str "goal")=true/\ws.all aK=true/\(if Y.oX (.str "goal") ws=true then P1 else P2):=fun h1 h2 p=>⟨rfl,h1,by rw[Kz h2];exact p⟩
 have no:∀{ws:List L2.T} {P1 P2:Prop},ws.all aK=true->Y.oX (.str "goal") ws=false->P2->aK (.str "goal")=true/\ws.all aK=true/\(if Y.oX (.str "goal") ws=true then P1 else P2):=fun h1 h2 p=>⟨rfl,h1,by rw[Kx (by rw[h2];decide)];exact p⟩
 cases r with
 |jump g=>rfl';exact yes rfl (by decide +kernel) q
 |zero b g=>rfl';exact yes rfl (by decide +kernel) q
 |put b n=>rfl';exact no rfl (by decide +kernel) q
 |two u b c =>
  rfl';rcases HM u with rfl|rfl|rfl<;>exact no rfl (by decide +kernel) q
 |one u b =>
  rfl';rcases yK u with rfl|rfl<;>exact no rfl (by decide +kernel) q
 |halt=>rfl';exact no rfl (by decide +kernel) q
theorem Ad{p:Addr}{r:Row}(h:H p=some (.tup r.vs)):Rep K H (fun _=>False) (.ref p) r.t:=by
 refine .tup (fun z=>z) h ?_;unfold Row.vs;generalize r.ps=ps
 induction ps with
 |nil=>exact .nil
 |cons x ps ih =>
  refine .cons ?_ ih
  cases x with
  |s z=>exact .str z
  |n k=>exact .int _
noncomputable def place(st:mF)(r:Row)(bh en:Int):Int:=match r with
 |.halt=>en
 |r=>if (carry st r).1=true then ((rn r).getD 0:Nat) else bh
noncomputable def BC(K:Pq)(C:Addr):Sp:=fun vs H Q _=>∃(a:MA) (st:mF) (p:Addr) (r:Row) (bh en:Int),vs=[.ref a.m,.ref p,.int bh,.int en]/\MS K C H a st/\H p=some (.tup r.vs)/\r.Ok 100000/\st.told.length<100000 /\
 ∀ H',MS K C H' a (carry st r).2->KB (MF a) H H'->Q (.int (place st r bh en)) H'
theorem xD{fc:Addr}{d_carry_out:FuncData}(T:Txt K mg)(hgoal_of:k5z P w K mg base)(cM:jU K C)(mm_carry_out:Meth K C "carry_out" fc)(bm_carry_out:Binds K d_carry_out ["self","row"] [])(FO_carry_out:bD P w K mg base aV 3 fc d_carry_out ["self","row"] (sJ K C))(F:iM K "place_next" "Machine.place_next" av f fd):bD P w K mg base aV 4 f fd ["self","row","behind","end"] (BC K C):=by
 refine F.ok cE (fun vs H Q E h=>?_) (fun cdv A outer s H vs Q E hr h=>?_)
 ·obtain⟨a,st,p,r,bh,en,rfl,_⟩:=h;rfl
 ·obtain⟨a,st,p,r,bh,en,rfl,M,hp,aD,htl,q⟩:=h;have hu:=aR hr;have key:∃ t,QB (eE aV P w K mg base ["self","row","behind","end","goes"] "Machine.place_next" (aa av) f cdv A outer s H E).mD (aC av) t/\t {nx:=fun _ H'=>Q .aM H',rt:=Q} (start ["self","row","behind","end","goes"] [.ref a.m,.ref p,.int bh,.int en]) H:=by
   refine⟨_,(Z.af (Z.set (i:=4) cE.nd rfl (by right) (Z.Ei K rfl (Z.v 0) cM mm_carry_out FO_carry_out (hr.mono (by decide)) bm_carry_out au (Z.cons (Z.v 1) Z.nil)))
   (Z.af (Z.e9 (Z.aZ eC (Z.ix (Z.gq K rfl hu) (Z.v 1) Z.int) Z.str) (Z.az (Z.ret (Z.v 3))) Z.bG)
   (Z.az (Z.ret (Z.GB (Z.Ae K rfl (Z.v 4)) (Z.fn hgoal_of (hr.mono (by decide)) rfl au (Z.cons (Z.v 1) Z.nil)) (Z.v 2)))))),?_⟩
   refine b9 fun N hN=>?_;walk_at "rz";refine⟨a.m,a.dx,_,rfl,M.om,rfl,a,st,p,r,rfl,M,hp,aD,htl,fun H1 M1 kb=>?_⟩;have hp1:H1 p=some (.tup r.vs):=kb _ _ hp (by
    unfold MF;simp only[K4,KZ,LO,Oz];exact⟨fun e=>(by rw[e,M.om] at hp;cases hp),fun e=>(by rw[e,M.ot] at hp;cases hp),fun e=>(by rw[e,M.ob] at hp;cases hp)⟩)
   have e2:sq H1 p=some (false,r.vs):=eI hp1;walk_at "rz";rw[hN];clear hN N;refine b9 fun N hN=>?_;walk_at "rz";simp only[L2.Ap.ft,e2];have fin:=q H1 M1 kb;by_cases hh:r=.halt
   ·subst hh;show CK (.str "halt") (.str "halt") H1 _;simp only[L2.Ap.Dd];exact⟨_,rfl,by rw[Kz (by simp)];exact fin⟩
   ·obtain⟨wd,hw,hne⟩:∃ wd,bC r.vs 0=some (.str wd)/\wd≠"halt":=by
     cases r with
     |put b n=>exact⟨_,rfl,by decide +kernel⟩
     |two u b c=>exact⟨_,rfl,(show ∀ u,w2 u≠"halt" by decide +kernel) u⟩
     |one u b=>exact⟨_,rfl,(show ∀ u,w1 u≠"halt" by decide +kernel) u⟩
     |jump g=>exact⟨_,rfl,by decide +kernel⟩
     |zero b g=>exact⟨_,rfl,by decide +kernel⟩
     |halt=>exact absurd rfl hh
    have ep:place st r bh en=if (carry st r).1=true then (((rn r).getD 0:Nat):Int) else bh:=by
     cases r<;>first|rfl|exact absurd rfl hh
    rw[hw];simp only[L2.Ap.Dd];refine⟨_,rfl,?_⟩;rw[Kx (by simpa using hne),hN];clear hN N
    walk_at "rz"
    cases hc:(carry st r).1 with
    |false =>
     rw[Kx (by decide)]
     rw[ep,hc] at fin;exact fin
    |true =>
     rw[Kz rfl];obtain⟨g,hg⟩:∃ g,rn r=some g:=by
      cases r with
      |put b n=>cases hc
      |two u b c=>cases hc
      |one u b =>
       rcases yK u with rfl|rfl<;>cases hc
      |jump g=>exact⟨g,rfl⟩
      |zero b g=>exact⟨g,rfl⟩
      |halt=>cases hc
     refine⟨fun _=>False,[r.t],fun rr outs=>rr=.tr (t7 r),⟨Ad hp1,trivial⟩,fun b z=>z.elim,MV,⟨r,rfl,rfl⟩,fun v H' rr outs hq kp res=>?_⟩;subst hq;have hT:t7 r=.int (g:Nat):=by unfold t7;rw[hg]
     rw[hT] at res;have rp:=res.1;cases rp;have sm:∀ b o,H1 b=some o->H' b=some o:=fun b o e=>kp b o e (by simp[oZ])
     have:=q H' ⟨sm _ _ M1.om,sm _ _ M1.od,sm _ _ M1.og,sm _ _ M1.ot,sm _ _ M1.ob,M1.l8,M1.hh⟩ (kb.trans fun b o e _=>sm b o e);rw[ep,hc,hg] at this;exact this
  obtain⟨t,hb,ht⟩:=key;exact⟨t,hb.h,ht⟩
noncomputable def CM(K:Pq)(C:Addr):Sp:=fun vs H Q _=>∃(a:MA) (st:mF),vs=[.ref a.m]/\MS K C H a st/\∀ p,H p=none->Q (.ref p) (upd H p (.tup (iV st.told)))
theorem Bp(T:Txt K mg)(cM:jU K C)(na_told:aY K C "told")(F:iM K "told_numbers" "Machine.told_numbers" aq f fd):bD P w K mg base aV 1 f fd ["self"] (CM K C):=by
 refine F.ok dS (fun vs H Q E h=>?_) (fun cdv A outer s H vs Q E hr h=>?_)
 ·obtain⟨a,st,rfl,_⟩:=h;rfl
 ·obtain⟨a,st,rfl,M,q⟩:=h;have hu:=aR hr;have key:∃ t,QB (eE aV P w K mg base ["self"] "Machine.told_numbers" (aa aq) f cdv A outer s H E).mD (aC aq) t/\t {nx:=fun _ H'=>Q .aM H',rt:=Q} (start ["self"] [.ref a.m]) H:=by
   refine⟨_,(Z.az (Z.ret (Z.ct (Z.gA K rfl) rfl T.bU (by decide +kernel) (Z.cons (Z.fld K rfl (Z.v 0)) Z.nil)))),?_⟩
   have e1:sq H a.tl=some (true,iV st.told):=dQ M.ot;walk_at "rz";refine⟨a.m,C,a.dx,_,_,rfl,M.om,cM,na_told,sA a _,?_⟩;simp only[L2.Ap.mx,e1];exact fun p hp=>q p hp
  obtain⟨t,hb,ht⟩:=key;exact⟨t,hb.h,ht⟩
noncomputable def C3:List Str:=["a","b","c","d","e","f","g","h"]
theorem jb:∀{xs:List Str} {vs:List V},ai K H B vs (xs.map L2.T.str)->vs=xs.map V.str
 |[],_,r=>by cases r;rfl
 |x::xs,_,r=>by
  cases r with
  |cons h r=>cases h;rw[jb r];rfl
noncomputable def zK(K:Pq)(C:Addr):Sp:=fun vs H Q _=>∃(a:MA) (st:mF),vs=[.ref a.m]/\MS K C H a st/\∀ p H',H p=none->H' p=some (.tup (iV st.bs))->KB [] H H'->Q (.ref p) H'
theorem xl(T:Txt K mg)(cM:jU K C)(na_boxes:aY K C "boxes")(F:iM K "box_numbers" "Machine.box_numbers" ak f fd):bD P w K mg base aV 1 f fd ["self"] (zK K C):=by
 obtain⟨w_BOXES,u_BOXES,hg_BOXES,hr_BOXES,rp_BOXES⟩:=T.m4;refine F.ok eG (fun vs H Q E h=>?_) (fun cdv A outer s H vs Q E hr h=>?_)
 ·obtain⟨a,st,rfl,_⟩:=h;rfl
 ·obtain⟨a,st,rfl,M,q⟩:=h;have hu:=aR hr;have key:∃ t,QB (eE aV P w K mg base ["self"] "Machine.box_numbers" (aa ak) f cdv A outer s H E).mD (aC ak) t/\t {nx:=fun _ H'=>Q .aM H',rt:=Q} (start ["self"] [.ref a.m]) H:=by
   refine⟨_,(Z.az (Z.ret (Z.ct (Z.gA K rfl) rfl T.bU (by decide +kernel) (Z.cons (Z.comp (osc:=aa ak) (ON:=["self"]) (own:=["box"]) (N:=["box","self"]) ⟨rfl,by decide +kernel,rfl,by decide +kernel,by decide +kernel,by decide +kernel,by decide +kernel,by decide +kernel⟩ rfl rfl rfl (Z.seq K rfl (Z.glob rfl hg_BOXES hr_BOXES)) (fun _ _ _ _=>(Z.aO (i:=0) (show List.Nodup (["box","self"]:List Str) by decide +kernel) rfl (by right))) (fun _ _ _ _=>Z.nY) (fun _ _ _ _=>(Z.yx hu (Z.fld K rfl (Z.v 1)) (Z.v 0)))) Z.nil)))),?_⟩
   obtain⟨b,rfl,kt⟩:∃ b,w_BOXES=.ref b/\zA K b (C3.map V.str):=by
    have:=rp_BOXES (fun _=>none) (fun _=>False)
    cases this with
    |dN h r =>
     have e:=jb (xs:=C3) r;subst e;exact⟨_,rfl,h⟩
   walk_at "rz";refine .inr ⟨⟨_,.inr kt⟩,?_⟩;have l8:=M.l8;refine fG (xs:=C3.map V.str) (by decide) (fun D i ys H'=>H D=none/\KB [] H H'/\H' D=some (.lst ys)/\ys=iV (st.bs.take i)/\i<=8) (fun D hD=>⟨hD,KB.new hD,ae,by simp[iV],by decide⟩) (fun D i ys H' ⟨h1,h2,h3,h4,h5⟩=>⟨h3,by rw[h4];unfold iV;rw[K3,Ld];omega⟩) (fun D i ys H' _=>.inr kt) ?_ ?_
   ·rintro D i ys H' x R hx ⟨h1,h2,h3,h4,h5⟩ k;have hi:i<8:=by
     rcases LJ i 8 with c|c
     ·exact c
     ·rw[K_.mpr (by exact c)] at hx;cases hx
    have ex:x=.str (cB i):=by
     rcases Dk hi with rfl|rfl|rfl|rfl|rfl|rfl|rfl|rfl<;>exact (Option.some.inj hx).symm
    subst ex;have om':=h2 _ _ M.om (by simp)
    have ob':=h2 _ _ M.ob (by simp)
    walk_at "rz";refine⟨a.m,C,a.dx,_,_,rfl,om',cM,na_boxes,d_ a _,a.bx,_,rfl,.inl ⟨_,.inr (cB i),.inl ob',rfl,(qR i hi st.bs l8).symm⟩,?_⟩;refine k _ H' h3 ⟨h1,fun b o e _=>?_,ae,?_,by omega⟩
    ·rw[ab (ah e h1)];exact h2 b o e (by simp)
    ·have hb:i<st.bs.length:=by omega
     rw[h4,N0 hb];unfold iV rL;rw[KI,Kw hb];rfl
   ·rintro D ys H' ⟨h1,h2,h3,h4,h5⟩;have e1:sq H' D=some (true,ys):=dQ h3;simp only[L2.Ap.mx,e1];refine fun p hp=>q p _ (h2.free (by simp) hp) ?_ (h2.trans (KB.new hp))
    rw[ae,h4];have:st.bs.take (C3.map V.str).length=st.bs:=LU (by rw[l8];decide)
    rw[this]
  obtain⟨t,hb,ht⟩:=key;exact⟨t,hb.h,ht⟩
noncomputable def Ff(g:List Int):mF:=⟨g,0,[],[0,0,0,0,0,0,0,0]⟩
noncomputable def Dg(K:Pq)(C:Addr):Sp:=fun vs H Q _=>∃(x dx gv:Addr) (g:List Int),vs=[.ref x,.ref gv]/\H x=some (.ins C dx [])/\H dx=some (.own x)/\H gv=some (.tup (iV g)) /\
 ∀ H' tl bx,H tl=none->H bx=none->MS K C H' ⟨x,dx,gv,tl,bx⟩ (Ff g)->KB [x] H H'->Q .aM H'
theorem AA(T:Txt K mg)(cM:jU K C)(na_given:aY K C "given")(na_heard:aY K C "heard")(na_told:aY K C "told")(na_boxes:aY K C "boxes")(F:iM K "__init__" "Machine.__init__" ax f fd):bD P w K mg base aV 1 f fd ["self","given"] (Dg K C):=by
 obtain⟨w_BOXES,u_BOXES,hg_BOXES,hr_BOXES,rp_BOXES⟩:=T.m4;refine F.ok fQ (fun vs H Q E h=>?_) (fun cdv A outer s H vs Q E hr h=>?_)
 ·obtain⟨x,dx,gv,g,rfl,_⟩:=h;rfl
 ·obtain⟨x,dx,gv,g,rfl,ox,od,og,q⟩:=h;have hu:=aR hr;have key:∃ t,QB (eE aV P w K mg base ["self","given"] "Machine.__init__" (aa ax) f cdv A outer s H E).mD (aC ax) t/\t {nx:=fun _ H'=>Q .aM H',rt:=Q} (start ["self","given"] [.ref x,.ref gv]) H:=by
   refine⟨_,(Z.af (Z.yk K rfl (Z.v 0) (Z.v 1))
   (Z.af (Z.yk K rfl (Z.v 0) Z.int)
   (Z.af (Z.yk K rfl (Z.v 0) (Z.lst Z.nil))
   (Z.az (Z.yk K rfl (Z.v 0) (Z.ct (nh K rfl) rfl T.CU (by decide +kernel) (Z.cons (Z.comp (osc:=aa ax) (ON:=["self","given"]) (own:=["box"]) (N:=["box","self","given"]) ⟨rfl,by decide +kernel,rfl,by decide +kernel,by decide +kernel,by decide +kernel,by decide +kernel,by decide +kernel⟩ rfl rfl rfl (Z.seq K rfl (Z.glob rfl hg_BOXES hr_BOXES)) (fun _ _ _ _=>(Z.aO (i:=0) (show List.Nodup (["box","self","given"]:List Str) by decide +kernel) rfl (by right))) (fun _ _ _ _=>Z.nY) (fun _ _ _ _=>(Z.tup (Z.cons (Z.v 0) (Z.cons Z.int Z.nil))))) Z.nil))))))),?_⟩
   obtain⟨b,rfl,kt⟩:∃ b,w_BOXES=.ref b/\zA K b (C3.map V.str):=by
    have:=rp_BOXES (fun _=>none) (fun _=>False)
    cases this with
    |dN h r =>
     have e:=jb (xs:=C3) r;subst e;exact⟨_,rfl,h⟩
   have ndx:dx≠x:=by rintro rfl;rw[ox] at od;cases od
   have ngx:gv≠x:=by rintro rfl;rw[ox] at og;cases og
   refine b9 fun N hN=>?_;walk_at "rz";refine⟨x,C,dx,_,rfl,ox,cM,na_given,by decide,?_⟩
   rw[hN];clear hN N;refine b9 fun N hN=>?_;walk_at "rz";refine⟨x,C,dx,_,rfl,ae,cM,na_heard,(show 1<1000 by decide),?_⟩
   rw[hN];clear hN N;rw[ma];refine b9 fun N hN=>?_;walk_at "rz";refine⟨by decide,fun tl htl=>?_⟩
   have ntl:tl≠x:=by rintro rfl;rw[ae] at htl;cases htl
   have htl0:H tl=none:=by rw[ab ntl] at htl;exact htl
   refine⟨x,C,dx,cZ "heard" (.int 0) (cZ "given" (.ref gv) []),rfl,by rw[ab ntl.symm];exact ae,cM,na_told,(show 2<1000 by decide),?_⟩
   rw[hN];clear hN N;have ntd:tl≠dx:=fun e=>by rw[e,od] at htl0;cases htl0
   have ntg:tl≠gv:=fun e=>by rw[e,og] at htl0;cases htl0
   obtain⟨H3,e3⟩:∃ H3,H3=upd (upd (upd H x (.ins C dx (cZ "heard" (.int 0) (cZ "given" (.ref gv) [])))) tl (.lst [])) x (.ins C dx (cZ "told" (.ref tl) (cZ "heard" (.int 0) (cZ "given" (.ref gv) [])))):=⟨_,rfl⟩;rw[<- e3];have x3:H3 x=some (.ins C dx [("given",.ref gv),("heard",.int 0),("told",.ref tl)]):=by rw[e3];exact ae
   have t3:H3 tl=some (.lst []):=by rw[e3,ab ntl];exact ae
   have d3:H3 dx=some (.own x):=by rw[e3,ab ndx,ab ntd.symm,ab ndx];exact od
   have g3:H3 gv=some (.tup (iV g)):=by rw[e3,ab ngx,ab ntg.symm,ab ngx];exact og
   have k3:KB [x] H H3:=by
    rw[e3];exact ((KB.set (by simp)).trans (KB.new htl)).trans (KB.set (by simp))
   clear e3;walk_at "rz";refine .inr ⟨⟨_,.inr kt⟩,?_⟩;refine fG (xs:=C3.map V.str) (by decide) (fun D i ys H'=>H3 D=none/\KB [] H3 H'/\H' D=some (.lst ys)/\ys.length=i/\i<=8/\∀ j,j<i->∃ p,ys[j]?=some (.ref p)/\H' p=some (.tup [.str (cB j),.int 0])) (fun D hD=>⟨hD,KB.new hD,ae,rfl,by decide,fun j hj=>absurd hj (MO _)⟩) (fun D i ys H' ⟨h1,h2,h3,h4,h5⟩=>⟨h3,h4⟩) (fun D i ys H' _=>.inr kt) ?_ ?_
   ·rintro D i ys H' z R hx ⟨h1,h2,h3,h4,h5,h6⟩ k;have hi:i<8:=by
     rcases LJ i 8 with c|c
     ·exact c
     ·rw[K_.mpr (by exact c)] at hx;cases hx
    have ex:z=.str (cB i):=by
     rcases Dk hi with rfl|rfl|rfl|rfl|rfl|rfl|rfl|rfl<;>exact (Option.some.inj hx).symm
    subst ex;walk_at "rz";refine⟨by decide,fun p hp=>?_⟩
    have npD:p≠D:=by rintro rfl;rw[h3] at hp;cases hp
    refine k _ _ (by rw[ab npD.symm];exact h3) ⟨h1,fun c o e _=>?_,ae,by rw[K0,h4];rfl,by omega,fun j hj=>?_⟩
    ·have hc:=h2 c o e (by simp)
     rw[ab (ah e h1),ab (ah hc hp)];exact hc
    ·rcases LJ j i with c|c
     ·obtain⟨p',e1,e2⟩:=h6 j c;have n1:p'≠D:=by rintro rfl;rw[h3] at e2;cases e2
      exact⟨p',by rw[LD (by omega)];exact e1,by rw[ab n1,ab (ah e2 hp)];exact e2⟩
     ·have:j=i:=by omega
      subst this;exact⟨p,by rw[Lu (by omega),h4];simp,by rw[ab npD];exact ae⟩
   ·rintro D ys H' ⟨h1,h2,h3,h4,h5,h6⟩;have hl:(C3.map V.str).length=8:=rfl;rw[hl] at h4 h6;refine⟨D,ys,BW.zip (iV (Ff g).bs),rfl,h3,⟨h4,fun j k z e=>?_⟩,(show 8<=1000 by decide),fun p hp=>?_⟩
    ·have hj:j<8:=by
      rcases LJ j 8 with c|c
      ·exact c
      ·rw[K_.mpr (by exact c)] at e;cases e
     obtain⟨p,e1,e2⟩:=h6 j hj;refine⟨p,e1,?_⟩;rw[e2];rcases Dk hj with rfl|rfl|rfl|rfl|rfl|rfl|rfl|rfl<;>(cases e;rfl)
    ·have hm:fj [] (BW.zip (iV (Ff g).bs))=BW.zip (iV (Ff g).bs):=by
      rw[Y.kT _ [] ?_,OA];show (BW.map fun k=>k).Nodup
      decide +kernel
     rw[hm];have x4:=h2 _ _ x3 (by simp)
     have t4:=h2 _ _ t3 (by simp)
     have d4:=h2 _ _ d3 (by simp)
     have g4:=h2 _ _ g3 (by simp)
     have px:p≠x:=fun e=>by rw[e,x4] at hp;cases hp
     have pt:p≠tl:=fun e=>by rw[e,t4] at hp;cases hp
     have pd:p≠dx:=fun e=>by rw[e,d4] at hp;cases hp
     have pg:p≠gv:=fun e=>by rw[e,g4] at hp;cases hp
     have hp3:H3 p=none:=h2.free (by simp) hp
     have hp0:H p=none:=k3.free (by simpa using px) hp3
     refine⟨x,C,dx,[("given",.ref gv),("heard",.int 0),("told",.ref tl)],rfl,by rw[ab px.symm];exact x4,cM,na_boxes,(show 3<1000 by decide),?_⟩
     refine q _ tl p htl0 hp0 ⟨ae,by rw[ab ndx,ab pd.symm];exact d4,by rw[ab ngx,ab pg.symm];exact g4,by rw[ab ntl,ab pt.symm];exact t4,by rw[ab px];exact ae,rfl,KY _⟩ ?_
     exact ((k3.trans h2.all).trans (KB.new hp)).trans (KB.set (by simp))
  obtain⟨t,hb,ht⟩:=key;exact⟨t,hb.h,ht⟩
structure RS where
 st:mF
 turns:List Int
 at_:Nat
noncomputable def zE(rows:List Row)(i:Nat):Row:=rows[i]?.getD .halt
noncomputable def gI(rows:List Row)(c:RS):RS:=
 ⟨(carry c.st (zE rows c.at_)).2,c.turns.set c.at_ (c.turns[c.at_]?.getD 0+1),(place c.st (zE rows c.at_) ((c.at_:Int)+1) rows.length).toNat⟩
noncomputable def runs(rows:List Row):Nat->RS->RS
 |0,c=>c
 |n+1,c=>if c.at_<rows.length then runs rows n (gI rows c) else c
noncomputable def Fg(rows:List Row)(g:List Int):RS:=⟨Ff g,rows.map fun _=>0,0⟩
noncomputable def Dv(rows:List Row)(c:RS):L2.T:=.tup [.str (if c.at_<rows.length then "more" else "halt"),.tup (nI c.st.told),.tup (nI c.turns),.tup (nI c.st.bs)]
noncomputable def HA:eZ:=fun args Q=>∃(rows:List Row) (g:List Int) (most:Nat),args=[.tup (pT rows),.tup (nI g),.int (most:Nat)]/\rows.length<=1000/\(∀ r∈rows,r.Ok 100000)/\g.length<=1000/\most<=10000/\Q (.tr (Dv rows (runs rows most (Fg rows g)))) []
theorem fw:∀{xs:List Int} {vs:List V},ai K H B vs (nI xs)->vs=iV xs
 |[],_,r=>by cases r;rfl
 |x::xs,_,r=>by
  cases r with
  |cons h r=>cases h;rw[fw r];rfl
theorem mI:∀{ps:List zx} {vs:List V},ai K H B vs (ps.map zx.t)->vs=ps.map zx.v
 |[],_,r=>by cases r;rfl
 |x::ps,_,r=>by
  cases r with
  |cons h r =>
   rw[mI r]
   cases x with
   |s z=>cases h;rfl
   |n k=>cases h;rfl
theorem yB{v:V}{r:Row}(h:Rep K H B v r.t):∃ p,v=.ref p/\H p=some (.tup r.vs):=by
 unfold Row.t at h
 cases h with
 |tup n h r=>exact⟨_,rfl,by rw[h,mI r];rfl⟩
theorem lx:∀{rs:List Row} {vs:List V},ai K H B vs (pT rs)->vs.length=rs.length/\∀(i:Nat) r,rs[i]?=some r->∃ p,vs[i]?=some (.ref p)/\H p=some (.tup r.vs)
 |[],_,r=>by cases r;exact⟨rfl,fun i r e=>by simp at e⟩
 |x::rs,_,r=>by
  cases r with
  |cons h r =>
   obtain⟨h1,h2⟩:=lx r;refine⟨by simp[h1],fun i r e=>?_⟩
   cases i with
   |zero =>
    cases e;obtain⟨p,rfl,hp⟩:=yB h;exact⟨p,rfl,hp⟩
   |succ i=>exact h2 i r (by simpa using e)
theorem fA:∀ xs:List Int,ai K H B (iV xs) (nI xs)
 |[]=>.nil
 |x::xs=>.cons (.int x) (fA xs)
theorem AH(st:mF)(r:Row):(carry st r).2.told.length<=st.told.length+1:=by
 have hh:(gC st).2.told=st.told:=by unfold gC;split<;>rfl
 cases r with
 |put b n=>exact Ly _
 |two u a b=>exact Ly _
 |one u b =>
  rcases yK u with rfl|rfl
  ·show (st.told++[rL st.bs b]).length<=_;rw[K0];exact K2 _
  ·show (gC st).2.told.length<=_;rw[hh];exact Ly _
 |jump g=>exact Ly _
 |zero b g=>exact Ly _
 |halt=>exact Ly _
abbrev k3z(P w K mg base):=aj P w K mg base aV 6 "run_rows" ["program","given","most"] (spT K [false,false,false] HA)
theorem Dz(T:Txt K mg)(hgoal_of:k5z P w K mg base)(F:HasFn K mg "run_rows" d8 ["program","given","most"]):k3z P w K mg base:=by
 obtain⟨C_Machine,f___init__,f_place_next,f_carry_out,f_number_for,f_heard_number,f_told_numbers,f_box_numbers,d___init__,d_place_next,d_carry_out,d_number_for,d_heard_number,d_told_numbers,d_box_numbers,hC_Machine,cM,na_given,na_heard,na_told,na_boxes,mm___init__,FM___init__,bm___init__,mm_place_next,FM_place_next,bm_place_next,mm_carry_out,FM_carry_out,bm_carry_out,mm_number_for,FM_number_for,bm_number_for,mm_heard_number,FM_heard_number,bm_heard_number,mm_told_numbers,FM_told_numbers,bm_told_numbers,mm_box_numbers,FM_box_numbers,bm_box_numbers⟩:=T.mc;have FO_heard_number:=yy (P:=P) (w:=w) (mg:=mg) (base:=base) T cM na_given na_heard FM_heard_number;have FO_number_for:=Dp (P:=P) (w:=w) (mg:=mg) (base:=base) T cM na_boxes mm_heard_number bm_heard_number FO_heard_number FM_number_for;have FO_carry_out:=xT (P:=P) (w:=w) (mg:=mg) (base:=base) T cM na_boxes na_told mm_number_for bm_number_for FO_number_for FM_carry_out;have FO_place_next:=xD T hgoal_of cM mm_carry_out bm_carry_out FO_carry_out FM_place_next;have FO_told_numbers:=Bp (P:=P) (w:=w) (mg:=mg) (base:=base) T cM na_told FM_told_numbers;have FO_box_numbers:=xl (P:=P) (w:=w) (mg:=mg) (base:=base) T cM na_boxes FM_box_numbers;have FO___init__:=AA (P:=P) (w:=w) (mg:=mg) (base:=base) T cM na_given na_heard na_told na_boxes FM___init__;refine F.JY b6 (fun vs H Q E h=>?_) (fun f cdv A outer s H vs Q E hr h=>?_)
 ·obtain⟨B,args,Qt,ag,_⟩:=h;exact ag.len.1
 ·obtain⟨B,args,Qt,ag,hB,hnd,⟨rows,g,most,rfl,hrl,aD,hgl,hmo,hq⟩,q⟩:=h;have hu:=aR hr;obtain⟨v1,v2,v3,rfl⟩:=Y.zI ag.len.1;obtain⟨r1,r2,r3,_⟩:=ag;cases r3
  cases r2 with
  |@tup gv vsg _ ng og rg =>
   have eg:=fw rg;subst eg
   cases r1 with
   |@tup pv pvs _ np op rp =>
    obtain⟨hl,hrow⟩:=lx rp;refine⟨_,(Z.af (Z.set (i:=3) b6.nd rfl (by right) (Z.make K rfl mm___init__ FO___init__ (hr.mono (by decide)) rfl hC_Machine bm___init__ au (Z.cons (Z.v 1) Z.nil)))
   (Z.af (Z.setC (j:=4) b6.nd rfl (by right) (osc:=aa d8) (ON:=["program","given","most","machine","turns","at","done","how"]) (own:=["row"]) (N:=["row","program","given","most","machine","turns","at","done","how"]) ⟨rfl,by decide +kernel,rfl,by decide +kernel,by decide +kernel,by decide +kernel,by decide +kernel,by decide +kernel⟩ rfl rfl rfl (Z.any K rfl (Z.v 0)) (fun _ _ _ _=>(Z.aO (i:=0) (show List.Nodup (["row","program","given","most","machine","turns","at","done","how"]:List Str) by decide +kernel) rfl (by right))) (fun _ _ _ _=>Z.nY) (fun _ _ _ _=>Z.int))
   (Z.af (Z.set (i:=5) b6.nd rfl (by right) Z.int)
   (Z.af (Z.set (i:=6) b6.nd rfl (by right) Z.int)
   (Z.af (Z.ic Lk (Z.tw (Z.wA (Z.aZ dE (Z.v 5) (Z.cb (Z.rd K rfl) rfl T.cU (by decide +kernel) (Z.cons (Z.v 0) Z.nil))) (Z.mJ (Z.aZ dE (Z.v 6) (Z.v 2))))) (Z.af (Z.asg (Z.op (Z.lh K rfl) (Z.ix (Z.gq K rfl hu) (Z.v 4) (Z.v 5)) Z.int) (Z.oI (Z.v 4) (Z.v 5)))
   (Z.af (Z.set (i:=6) b6.nd rfl (by right) (Z.op (Z.lh K rfl) (Z.v 6) Z.int))
   (Z.az (Z.set (i:=5) b6.nd rfl (by right) (Z.Ei K rfl (Z.v 3) cM mm_place_next FO_place_next (hr.mono (by decide)) bm_place_next au (Z.cons (Z.ix (Z.gq K rfl hu) (Z.v 0) (Z.v 5)) (Z.cons (Z.op (Z.lh K rfl) (Z.v 5) Z.int) (Z.cons (Z.cb (Z.rd K rfl) rfl T.cU (by decide +kernel) (Z.cons (Z.v 0) Z.nil)) Z.nil)))))))))
   (Z.af (Z.set (i:=7) b6.nd rfl (by right) (Z.GB (Z.aZ dE (Z.v 5) (Z.cb (Z.rd K rfl) rfl T.cU (by decide +kernel) (Z.cons (Z.v 0) Z.nil))) Z.str Z.str))
   (Z.az (Z.ret (Z.tup (Z.cons (Z.v 7) (Z.cons (Z.xU K rfl (Z.v 3) cM mm_told_numbers FO_told_numbers (hr.mono (by decide)) bm_told_numbers au) (Z.cons (Z.ct (Z.gA K rfl) rfl T.bU (by decide +kernel) (Z.cons (Z.v 4) Z.nil)) (Z.cons (Z.xU K rfl (Z.v 3) cM mm_box_numbers FO_box_numbers (hr.mono (by decide)) bm_box_numbers au) Z.nil))))))))))))),?_⟩
    refine b9 fun N hN=>?_;walk_at "rz";intro x dx hx hdx nd;have ngx:gv≠x:=fun e=>by rw[e,hx] at og;cases og
    have ngd:gv≠dx:=fun e=>by rw[e,hdx] at og;cases og
    refine⟨x,dx,gv,g,rfl,ae,by rw[ab nd];exact ae,by rw[ab ngx,ab ngd];exact og,fun H1 tl bx htl hbx M1 kb=>⟨rfl,?_⟩⟩
    have k1:KB [] H H1:=fun b o e _=>kb b o (by
     rw[ab (ah e hx),ab (ah e hdx)];exact e) (by simpa using ah e hx)
    rw[hN];clear hN N;refine b9 fun N hN=>?_;have op1:=k1 _ _ op (by simp)
    have es:sq H1 pv=some (false,pvs):=eI op1;walk_at "rz";simp only[L2.Ap.u9,es];have szp:pvs.length<=sizeLine:=KG (show pvs.length<=200000 by omega) vz
    refine fG (xs:=pvs) szp (fun D i ys H'=>H1 D=none/\KB [] H1 H'/\H' D=some (.lst ys)/\ys=iV (List.replicate i 0)) (fun D hD=>⟨hD,KB.new hD,ae,rfl⟩) (fun D i ys H' ⟨h1,h2,h3,h4⟩=>⟨h3,by rw[h4];unfold iV;rw[K3,Lo]⟩) (fun D i ys H' ⟨h1,h2,h3,h4⟩=>aW.of (h2 _ _ op1 (by simp))) ?_ ?_
    ·rintro D i ys H' z R hz ⟨h1,h2,h3,h4⟩ k;walk_at "rz";refine k _ H' h3 ⟨h1,fun c o e _=>?_,ae,?_⟩
     ·rw[ab (ah e h1)];exact h2 c o e (by simp)
     ·rw[h4,List.replicate_succ'];unfold iV;rw[KI];rfl
    rintro D ys H2 ⟨hD1,k2,oD,eys⟩;have etz:List.replicate pvs.length (0:Int)=rows.map fun _=>0:=by rw[List.map_const',hl]
    rw[eys,etz] at oD;have M2:MS K C_Machine H2 ⟨x,dx,gv,tl,bx⟩ (Ff g):=⟨k2 _ _ M1.om (by simp),k2 _ _ M1.od (by simp),k2 _ _ M1.og (by simp),k2 _ _ M1.ot (by simp),k2 _ _ M1.ob (by simp),M1.l8,M1.hh⟩
    have k02:KB [] H H2:=k1.trans k2;rw[hN];clear hN N;refine b9 fun N hN=>?_;walk_at "rz";rw[hN];clear hN N;refine b9 fun N hN=>?_;walk_at "rz";rw[hN];clear hN N;refine b9 fun N hN=>?_;refine⟨fun m σ H'=>∃(n:Nat) (c:RS),n<=most/\m=most-n/\runs rows most (Fg rows g)=runs rows (most-n) c/\MS K C_Machine H' ⟨x,dx,gv,tl,bx⟩ c.st/\H' D=some (.lst (iV c.turns))/\c.turns.length=rows.length/\c.st.told.length<=n/\KB [] H H'/\σ=[some (.ref pv),some (.ref gv),some (.int (most:Nat)),some (.ref x),some (.ref D),some (.int (c.at_:Nat)),some (.int (n:Nat)),none],⟨most,0,Fg rows g,KY _,rfl,rfl,M2,oD,by simp[Fg],KY _,k02,rfl⟩,?_⟩
    rintro m σ H3 ⟨n,c,hn,rfl,hrun,M3,oD3,htl3,hto,k03,rfl⟩;have op3:=k03 _ _ op (by simp)
    have es3:sq H3 pv=some (false,pvs):=eI op3;have nDx:D≠x:=fun e=>by rw[e,M1.om] at hD1;cases hD1
    have nDt:D≠tl:=fun e=>by rw[e,M1.ot] at hD1;cases hD1
    have nDb:D≠bx:=fun e=>by rw[e,M1.ob] at hD1;cases hD1
    have htl0:H tl=none:=by
     cases z:H tl with
     |none=>rfl
     |some o=>rw[ab (ah z hx),ab (ah z hdx),z] at htl;cases htl
    have hbx0:H bx=none:=by
     cases z:H bx with
     |none=>rfl
     |some o=>rw[ab (ah z hx),ab (ah z hdx),z] at hbx;cases hbx
    have fin:(¬ c.at_<rows.length\/¬ n<most)->N [some (.ref pv),some (.ref gv),some (.int (most:Nat)),some (.ref x),some (.ref D),some (.int (c.at_:Nat)),some (.int (n:Nat)),none] H3:=by
     intro hstop;have er:runs rows (most-n) c=c:=by
      rcases hstop with h|h
      ·cases most-n with
       |zero=>rfl
       |succ k=>show (if c.at_<rows.length then _ else c)=c;rw[Kx h]
      ·rw[show most-n=0 by omega];rfl
     rw[hN];clear hN N;refine b9 fun N hN=>?_;walk_at "rz";simp only[L2.Ap.mr,es3,hl];have ew:∀ hw:Str,hw=(if c.at_<rows.length then ("more":Str) else "halt")->N [some (.ref pv),some (.ref gv),some (.int (most:Nat)),some (.ref x),some (.ref D),some (.int (c.at_:Nat)),some (.int (n:Nat)),some (.str hw)] H3:=by
      intro hw ehw;rw[hN];clear hN N;walk_at "rz";refine⟨x,dx,_,rfl,M3.om,rfl,⟨x,dx,gv,tl,bx⟩,c.st,rfl,M3,fun p1 hp1=>?_⟩;have k4:KB [] H3 (upd H3 p1 (.tup (iV c.st.told))):=KB.new hp1;have eD:sq (upd H3 p1 (.tup (iV c.st.told))) D=some (true,iV c.turns):=dQ (k4 _ _ oD3 (by simp))
      walk_at "rz";simp only[L2.Ap.mx,eD];intro p2 hp2;have k5:=k4.trans (KB.new (o:=.tup (iV c.turns)) hp2);refine⟨x,dx,_,rfl,k5 _ _ M3.om (by simp),rfl,⟨x,dx,gv,tl,bx⟩,c.st,rfl,⟨k5 _ _ M3.om (by simp),k5 _ _ M3.od (by simp),k5 _ _ M3.og (by simp),k5 _ _ M3.ot (by simp),k5 _ _ M3.ob (by simp),M3.l8,M3.hh⟩,fun p3 H6 hp3 o3 k6=>?_⟩
      refine⟨by decide,fun p4 hp4=>?_⟩
      have o1:H6 p1=some (.tup (iV c.st.told)):=k6 _ _ ((KB.new (ex:=[]) hp2) _ _ ae (by simp)) (by simp)
      have o2:H6 p2=some (.tup (iV c.turns)):=k6 _ _ ae (by simp)
      have k36:KB [] H H6:=(k03.trans k5).trans k6;have nB:∀ z,H z=none->¬ B z:=fun z hz hb=>by obtain⟨o,ho⟩:=hB z hb;rw[hz] at ho;cases ho
      have f1:H p1=none:=k03.free (by simp) hp1
      have f2:H p2=none:=(k03.trans k4).free (by simp) hp2
      have f3:H p3=none:=(k03.trans k5).free (by simp) hp3
      have f4:H p4=none:=k36.free (by simp) hp4
      rw[hrun,er] at hq;refine q (.ref p4) _ _ [] hq (fun b o e _=>(KB.new (ex:=[]) hp4) _ _ (k36 b o e (by simp)) (by simp)) ⟨?_,.nil⟩
      have up4:∀ z o,H6 z=some o->upd H6 p4 (.tup [.str hw,.ref p1,.ref p2,.ref p3]) z=some o:=fun z o e=>(KB.new (ex:=[]) hp4) _ _ e (by simp)
      unfold Dv;rw[<- ehw];exact .tup (nB _ f4) ae (.cons (.str _) (.cons (.tup (nB _ f1) (up4 _ _ o1) (fA _)) (.cons (.tup (nB _ f2) (up4 _ _ o2) (fA _)) (.cons (.tup (nB _ f3) (up4 _ _ o3) (fA _)) .nil))))
     by_cases h1:c.at_<rows.length
     ·rw[Kz (by omega)]
      exact ew _ (by rw[Kz h1])
     ·rw[Kx (by omega)]
      exact ew _ (by rw[Kx h1])
    walk_at "rz";simp only[L2.Ap.mr,es3,hl];have eD:sq H3 D=some (true,iV c.turns):=dQ oD3;by_cases h1:c.at_<rows.length
    ·rw[Kz (by omega)]
     by_cases h2:n<most
     ·rw[Kz (by omega)]
      have hat:c.at_<c.turns.length:=by omega
      have e1:bC (iV c.turns) ((c.at_:Nat):Int)=some (V.int c.turns[c.at_]):=bZ (by unfold iV;rw[KL,Kw hat];rfl)
      refine⟨fun σ' H'=>∃ m',m'<most-n/\∃(n:Nat) (c:RS),n<=most/\m'=most-n/\runs rows most (Fg rows g)=runs rows (most-n) c/\MS K C_Machine H' ⟨x,dx,gv,tl,bx⟩ c.st/\H' D=some (.lst (iV c.turns))/\c.turns.length=rows.length/\c.st.told.length<=n/\KB [] H H'/\σ'=[some (.ref pv),some (.ref gv),some (.int (most:Nat)),some (.ref x),some (.ref D),some (.int (c.at_:Nat)),some (.int (n:Nat)),none],fun σ' H' h=>h,?_⟩;rw[eD];simp only[e1,L2.Ap.wW,oD3];have ei:jT (iV c.turns).length ((c.at_:Nat):Int)=some c.at_:=by
       rw[v7 (by omega) (by unfold iV;rw[K3];omega)];simp
      have eset:(iV c.turns).set c.at_ (V.int (c.turns[c.at_]+1))=iV (c.turns.set c.at_ (c.turns[c.at_]+1)):=by unfold iV;rw[O4]
      simp only[ei,eset];have nDd:D≠dx:=fun e=>by rw[e,M1.od] at hD1;cases hD1
      have nDg:D≠gv:=fun e=>by rw[e,M1.og] at hD1;cases hD1
      have nDp:D≠pv:=fun e=>by rw[e,op1] at hD1;cases hD1
      have HD0:H D=none:=k1.free (by simp) hD1
      obtain⟨H4,e4⟩:∃ H4,H4=upd H3 D (.lst (iV (c.turns.set c.at_ (c.turns[c.at_]+1)))):=⟨_,rfl⟩;rw[<- e4];have D4:H4 D=some (.lst (iV (c.turns.set c.at_ (c.turns[c.at_]+1)))):=by rw[e4];exact ae
      have sm4:∀ z o,z≠D->H3 z=some o->H4 z=some o:=fun z o nz e=>by rw[e4,ab nz];exact e
      have M4:MS K C_Machine H4 ⟨x,dx,gv,tl,bx⟩ c.st:=⟨sm4 _ _ nDx.symm M3.om,sm4 _ _ nDd.symm M3.od,sm4 _ _ nDg.symm M3.og,sm4 _ _ nDt.symm M3.ot,sm4 _ _ nDb.symm M3.ob,M3.l8,M3.hh⟩;have p4:=sm4 _ _ nDp.symm op3;have es4:sq H4 pv=some (false,pvs):=eI p4;clear e4;obtain⟨p,ep,orow⟩:=hrow c.at_ (zE rows c.at_) (by unfold zE;rw[Kw h1];rfl)
      have e5:bC pvs ((c.at_:Nat):Int)=some (.ref p):=bZ ep;have hrok:(zE rows c.at_).Ok 100000:=by
       unfold zE;rw[Kw h1];exact aD _ (Ll h1)
      refine⟨x,dx,_,rfl,M4.om,rfl,?_⟩;rw[es4];simp only[e5,hl];have npD:p≠D:=fun e=>by rw[e,HD0] at orow;cases orow
      refine⟨⟨x,dx,gv,tl,bx⟩,c.st,p,zE rows c.at_,_,_,rfl,M4,sm4 _ _ npD (k03 _ _ orow (by simp)),hrok,by omega,fun H5 M5 k5=>?_⟩
      have nn:0<=place c.st (zE rows c.at_) ((c.at_:Int)+1) (rows.length:Int):=by
       unfold place;split
       ·omega
       ·split<;>omega
      have kD:H5 D=some (.lst (iV (c.turns.set c.at_ (c.turns[c.at_]+1)))):=k5 _ _ D4 (by unfold MF;simp[nDx,nDt,nDb])
      have tle:=AH c.st (zE rows c.at_);refine⟨most-(n+1),by omega,n+1,gI rows c,by omega,rfl,?_,M5,?_,?_,?_,?_,?_⟩
      ·rw[hrun,show most-n=(most-(n+1))+1 by omega]
       show (if c.at_<rows.length then runs rows (most-(n+1)) (gI rows c) else c)=_
       rw[Kz h1]
      ·rw[kD];unfold gI;rw[Kw hat];rfl
      ·unfold gI;rw[Lp];exact htl3
      ·show (carry c.st (zE rows c.at_)).2.told.length<=n+1
       omega
      ·intro b o e _;have nb:b≠D:=ah e HD0;exact k5 _ _ (sm4 _ _ nb (k03 b o e (by simp))) (by unfold MF;simp[ah e hx,ah e htl0,ah e hbx0])
      ·unfold gI;rw[Int.toNat_of_nonneg nn];rfl
     ·rw[Kx (by omega)]
      exact fin (.inr h2)
    ·rw[Kx (by omega)]
     exact fin (.inl h1)
theorem JQ{xs:List L2.T}{i:Int}(h0:0<=i)(h1:i<xs.length):∃ t,t∈xs/\bC xs i=some t:=by
 obtain⟨n,rfl⟩:∃ n:Nat,i=n:=⟨i.toNat,by lia⟩
 have hn:n<xs.length:=by lia
 exact⟨xs[n],Ll hn,bZ (Kw hn)⟩
theorem two_at{a b i:Int}(h0:0<=i)(h1:i<2):∃ d:Int,(d=a\/d=b)/\bC [L2.T.int a,.int b] i=some (.int d):=by
 rcases (show i=0\/i=1 by lia) with rfl|rfl
 ·exact⟨a,.inl rfl,rfl⟩
 ·exact⟨b,.inr rfl,rfl⟩
noncomputable def FI:eZ:=fun args Q=>∃ s:L2.T,args=[s]/\cF s/\∀(b:Nat) (s':L2.T),cF s'->b<8->Q (.tr (.str (cB b))) [s']
theorem Ds(T:Txt K mg)(F:HasFn K mg "_law_box" eB ["seed"])(h_law_draw:k0z P w K mg base):aj P w K mg base aV 2 "_law_box" ["seed"] (spT K [true] FI):=by
 refine F.jJ ow [true] rfl (by decide) (fun args Qt hl h f cdv A outer s H E hr=>?_)
 have hu:=aR hr;obtain⟨sd,rfl,hs,q⟩:=h;refine⟨_,(Y.az (Y.ret (Y.ix (Y.bp K rfl) Y.aA Y.str (Y.fn K rfl h_law_draw (hr.mono (by decide)) rfl au (Y.cons (Y.vS 0) (Y.cons (Y.ix (Y.bp K rfl) Y.aA (Y.lst (Y.eF rfl rfl)) (Y.fn K rfl h_law_draw (hr.mono (by decide)) rfl au (Y.cons (Y.vS 0) (Y.cons Y.int Y.nil)))) Y.nil)))))),?_⟩
 rfl';refine⟨by decide,sd,2,rfl,hs,by decide,by decide,fun v s1 hs1 v0 v1=>?_⟩
 obtain⟨d,hd,ea⟩:=two_at (a:=8) (b:=3) v0 v1;exists ea;refine⟨s1,d,rfl,hs1,by lia,by lia,fun b s2 hs2 b0 b1=>?_⟩
 have hb:=E9 b0 (by lia)
 exists hb;exact⟨by decide +kernel,q b.toNat s2 hs2 (by lia)⟩
noncomputable def m7:eZ:=fun args Q=>∃ s:L2.T,args=[s]/\cF s/\∀(v:Nat) (s':L2.T),cF s'->v<65536->Q (.tr (.int (v:Int))) [s']
abbrev k1z(P w K mg base):=aj P w K mg base aV 2 "_law_number" ["seed"] (spT K [true] m7)
theorem tM(T:Txt K mg)(F:HasFn K mg "_law_number" cR ["seed"])(h_law_draw:k0z P w K mg base):k1z P w K mg base:=by
 refine F.jJ fB [true] rfl (by decide) (fun args Qt hl h f cdv A outer s H E hr=>?_)
 have hu:=aR hr;obtain⟨sd,rfl,hs,q⟩:=h;refine⟨_,(Y.af (Y.set (i:=1) fB.nd rfl (by right) (Y.fn K rfl h_law_draw (hr.mono (by decide)) rfl au (Y.cons (Y.vS 0) (Y.cons Y.int Y.nil))))
   (Y.af (Y.e9 (Y.aZ (Y.cu K rfl (Lb hu)) Y.dI (Y.vS 1) Y.int) (Y.az (Y.ret (Y.fn K rfl h_law_draw (hr.mono (by decide)) rfl au (Y.cons (Y.vS 0) (Y.cons Y.int Y.nil))))) Y.bG)
   (Y.af (Y.e9 (Y.aZ (Y.cu K rfl (Lb hu)) Y.dI (Y.vS 1) Y.int) (Y.az (Y.ret (Y.op b_ Y.bV Y.int (Y.fn K rfl h_law_draw (hr.mono (by decide)) rfl au (Y.cons (Y.vS 0) (Y.cons Y.int Y.nil)))))) Y.bG)
   (Y.af (Y.e9 (Y.aZ (Y.cu K rfl (Lb hu)) Y.dI (Y.vS 1) Y.int) (Y.az (Y.ret (Y.op vC Y.cg Y.int (Y.fn K rfl h_law_draw (hr.mono (by decide)) rfl au (Y.cons (Y.vS 0) (Y.cons Y.int Y.nil)))))) Y.bG)
   (Y.az (Y.ret (Y.fn K rfl h_law_draw (hr.mono (by decide)) rfl au (Y.cons (Y.vS 0) (Y.cons Y.int Y.nil))))))))),?_⟩
 refine aB fun N hN=>?_;rfl';refine⟨sd,4,rfl,hs,by decide,by decide,fun v s1 hs1 v0 v1=>?_⟩
 rfl';ac_rfl;have fin:∀(x:Int) (s':L2.T),cF s'->0<=x->x<65536->Qt (.tr (.int x)) [s']:=fun x s' hs' h0 h1=>by
  have:=q x.toNat s' hs' (by lia)
  rw[Int.toNat_of_nonneg h0] at this;exact this
 refine aB fun N hN=>?_;by_cases c0:v=0
 ·exists Kz c0;refine⟨s1,4,rfl,hs1,by decide,by decide,fun x s2 hs2 x0 x1=>?_⟩
  rfl';exact fin x s2 hs2 x0 (by lia)
 exists Kx c0;symm;by_cases c1:v=1
 ·exists Kz c1;refine⟨s1,3,rfl,hs1,by decide,by decide,fun x s2 hs2 x0 x1=>?_⟩
  rfl';exact fin _ s2 hs2 (by lia) (by lia)
 exists Kx c1;symm;by_cases c2:v=2
 ·exists Kz c2;refine⟨s1,16,rfl,hs1,by decide,by decide,fun x s2 hs2 x0 x1=>?_⟩
  rfl';obtain⟨xn,rfl⟩:∃ xn:Nat,x=xn:=⟨x.toNat,by lia⟩
  rw[Lr,Int.one_mul];have hp:∀ n,n<16->(0:Int)<2^n/\(2:Int)^n<65536:=by decide
  obtain⟨hp0,hp1⟩:=hp xn (by lia)
  exact⟨⟨by lia,by lia,by decide⟩,fin _ s2 hs2 (by lia) hp1⟩
 exists Kx c2;ac_rfl;rfl';refine⟨s1,65536,rfl,hs1,by decide,by decide,fun x s2 hs2 x0 x1=>?_⟩
 rfl';exact fin x s2 hs2 x0 x1
noncomputable def HG:eZ:=fun args Q=>∃(s:L2.T) (many:Nat),args=[s,.int (many:Int)]/\cF s/\many<=60/\∀(r:Row) (s':L2.T),r.Ok many->cF s'->Q (.tr r.t) [s']
abbrev k14z(P w K mg base):=aj P w K mg base aV 3 "_law_row" ["seed","many"] (spT K [true,false] HG)
theorem DH(T:Txt K mg)(F:HasFn K mg "_law_row" eO ["seed","many"])(h_law_draw:k0z P w K mg base)(h_law_box:aj P w K mg base aV 2 "_law_box" ["seed"] (spT K [true] FI))(h_law_number:k1z P w K mg base):k14z P w K mg base:=by
 refine F.jJ fm [true,false] rfl (by decide) (fun args Qt hl h f cdv A outer s H E hr=>?_)
 have hu:=aR hr;obtain⟨sd,many,rfl,hs,h60,q⟩:=h;refine⟨_,(Y.af (Y.set (i:=2) fm.nd rfl (by right) (Y.fn K rfl h_law_draw (hr.mono (by decide)) rfl au (Y.cons (Y.vS 0) (Y.cons Y.int Y.nil))))
   (Y.af (Y.e9 (Y.aZ dE Y.cC (Y.vS 2) Y.int) (Y.az (Y.ret (Y.tup (Y.cons Y.str (Y.cons (Y.fn K rfl h_law_box (hr.mono (by decide)) rfl au (Y.cons (Y.vS 0) Y.nil)) (Y.cons (Y.fn K rfl h_law_number (hr.mono (by decide)) rfl au (Y.cons (Y.vS 0) Y.nil)) Y.nil)))))) Y.bG)
   (Y.af (Y.e9 (Y.aZ dE Y.cC (Y.vS 2) Y.int) (Y.az (Y.ret (Y.tup (Y.cons (Y.ix (Y.bp K rfl) Y.aA (Y.lst (Y.eF rfl rfl)) (Y.op b_ Y.bV (Y.vS 2) Y.int)) (Y.cons (Y.fn K rfl h_law_box (hr.mono (by decide)) rfl au (Y.cons (Y.vS 0) Y.nil)) (Y.cons (Y.fn K rfl h_law_box (hr.mono (by decide)) rfl au (Y.cons (Y.vS 0) Y.nil)) Y.nil)))))) Y.bG)
   (Y.af (Y.e9 (Y.aZ dE Y.cC (Y.vS 2) Y.int) (Y.az (Y.ret (Y.tup (Y.cons (Y.ix (Y.bp K rfl) Y.aA (Y.lst (Y.eF rfl rfl)) (Y.op b_ Y.bV (Y.vS 2) Y.int)) (Y.cons (Y.fn K rfl h_law_box (hr.mono (by decide)) rfl au (Y.cons (Y.vS 0) Y.nil)) Y.nil))))) Y.bG)
   (Y.af (Y.set (i:=3) fm.nd rfl (by right) (Y.ix (Y.bp K rfl) Y.aA (Y.lst (Y.cons (Y.fn K rfl h_law_draw (hr.mono (by decide)) rfl au (Y.cons (Y.vS 0) (Y.cons (Y.op (Y.aJ K rfl) Y.aI (Y.vS 1) Y.int) Y.nil))) (Y.cons (Y.vS 1) (Y.cons Y.int Y.nil)))) (Y.ix (Y.bp K rfl) Y.aA (Y.lst (Y.eF rfl rfl)) (Y.fn K rfl h_law_draw (hr.mono (by decide)) rfl au (Y.cons (Y.vS 0) (Y.cons Y.int Y.nil))))))
   (Y.af (Y.e9 (Y.aZ (Y.cu K rfl (Lb hu)) Y.dI (Y.vS 2) Y.int) (Y.az (Y.ret (Y.tup (Y.cons Y.str (Y.cons (Y.vS 3) Y.nil))))) Y.bG)
   (Y.af (Y.e9 (Y.aZ dE Y.cC (Y.vS 2) Y.int) (Y.az (Y.ret (Y.tup (Y.cons Y.str (Y.cons (Y.fn K rfl h_law_box (hr.mono (by decide)) rfl au (Y.cons (Y.vS 0) Y.nil)) (Y.cons (Y.vS 3) Y.nil)))))) Y.bG)
   (Y.az (Y.ret (Y.ix (Y.bp K rfl) Y.aA (Y.lst (Y.cons (Y.tup (Y.cons Y.str Y.nil)) (Y.cons (Y.tup (Y.cons Y.str (Y.cons (Y.fn K rfl h_law_box (hr.mono (by decide)) rfl au (Y.cons (Y.vS 0) Y.nil)) Y.nil))) Y.nil))) (Y.fn K rfl h_law_draw (hr.mono (by decide)) rfl au (Y.cons (Y.vS 0) (Y.cons Y.int Y.nil))))))))))))),?_⟩
 refine aB fun N hN=>?_;rfl';refine⟨sd,12,rfl,hs,by decide,by decide,fun v s1 hs1 v0 v1=>?_⟩
 rfl';symm;by_cases c3:v<3
 ·exists Kz c3;refine⟨s1,rfl,hs1,fun b s2 hs2 hb=>?_⟩;rfl';refine⟨s2,rfl,hs2,fun n s3 hs3 hn=>?_⟩;rfl';exact⟨by decide,q (.put b n) s3 ⟨hb,hn⟩ hs3⟩
 exists Kx c3;symm;by_cases c6:v<6
 ·obtain⟨u,eu⟩:∃ u:_root_.Fin 3,bC [L2.T.str "add",.str "sub",.str "copy"] (v-3)=some (.str (w2 u)):=by
   rcases (show v=3\/v=4\/v=5 by lia) with rfl|rfl|rfl
   ·exact⟨0,rfl⟩
   ·exact⟨1,rfl⟩
   ·exact⟨2,rfl⟩
  exists Kz c6,eu;refine⟨by decide,s1,rfl,hs1,fun a s2 hs2 ha=>?_⟩
  rfl';refine⟨s2,rfl,hs2,fun b s3 hs3 hb=>?_⟩;rfl';exact⟨by decide,q (.two u a b) s3 ⟨ha,hb⟩ hs3⟩
 exists Kx c6;symm;by_cases c8:v<8
 ·obtain⟨u,eu⟩:∃ u:_root_.Fin 2,bC [L2.T.str "tell",.str "hear"] (v-6)=some (.str (w1 u)):=by
   rcases (show v=6\/v=7 by lia) with rfl|rfl
   ·exact⟨0,rfl⟩
   ·exact⟨1,rfl⟩
  exists Kz c8,eu;refine⟨by decide,s1,rfl,hs1,fun a s2 hs2 ha=>?_⟩
  rfl';exact⟨by decide,q (.one u a) s2 ha hs2⟩
 exists Kx c8;symm;rfl';refine⟨s1,(many:Int)+1,rfl,hs1,by lia,by lia,fun g s2 hs2 g0 g1=>?_⟩
 rfl';refine⟨by decide,by decide,s2,5,rfl,hs2,by decide,by decide,fun y s3 hs3 y0 y1=>?_⟩
 obtain⟨d,gg,ed,eg,hgg⟩:∃(d:Int) (gg:Nat),bC [L2.T.int 0,.int 0,.int 0,.int 1,.int 2] y=some (.int d)/\bC [L2.T.int g,.int (many:Int),.int 0] d=some (.int (gg:Int))/\gg<=many:=by
  obtain⟨gn,rfl⟩:∃ gn:Nat,g=gn:=⟨g.toNat,by lia⟩
  rcases (show y=0\/y=1\/y=2\/y=3\/y=4 by lia) with rfl|rfl|rfl|rfl|rfl
  ·exact⟨0,gn,rfl,rfl,by lia⟩
  ·exact⟨0,gn,rfl,rfl,by lia⟩
  ·exact⟨0,gn,rfl,rfl,by lia⟩
  ·exact⟨1,many,rfl,rfl,by lia⟩
  ·exact⟨2,0,rfl,rfl,by lia⟩
 exists ed,eg;symm;by_cases e8:v=8
 ·exists Kz e8;exact⟨by decide,q (.jump gg) s3 hgg hs3⟩
 exists Kx e8;symm;by_cases c11:v<11
 ·exists Kz c11;refine⟨s3,rfl,hs3,fun b s4 hs4 hb=>?_⟩;rfl';exact⟨by decide,q (.zero b gg) s4 ⟨hb,hgg⟩ hs4⟩
 exists Kx c11;ac_rfl;rfl';refine⟨by decide,s3,rfl,hs3,fun b s4 hs4 hb=>?_⟩
 rfl';refine⟨by decide,by decide,s4,2,rfl,hs4,by decide,by decide,fun y s5 hs5 y0 y1=>?_⟩
 have two:∃ r:Row,r.Ok many/\bC [L2.T.tup [.str (Str.ofString "halt")],.tup [.str (Str.ofString "tell"),.str (cB b)]] y=some r.t:=by
  rcases (show y=0\/y=1 by lia) with rfl|rfl
  ·exact⟨.halt,trivial,rfl⟩
  ·exact⟨.one 0 b,hb,rfl⟩
 obtain⟨r,hr',er⟩:=two;exists er;exact q r s5 hr' hs5
noncomputable def nL:eZ:=fun args Q=>∃ s:L2.T,args=[s]/\cF s/\∀(rs:List Row) (s':L2.T),cF s'->rs.length<=60->(∀ r∈rs,r.Ok 60)->Q (.tr (.tup (pT rs))) [s']
theorem pQ(T:Txt K mg)(F:HasFn K mg "_law_program" bK ["seed"])(h_law_draw:k0z P w K mg base)(h_law_row:k14z P w K mg base):aj P w K mg base aV 4 "_law_program" ["seed"] (spT K [true] nL):=by
 refine F.jJ eX [true] rfl (by decide) (fun args Qt hl h f cdv A outer s H E hr=>?_)
 have hu:=aR hr;obtain⟨sd,rfl,hs,q⟩:=h;refine⟨_,(Y.af (Y.set (i:=1) eX.nd rfl (by right) (Y.ix (Y.bp K rfl) Y.aA (Y.lst (Y.cons (Y.op (Y.aJ K rfl) Y.aI Y.int (Y.fn K rfl h_law_draw (hr.mono (by decide)) rfl au (Y.cons (Y.vS 0) (Y.cons Y.int Y.nil)))) (Y.cons (Y.op (Y.aJ K rfl) Y.aI Y.int (Y.fn K rfl h_law_draw (hr.mono (by decide)) rfl au (Y.cons (Y.vS 0) (Y.cons Y.int Y.nil)))) (Y.cons (Y.fn K rfl h_law_draw (hr.mono (by decide)) rfl au (Y.cons (Y.vS 0) (Y.cons Y.int Y.nil))) Y.nil)))) (Y.fn K rfl h_law_draw (hr.mono (by decide)) rfl au (Y.cons (Y.vS 0) (Y.cons Y.int Y.nil)))))
   (Y.az (Y.ret (Y.ct (Y.du K rfl) Y.dR rfl T.bU (by decide +kernel) (Y.cons (Y.jn (osc:=aa bK) (ON:=["seed","many"]) (own:=["k"]) (N:=["k","seed","many"]) ⟨rfl,by decide +kernel,rfl,by decide +kernel,by decide +kernel,by decide +kernel,by decide +kernel,by decide +kernel⟩ rfl rfl rfl rfl (Y.pS rfl T.fJ (Y.cons (Y.vS 1) Y.nil)) (fun _ _ _ _=>(Z.aO (i:=0) (show List.Nodup (["k","seed","many"]:List Str) by decide +kernel) rfl (by right))) (fun _ _ _ _=>Y.nY) (fun _ _ _ _=>(Y.fn K rfl h_law_row (hr.mono (by decide)) rfl au (Y.cons (Y.vS 1) (Y.cons (Y.vS 2) Y.nil))))) Y.nil))))),?_⟩
 refine aB fun N hN=>?_;rfl';refine⟨sd,12,rfl,hs,by decide,by decide,fun a s1 hs1 a0 a1=>?_⟩
 rfl';refine⟨s1,12,rfl,hs1,by decide,by decide,fun b s2 hs2 b0 b1=>?_⟩
 rfl';refine⟨s2,61,rfl,hs2,by decide,by decide,fun c s3 hs3 c0 c1=>?_⟩
 rfl';refine⟨by decide,s3,3,rfl,hs3,by decide,by decide,fun y s4 hs4 y0 y1=>?_⟩
 obtain⟨n,en,hn⟩:∃ n:Nat,bC [L2.T.int (1+a),.int (1+b),.int c] y=some (.int (n:Int))/\n<=60:=by
  obtain⟨an,rfl⟩:∃ an:Nat,a=an:=⟨a.toNat,by lia⟩
  obtain⟨bn,rfl⟩:∃ bn:Nat,b=bn:=⟨b.toNat,by lia⟩
  obtain⟨cn,rfl⟩:∃ cn:Nat,c=cn:=⟨c.toNat,by lia⟩
  rcases (show y=0\/y=1\/y=2 by lia) with rfl|rfl|rfl
  ·exact⟨1+an,rfl,by lia⟩
  ·exact⟨1+bn,rfl,by lia⟩
  ·exact⟨cn,rfl,by lia⟩
 exists en;ac_rfl;rfl';refine⟨by lia,by lia,?_⟩
 refine cx (fun rest acc μ=>∃(rs:List Row) (s4:L2.T),rest.length+rs.length=n/\acc=pT rs/\(∀ r∈rs,r.Ok n)/\cF s4/\μ=[.pb s4,.tr (.int (n:Int))]) ⟨[],s4,by simp,rfl,(fun r hr=>by cases hr),hs4,rfl⟩ ?_ ?_
 ·rintro acc μ ⟨rs,s4,e,rfl,aD,hs4,rfl⟩;refine⟨trivial,?_⟩;rfl';have e':rs.length=n:=by simpa using e
  exact q rs s4 hs4 (by lia) fun r hr=>(aD r hr).mono hn
 ·rintro t r acc μ M ⟨rs,s4,e,rfl,aD,hs4,rfl⟩ k;rw[K6] at e;refine⟨trivial,by rw[qP];exact Lc (show _<=60 by lia) (by decide),?_⟩
  rfl';refine⟨s4,n,rfl,hs4,hn,fun rw' s5 hok5 hs5=>?_⟩;rfl';refine k _ _ ⟨rs++[rw'],s5,by rw[K0,LZ];lia,by unfold pT;rw[KI];rfl,fun x hx=>?_,hs5,rfl⟩
  rcases KR.mp hx with z|z
  ·exact aD x z
  ·rw[KC.mp z];exact hok5
noncomputable def cD(n:Nat):Nat:=Builtin.Int.intBits (n:Int)
theorem se{n:Nat}(h:n<65536):cD n<17:=by
 unfold cD Builtin.Int.intBits;split
 ·decide
 ·rename_i hz;have h0:n≠0:=fun z=>hz (by rw[z];rfl)
  show (n:Int).natAbs.log2+1<17;rw[Ob];have:=(Nat.log2_lt (n:=n) (k:=16) h0).mpr (by lia)
  lia
noncomputable def Row.wi:Row->Nat
 |.put _ _=>0
 |.two u _ _=>1+u
 |.one u _=>4+u
 |.jump _=>6
 |.zero _ _=>7
 |.halt=>8
theorem Row.wq(r:Row):r.wi<9:=by
 cases r with
 |two u a b=>exact (by decide:∀ u:_root_.Fin 3,1+(u:Nat)<9) u
 |one u b=>exact (by decide:∀ u:_root_.Fin 2,4+(u:Nat)<9) u
 |put b n=>exact (by decide:0<9)
 |jump g=>exact (by decide:6<9)
 |zero b g=>exact (by decide:7<9)
 |halt=>exact (by decide:8<9)
inductive Pk where
 |box (b:Nat)|num (n:Nat)|goal (g:Nat)
noncomputable def Pk.kd:Pk->Str
 |.box _=>"box"
 |.num _=>"number"
 |.goal _=>"goal"
noncomputable def Pk.t:Pk->L2.T
 |.box b=>.str (cB b)
 |.num n=>.int (n:Nat)
 |.goal g=>.int (g:Nat)
noncomputable def Pk.Ok:Pk->Prop
 |.box b=>b<8
 |.num n=>n<65536
 |.goal _=>True
noncomputable def Pk.JL:Pk->List (Nat×Nat)
 |.box b=>[(2,b)]
 |.num n=>[(1,cD n)]
 |.goal _=>[]
noncomputable def Row.wd:Row->Str
 |.put _ _=>"put"
 |.two u _ _=>w2 u
 |.one u _=>w1 u
 |.jump _=>"jump"
 |.zero _ _=>"zero"
 |.halt=>"halt"
noncomputable def Row.jd:Row->List Pk
 |.put b n=>[.box b,.num n]
 |.two _ a b=>[.box a,.box b]
 |.one _ b=>[.box b]
 |.jump g=>[.goal g]
 |.zero b g=>[.box b,.goal g]
 |.halt=>[]
theorem Row.GZ(r:Row):r.t=.tup (.str r.wd::r.jd.map Pk.t):=by cases r<;>rfl
theorem Row.pN{r:Row}(h:r.Ok k):∀ p∈r.jd,p.Ok:=by
 cases r with
 |put b n=>simp only[Row.jd,K4,KZ,LO];exact fun p z=>z.elim (fun e=>e ▸ h.1) fun e=>e ▸ h.2
 |two u a b=>simp only[Row.jd,K4,KZ,LO];exact fun p z=>z.elim (fun e=>e ▸ h.1) fun e=>e ▸ h.2
 |one u b=>simp only[Row.jd,K4,KZ,LO];rintro p rfl;exact h
 |jump g=>simp only[Row.jd,K4,KZ,LO];rintro p rfl;exact trivial
 |zero b g=>simp only[Row.jd,K4,KZ,LO];exact fun p z=>z.elim (fun e=>e ▸ h.1) fun e=>e ▸ trivial
 |halt=>simp[Row.jd]
noncomputable def gf(r:Row):List (Nat×Nat):=(0,r.wi)::r.jd.flatMap Pk.JL
noncomputable def fo:List Str:=["put","add","sub","copy","tell","hear","jump","zero","halt"]
theorem GF:∀ k,k<9->∀ m,m<k->fo[m]?≠fo[k]?:=by decide +kernel
theorem rX(r:Row):fo[r.wi]?=some r.wd/\∀ m,m<r.wi->fo[m]?≠some r.wd:=by
 have h1:fo[r.wi]?=some r.wd:=by
  cases r with
  |two u a b=>exact (by decide +kernel:∀ u:_root_.Fin 3,fo[1+(u:Nat)]?=some (w2 u)) u
  |one u b=>exact (by decide +kernel:∀ u:_root_.Fin 2,fo[4+(u:Nat)]?=some (w1 u)) u
  |put b n=>rfl
  |jump g=>rfl
  |zero b g=>rfl
  |halt=>rfl
 exact⟨h1,fun m hm=>by rw[<- h1];exact GF _ r.wq m hm⟩
theorem mR(t:L2.T)(ts:List L2.T):Y.bB (t::ts) (some 1) none=ts:=by
 unfold Y.bB;rw[HT.fC,show (some (1:Int))=some ((1:Nat):Int) from rfl,HT.gR];simp
noncomputable def cT(l:List (Nat×Nat)):List L2.T:=l.map fun p=>.tup [.int (p.1:Nat),.int (p.2:Nat)]
noncomputable def yh:eZ:=fun args Q=>∃(r:Row) (k:Nat),args=[r.t]/\r.Ok k/\Q (.fr (.lst (cT (gf r)))) []
noncomputable def dD:List (Str×List Str):=[("put",["box","number"]),("add",["box","box"]),("sub",["box","box"]),("copy",["box","box"]),("tell",["box"]),("hear",["box"]),("jump",["goal"]),("zero",["box","goal"]),("halt",[])]
theorem uG(r:Row):KTD.datumAt r.wd dD=some (r.jd.map Pk.kd):=by
 cases r with
 |two u a b=>exact (by decide +kernel:∀ u:_root_.Fin 3,KTD.datumAt (w2 u) dD=some [("box":Str),"box"]) u
 |one u b=>exact (by decide +kernel:∀ u:_root_.Fin 2,KTD.datumAt (w1 u) dD=some [("box":Str)]) u
 |put b n=>exact (by decide +kernel:KTD.datumAt ("put":Str) dD=some [("box":Str),"number"])
 |jump g=>exact (by decide +kernel:KTD.datumAt ("jump":Str) dD=some [("goal":Str)])
 |zero b g=>exact (by decide +kernel:KTD.datumAt ("zero":Str) dD=some [("box":Str),"goal"])
 |halt=>exact (by decide +kernel:KTD.datumAt ("halt":Str) dD=some ([]:List Str))
theorem w8:∀ ps:List Pk,km ((ps.map Pk.kd).map L2.T.str) (ps.map Pk.t)=ps.map fun p=>.tup [.str p.kd,p.t]
 |[]=>rfl
 |p::ps=>Le (_::·) (w8 ps)
noncomputable def Gg:List Str:=["a","b","c","d","e","f","g","h"]
theorem wH{b:Nat}(h:b<8):Gg[b]?=some (cB b)/\∀ m,m<b->Gg[m]?≠some (cB b):=(by decide +kernel:∀ b,b<8->Gg[b]?=some (cB b)/\∀ m,m<b->Gg[m]?≠some (cB b)) b h
theorem vA(a b:List (Nat×Nat)):cT (a++b)=cT a++cT b:=KI
theorem xf(T:Txt K mg)(F:HasFn K mg "coded_things" cp ["row"]):aj P w K mg base aV 1 "coded_things" ["row"] (spT K [false] yh):=by
 refine F.jJ bY [false] rfl (by decide) (fun args Qt hl h f cdv A outer s H E hr=>?_)
 have hu:=aR hr;obtain⟨r,k,rfl,aD,q⟩:=h;refine⟨_,(Y.af (Y.set (i:=1) bY.nd rfl (by right) (Y.lst (Y.cons (Y.tup (Y.cons (Y.wX rfl T.qJ) (Y.cons (Y.Jp K rfl rfl rfl T.j5 rfl T.qy (Y.ix (Y.bp K rfl) Y.aA (Y.vS 0) Y.int)) Y.nil))) Y.nil)))
   (Y.af (Y.h_ Lk rfl (Y.zip K rfl rfl T.oF (Y.cons (Y.JP K rfl rfl T.j5 (Y.ix (Y.bp K rfl) Y.aA (Y.vS 0) Y.int)) (Y.cons (Y.fq K rfl (Y.vS 0) (Y.zB Y.int) Y.zC) Y.nil))) (Y.zj (n:=2) K rfl rfl (Y.bH (Y.aO (i:=2) bY.nd rfl (by right)) (Y.bH (Y.aO (i:=3) bY.nd rfl (by right)) Y.gb))) (Y.az (Y.e9 (Y.aZ (Y.cu K rfl (Lb hu)) Y.dI (Y.vS 2) Y.str) (Y.az (Y.expr (Y.bm K rfl PySem.F.slot_list_append PySem.F.type_list_append fD Y.kr (Y.vS 1) (Y.cons (Y.tup (Y.cons (Y.wX rfl T.pL) (Y.cons (Y.IF K rfl rfl T.m4 T.zN (Y.vS 3)) Y.nil))) Y.nil)))) (Y.az (Y.e9 (Y.aZ (Y.cu K rfl (Lb hu)) Y.dI (Y.vS 2) Y.str) (Y.az (Y.expr (Y.bm K rfl PySem.F.slot_list_append PySem.F.type_list_append fD Y.kr (Y.vS 1) (Y.cons (Y.tup (Y.cons (Y.wX rfl T.lI) (Y.cons (Y.bits (Y.vS 3)) Y.nil))) Y.nil)))) Y.bG)))))
   (Y.az (Y.ret (Y.vS 1))))),?_⟩
 rw[Row.GZ];refine aB fun N hN=>?_;rfl';refine⟨r.wi,(rX r).1,(rX r).2,by decide,by decide,?_⟩
 symm;have e1:=uG r;unfold dD at e1;exists e1,mR;show Y.fv _ _ _ (km ((r.jd.map Pk.kd).map L2.T.str) (r.jd.map Pk.t)) _;rw[w8];refine di (fun rest μ=>∃(ps:List Pk) (l:List (Nat×Nat)) (o2 o3:Option L2.T),rest=ps.map (fun p=>.tup [.str p.kd,p.t])/\(∀ p∈ps,p.Ok)/\l.length+ps.length<=10/\gf r=l++ps.flatMap Pk.JL/\μ=[.tr (.tup (.str r.wd::r.jd.map Pk.t)),.bx (.lst (cT l)),sl o2,sl o3]) ⟨r.jd,[(0,r.wi)],none,none,rfl,Row.pN aD,by cases r<;>simp[Row.jd],rfl,rfl⟩ ?_ ?_
 ·rintro μ ⟨ps,l,o2,o3,e1,_,_,ea,rfl⟩;have e2:ps=[]:=List.map_eq_nil_iff.mp e1.symm;subst e2;rw[List.flatMap_nil,Lj] at ea;rw[ea] at q;show N _;ac_rfl;rfl';exact q
 ·rintro t rest μ M ⟨ps,l,o2,o3,e1,hp,l10,ea,rfl⟩ k;obtain⟨p,ps',rfl,rfl,rfl⟩:=List.map_eq_cons_iff.mp e1.symm;have hp0:=hp p (KD ..);have hp1:∀ q∈ps',q.Ok:=fun q hq=>hp q (K9 _ hq);rw[K6] at l10;clear hN q e1
  cases p with
  |box b =>
   show Y.Ft _ _ (R.tr (.tup [.str "box",.str (cB b)])) _ _;exists (show (Str.ofString "box"=Str.ofString "box")=True from eq_true rfl),Mg;refine⟨Gg,b,rfl,(wH hp0).1,(wH hp0).2,by decide,?_,?_⟩
   ·exact Lc (by unfold cT;rw[K3];lia) (show 10<sizeLine by decide)
   refine k _ ⟨ps',l++[(2,b)],some (.str "box"),some (.str (cB b)),rfl,hp1,by rw[K0];simp only[K6,Lf];lia,by rw[ea,Mw,KH];rfl,by rw[vA];rfl⟩
  |num n =>
   show Y.Ft _ _ (R.tr (.tup [.str "number",.int (n:Nat)])) _ _;have n1:(Str.ofString "number")≠(Str.ofString "box"):=by decide +kernel
   exists Kx n1,(show (Str.ofString "number"=Str.ofString "number")=True from eq_true rfl),Mg;refine⟨by decide,?_,?_⟩
   ·exact Lc (by unfold cT;rw[K3];lia) (show 10<sizeLine by decide)
   refine k _ ⟨ps',l++[(1,cD n)],some (.str "number"),some (.int (n:Nat)),rfl,hp1,by rw[K0];simp only[K6,Lf];lia,by rw[ea,Mw,KH];rfl,by rw[vA];rfl⟩
  |goal n =>
   show Y.Ft _ _ (R.tr (.tup [.str "goal",.int (n:Nat)])) _ _;have n1:(Str.ofString "goal")≠(Str.ofString "box"):=by decide +kernel
   have n2:(Str.ofString "goal")≠(Str.ofString "number"):=by decide +kernel
   exists Kx n1,Kx n2;exact k _ ⟨ps',l,some (.str "goal"),some (.int (n:Nat)),rfl,hp1,by lia,by rw[ea,Mw];rfl,rfl⟩
noncomputable def fN(l:List Int)(i:Nat)(c:Int):List Int:=l.set i (l.getD i 0+c)
noncomputable def oU(l:List Int)(is:List Nat)(c:Int):List Int:=is.foldl (fun l i=>fN l i c) l
noncomputable def Row.cls:Row->List Nat
 |.put _ n=>[cD n]
 |_=>[]
noncomputable def Row.Ks:Row->List Nat
 |.put b _=>[b]
 |.two _ a b=>[a,b]
 |.one _ b=>[b]
 |.jump _=>[]
 |.zero b _=>[b]
 |.halt=>[]
structure eW where
 w:List Int
 c:List Int
 b:List Int
noncomputable def eW.row(s:eW)(r:Row)(c:Int):eW:=⟨fN s.w r.wi c,oU s.c r.cls c,oU s.b r.Ks c⟩
noncomputable def counted:List Row->List Int->eW->eW
 |r::rs,c::cs,s=>counted rs cs (s.row r c)
 |_,_,s=>s
noncomputable def eK:eW:=⟨List.replicate 9 0,List.replicate 17 0,List.replicate 8 0⟩
theorem fu(l:List Int)(i:Nat)(c:Int):(fN l i c).length=l.length:=Lp
theorem ig:∀(is:List Nat) (l:List Int) (c:Int),(oU l is c).length=l.length
 |[],_,_=>rfl
 |i::is,l,c=>by show (oU (fN l i c) is c).length=_;rw[ig is,fu]
theorem tF{l:List Int}{c:Int}(h:∀ x∈l,0<=x)(hc:0<=c):∀ x∈fN l i c,0<=x:=fun x hx=>by
 rcases Oq hx with hx|hx
 ·exact h x hx
 ·have:0<=l.getD i 0:=by
   rw[KP]
   cases e:l[i]? with
   |none=>exact M0 0
   |some y=>exact h y (L6 e)
  lia
theorem iW:∀(is:List Nat) {l:List Int} {c:Int},(∀ x∈l,0<=x)->0<=c->∀ x∈oU l is c,0<=x
 |[],_,_,h,_=>h
 |i::is,l,c,h,hc=>iW is (tF (i:=i) h hc) hc
structure eW.Ok (s:eW):Prop where
 lw:s.w.length=9
 lc:s.c.length=17
 lb:s.b.length=8
 nw:∀ x∈s.w,0<=x
 nc:∀ x∈s.c,0<=x
 nb:∀ x∈s.b,0<=x
theorem eW.Ok.row{s:eW}(h:s.Ok)(r:Row){c:Int}(hc:0<=c):(s.row r c).Ok:=
 ⟨by rw[<- h.lw];exact fu _ _ _,by rw[<- h.lc];exact ig _ _ _,by rw[<- h.lb];exact ig _ _ _,tF h.nw hc,iW _ h.nc hc,iW _ h.nb hc⟩
theorem tm:eK.Ok:=⟨rfl,rfl,rfl,by decide,by decide,by decide⟩
theorem gm:∀(rs:List Row) (cs:List Int) {s:eW},s.Ok->(∀ x∈cs,0<=x)->(counted rs cs s).Ok
 |[],_,_,h,_=>h
 |_::_,[],_,h,_=>h
 |r::rs,c::cs,_,h,hc=>gm rs cs (h.row r (hc c (KD ..))) fun x hx=>hc x (K9 _ hx)
noncomputable def eW.add(s:eW)(p:Nat×Nat)(c:Int):eW:=if p.1=0 then {s with w:=fN s.w p.2 c} else if p.1=1 then {s with c:=fN s.c p.2 c} else {s with b:=fN s.b p.2 c}
theorem rm(s:eW)(r:Row)(c:Int):(gf r).foldl (fun s p=>s.add p c) s=s.row r c:=by cases r<;>rfl
theorem m9:∀{ts:List L2.T} {vs:List V},ai K H B vs ts->∀{i:Nat} {t:L2.T},ts[i]?=some t->∃ v,vs[i]?=some v/\Rep K H B v t
 |[],_,_,i,t,e=>by simp at e
 |u::ts,_,r,i,t,e=>by
  cases r with
  |cons h r =>
   cases i with
   |zero=>cases e;exact⟨_,rfl,h⟩
   |succ i=>exact m9 r (by simpa using e)
theorem lu{v:V}{t:L2.T}:∀{ts:List L2.T} {vs:List V},ai K H B vs ts->Rep K H B v t->ai K H B (vs++[v]) (ts++[t])
 |[],_,r,h=>by cases r;exact .cons h .nil
 |u::ts,_,r,h=>by
  cases r with
  |cons h' r=>exact .cons h' (lu r h)
theorem jt:∀{ts:List L2.T} {vs:List V},ai K H B vs ts->vs.length=ts.length
 |[],_,r=>by cases r;rfl
 |u::ts,_,r=>by
  cases r with
  |cons h' r=>rw[K6,K6,jt r]
noncomputable def vQ(z:eW):L2.T:=.tup [.tup (nN (aF z.w 12)),.tup (nN (aF z.c 12)),.tup (nN (aF z.b 12))]
noncomputable def rW:eZ:=fun args Q=>∃(rs:List Row) (cs:List Int),args=[.tup (pT rs),.tup (nI cs)]/\rs.length=cs.length/\rs.length<=60/\(∀ r∈rs,r.Ok 60)/\Q (.tr (vQ (counted rs cs eK))) []
theorem lr:∀ n:Nat,(List.replicate n [V.int 0]).flatten=iV (List.replicate n 0)
 |0=>rfl
 |n+1=>by
  rw[Li,LA,lr n];rfl
structure MB (H:Hp) (D p0 p1 p2:Addr) (z:eW):Prop where
 oD:H D=some (.lst [.ref p0,.ref p1,.ref p2])
 o0:H p0=some (.lst (iV z.w))
 o1:H p1=some (.lst (iV z.c))
 o2:H p2=some (.lst (iV z.b))
structure MN (D p0 p1 p2:Addr):Prop where
 d0:D≠p0
 d1:D≠p1
 d2:D≠p2
 JU:p0≠p1
 JW:p0≠p2
 JM:p1≠p2
theorem MB.kb{H':Hp}{D:Addr}{z:eW}(m:MB H D p0 p1 p2 z)(k:KB [] H H'):MB H' D p0 p1 p2 z:=⟨k _ _ m.oD (by simp),k _ _ m.o0 (by simp),k _ _ m.o1 (by simp),k _ _ m.o2 (by simp)⟩
theorem MB.out{D q:Addr}{z:eW}(m:MB H D p0 p1 p2 z)(h:H q=none\/∃ t,H q=some (.tup t)):q∉[p0,p1,p2]:=by
 have key:∀ p l,H p=some (.lst l)->q≠p:=fun p l e z=>by
  subst z;rcases h with h|⟨t,h⟩
  ·rw[h] at e;cases e
  ·rw[h] at e;cases e
 simp only[K4,KZ,LO,Oz];exact⟨key _ _ m.o0,key _ _ m.o1,key _ _ m.o2⟩
theorem MB.at{D:Addr}{z:eW}(m:MB H D p0 p1 p2 z)(n:MN D p0 p1 p2)(lw:z.w.length=9)(lc:z.c.length=17)(lb:z.b.length=8){j:Nat}(h:(i=0/\j<9)\/(i=1/\j<17)\/(i=2/\j<8))(c:Int):
  ∃ p l,bC [V.ref p0,V.ref p1,V.ref p2] ((i:Nat):Int)=some (.ref p)/\H p=some (.lst (iV l))/\j<l.length/\p∈[p0,p1,p2]/\MB (upd H p (.lst (iV (fN l j c)))) D p0 p1 p2 (z.add (i,j) c):=by
 rcases h with ⟨rfl,h⟩|⟨rfl,h⟩|⟨rfl,h⟩
 ·exact⟨p0,z.w,rfl,m.o0,by lia,by simp,⟨by rw[ab n.d0];exact m.oD,ae,by rw[ab n.JU.symm];exact m.o1,by rw[ab n.JW.symm];exact m.o2⟩⟩
 ·exact⟨p1,z.c,rfl,m.o1,by lia,by simp,⟨by rw[ab n.d1];exact m.oD,by rw[ab n.JU];exact m.o0,ae,by rw[ab n.JM.symm];exact m.o2⟩⟩
 ·exact⟨p2,z.b,rfl,m.o2,by lia,by simp,⟨by rw[ab n.d2];exact m.oD,by rw[ab n.JW];exact m.o0,by rw[ab n.JM];exact m.o1,ae⟩⟩
theorem sO{r:Row}(h:r.Ok k):∀ p∈gf r,(p.1=0/\p.2<9)\/(p.1=1/\p.2<17)\/(p.1=2/\p.2<8):=by
 intro p hp;rcases K4.mp hp with rfl|hp
 ·exact .inl ⟨rfl,r.wq⟩
 ·obtain⟨x,hx,hp⟩:=List.mem_flatMap.mp hp;have hx:=Row.pN h x hx
  cases x with
  |box b=>rw[KC.mp hp];exact .inr (.inr ⟨rfl,hx⟩)
  |num n=>rw[KC.mp hp];exact .inr (.inl ⟨rfl,se hx⟩)
  |goal g=>cases hp
theorem eW.qX(z:eW)(p:Nat×Nat)(c:Int):(z.add p c).w.length=z.w.length/\(z.add p c).c.length=z.c.length/\(z.add p c).b.length=z.b.length:=by
 unfold eW.add;split
 ·exact⟨fu _ _ _,rfl,rfl⟩
 ·split
  ·exact⟨rfl,fu _ _ _,rfl⟩
  ·exact⟨rfl,rfl,fu _ _ _⟩
abbrev k11z(P w K mg base):=aj P w K mg base aV 7 "book_of" ["program","counts"] (spT K [false,false] rW)
theorem uU(T:Txt K mg)(F:HasFn K mg "book_of" dm ["program","counts"])(hcoded_things:aj P w K mg base aV 1 "coded_things" ["row"] (spT K [false] yh))(hleast_lengths:k7z P w K mg base):k11z P w K mg base:=by
 obtain⟨w_HM,u_HM,hg_HOW_MANY,hr_HOW_MANY,rp_HM⟩:=T.qx;obtain⟨w_L,u_L,hg_LONGEST,hr_LONGEST,rp_L⟩:=T.tH;refine F.JY cH (fun vs H Q E h=>?_) (fun f cdv A outer s H vs Q E hr h=>?_)
 ·obtain⟨B,args,Qt,ag,_⟩:=h;exact ag.len.1
 ·obtain⟨B,args,Qt,ag,hB,hnd,⟨rs,cs,rfl,hl,h60,aD,hq⟩,q⟩:=h;have hu:=aR hr;obtain⟨v1,v2,rfl⟩:=Y.nW ag.len.1;obtain⟨r1,r2,_⟩:=ag
  cases r2 with
  |@tup cv vsc _ nc oc rc =>
   have ec:=fw rc;subst ec
   cases r1 with
   |@tup pv pvs _ np op rp =>
    refine⟨_,(Z.af (Z.setC (j:=2) cH.nd rfl (by right) (osc:=aa dm) (ON:=["program","counts","sums","row","count","which","thing"]) (own:=["many"]) (N:=["many","program","counts","sums","row","count","which","thing"]) ⟨rfl,by decide +kernel,rfl,by decide +kernel,by decide +kernel,by decide +kernel,by decide +kernel,by decide +kernel⟩ rfl rfl rfl (Z.seq K rfl (Z.glob rfl hg_HOW_MANY hr_HOW_MANY)) (fun _ _ _ _=>(Z.aO (i:=0) (show List.Nodup (["many","program","counts","sums","row","count","which","thing"]:List Str) by decide +kernel) rfl (by right))) (fun _ _ _ _=>Z.nY) (fun _ _ _ _=>(Z.op rj (Z.lst (Z.cons Z.int Z.nil)) (Z.v 0))))
   (Z.af (Z.h_ Lk rfl (Z.zip K rfl rfl T.oF (Z.cons (Z.v 0) (Z.cons (Z.v 1) Z.nil))) (Z.qd (n:=2) K rfl rfl (Z.bH (Z.aO (i:=3) cH.nd rfl (by right)) (Z.bH (Z.aO (i:=4) cH.nd rfl (by right)) Z.gb))) (Z.az (Z.h_ Lk rfl (Z.any K rfl (Z.fn hcoded_things (hr.mono (by decide)) rfl au (Z.cons (Z.v 3) Z.nil))) (Z.qd (n:=2) K rfl rfl (Z.bH (Z.aO (i:=5) cH.nd rfl (by right)) (Z.bH (Z.aO (i:=6) cH.nd rfl (by right)) Z.gb))) (Z.az (Z.asg (Z.op (Z.lh K rfl) (Z.ix (Z.gq K rfl hu) (Z.ix (Z.gq K rfl hu) (Z.v 2) (Z.v 5)) (Z.v 6)) (Z.v 4)) (Z.oI (Z.ix (Z.gq K rfl hu) (Z.v 2) (Z.v 5)) (Z.v 6)))))))
   (Z.az (Z.ret (Z.ct (Z.gA K rfl) rfl T.bU (by decide +kernel) (Z.cons (Z.comp (osc:=aa dm) (ON:=["program","counts","sums","row","count","which","thing"]) (own:=["counted"]) (N:=["counted","program","counts","sums","row","count","which","thing"]) ⟨rfl,by decide +kernel,rfl,by decide +kernel,by decide +kernel,by decide +kernel,by decide +kernel,by decide +kernel⟩ rfl rfl rfl (Z.any K rfl (Z.v 2)) (fun _ _ _ _=>(Z.aO (i:=0) (show List.Nodup (["counted","program","counts","sums","row","count","which","thing"]:List Str) by decide +kernel) rfl (by right))) (fun _ _ _ _=>Z.nY) (fun _ _ _ _=>(Z.fn hleast_lengths (hr.mono (by decide)) rfl au (Z.cons (Z.ct (Z.gA K rfl) rfl T.bU (by decide +kernel) (Z.cons (Z.v 0) Z.nil)) (Z.cons (Z.glob rfl hg_LONGEST hr_LONGEST) Z.nil))))) Z.nil)))))),?_⟩
    have eL:w_L=.int 12:=by have:=rp_L (fun _=>none) (fun _=>False);cases this;rfl
    subst eL;obtain⟨bm,rfl,kt⟩:∃ b,w_HM=.ref b/\zA K b [.int 9,.int 17,.int 8]:=by
     have:=rp_HM (fun _=>none) (fun _=>False)
     cases this with
     |dN h r =>
      have e:=fw (xs:=[9,17,8]) r;subst e;exact⟨_,rfl,h⟩
    refine b9 fun N hN=>?_;walk_at "rz";refine .inr ⟨⟨_,.inr kt⟩,?_⟩;refine fG (xs:=[V.int 9,V.int 17,V.int 8]) (by decide) (fun D i ys H'=>H D=none/\KB [] H H'/\H' D=some (.lst ys)/\∃ as:List Addr,ys=as.map V.ref/\as.length=i/\as.Nodup/\D∉as/\∀(j:Nat) a,as[j]?=some a->H a=none/\∃ n:Nat,[9,17,8][j]?=some n/\H' a=some (.lst (iV (List.replicate n 0)))) (fun D hD=>⟨hD,KB.new hD,ae,[],rfl,rfl,MV,KZ,fun j a e=>by cases e⟩) (fun D i ys H' ⟨h1,h2,h3,as,h4,h5,_⟩=>⟨h3,by rw[h4,K3,h5]⟩) (fun D i ys H' _=>.inr kt) ?_ ?_
    ·rintro D i ys H' z R hx ⟨h1,h2,h3,as,h4,h5,h6,h7,h8⟩ k;obtain⟨n,hn,rfl,hn1⟩:∃ n:Nat,[9,17,8][i]?=some n/\z=.int (n:Nat)/\n<20:=by
      have hi:i=0\/i=1\/i=2:=by
       have:=(K8.mp hx).1;simp only[K6,Lf] at this;lia
      rcases hi with rfl|rfl|rfl
      ·exact⟨9,rfl,(Option.some.inj hx).symm,by decide⟩
      ·exact⟨17,rfl,(Option.some.inj hx).symm,by decide⟩
      ·exact⟨8,rfl,(Option.some.inj hx).symm,by decide⟩
     walk_at "rz";refine⟨by decide,fun p hp=>?_⟩
     refine⟨p,(n:Nat),[.int 0],rfl,rfl,ae,by lia,by lia,KG (show 1*((n:Nat):Int).toNat<=20 by lia) (by decide),fun p2 hp2=>?_⟩
     have k1:KB [] H' (upd H' p (.lst [.int 0])):=KB.new hp;have k2:=k1.trans (KB.new (o:=.lst (List.replicate ((n:Nat):Int).toNat [V.int 0]).flatten) hp2);have hp2':H' p2=none:=k1.free (by simp) hp2
     have nD:p2≠D:=fun e=>by rw[e,h3] at hp2';cases hp2'
     have fp2:H p2=none:=h2.free (by simp) hp2'
     have hfl:(List.replicate ((n:Nat):Int).toNat [V.int 0]).flatten=iV (List.replicate n 0):=by rw[Lr];exact lr n
     have hpa:∀ a∈as,a≠p2:=fun a ha e=>by
      obtain⟨j,hj⟩:=N5.mp ha;obtain⟨_,m,_,g3⟩:=h8 j a hj;rw[e,hp2'] at g3;cases g3
     rw[hfl] at k2;rw[hfl];refine k _ _ (k2 _ _ h3 (by simp)) ⟨h1,fun c o e _=>?_,ae,as++[p2],by rw[h4,KI];rfl,by rw[K0,h5];rfl,?_,?_,?_⟩
     ·rw[ab (ah e h1)];exact k2 c o (h2 c o e (by simp)) (by simp)
     ·refine List.nodup_append.mpr ⟨h6,by simp,fun a ha b hb e=>?_⟩
      rw[KC.mp hb] at e;exact hpa a ha e
     ·intro hm;rcases KR.mp hm with hm|hm
      ·exact h7 hm
      ·exact nD (KC.mp hm).symm
     ·intro j a e;have hj:j<as.length\/j=as.length:=by
       have:=(K8.mp e).1;rw[K0] at this;simp only[K6,Lf] at this;lia
      rcases hj with hj|rfl
      ·rw[LD hj] at e;obtain⟨g1,m,g2,g3⟩:=h8 j a e;have na:a≠D:=fun z=>h7 (z ▸ L6 e);exact⟨g1,m,g2,by rw[ab na];exact k2 _ _ g3 (by simp)⟩
      ·rw[Lu (K2 _),NM] at e;cases e;exact⟨fp2,n,by rw[h5];exact hn,by rw[ab nD];exact ae⟩
    rintro D ys H2 ⟨hD1,k2,oD,as,rfl,has,hnd2,hDa,hall⟩;obtain⟨p0,p1,p2,rfl⟩:∃ p0 p1 p2,as=[p0,p1,p2]:=by
     rcases as with _|⟨a,_|⟨b,_|⟨c,_|⟨d,as⟩⟩⟩⟩
     ·cases has
     ·cases has
     ·cases has
     ·exact⟨a,b,c,rfl⟩
     ·exfalso;revert has;simp
    have n3:MN D p0 p1 p2:=by
     simp only[K4,KZ,LO,Oz] at hDa;simp only[Lv,K4,KZ,LO,Oz] at hnd2;exact⟨hDa.1,hDa.2.1,hDa.2.2,hnd2.1.1,hnd2.1.2,hnd2.2.1⟩
    have m0:MB H2 D p0 p1 p2 eK:=by
     obtain⟨_,n,en,e0⟩:=hall 0 p0 rfl;obtain⟨_,m,em,e1⟩:=hall 1 p1 rfl;obtain⟨_,l,el,e2⟩:=hall 2 p2 rfl
     cases en;cases em;cases el
     exact⟨oD,e0,e1,e2⟩
    have f0:=(hall 0 p0 rfl).1;have f1:=(hall 1 p1 rfl).1;have f2:=(hall 2 p2 rfl).1;clear hall has hnd2 hDa oD kt;rw[hN];clear hN N;refine b9 fun N hN=>?_;walk_at "rz";have lp:pvs.length=rs.length:=by rw[jt rp];unfold pT;rw[K3]
    have lcv:(iV cs).length=cs.length:=by unfold iV;rw[K3]
    refine⟨pv,cv,false,false,⟨rfl,rfl⟩,⟨_,aW.of (k2 _ _ op (by simp))⟩,⟨_,aW.of (k2 _ _ oc (by simp))⟩,?_⟩
    refine vi (xs:=pvs) (ys:=iV cs) (by lia) (fun i σ H'=>∃(z:eW) (o3 o4 o5 o6:Option V),MB H' D p0 p1 p2 z/\counted rs cs eK=counted (rs.drop i) (cs.drop i) z/\z.w.length=9/\z.c.length=17/\z.b.length=8/\KB [] H H'/\σ=[some (.ref pv),some (.ref cv),some (.ref D),o3,o4,o5,o6]) ⟨eK,none,none,none,none,m0,rfl,rfl,rfl,rfl,k2,rfl⟩ (fun i σ H' _ ⟨z,o3,o4,o5,o6,h1,h2,h3,h4,h5,h6,h7⟩=>⟨aW.of (h6 _ _ op (by simp)),aW.of (h6 _ _ oc (by simp))⟩) ?_ ?_
    ·rintro i x y σ H3 pr ex ey ⟨z,o3,o4,o5,o6,mb,ec,lw,lc,lb,k3,rfl⟩ hpr;have hi:i<rs.length:=by have:=(K8.mp ex).1;lia
     have hi2:i<cs.length:=by lia
     obtain⟨v,ev,rv⟩:=m9 rp (i:=i) (t:=(rs[i]).t) (by unfold pT;rw[KL,Kw hi];rfl)
     rw[ex] at ev;cases ev;have ey':y=.int cs[i]:=by
      unfold iV at ey;rw[KL,Kw hi2] at ey;exact (Option.some.inj ey).symm
     subst ey';have hr0:(rs[i]).Ok 60:=aD _ (Ll hi);have ed:counted rs cs eK=counted (rs.drop (i+1)) (cs.drop (i+1)) (z.row rs[i] cs[i]):=by
      rw[ec,L0 hi,L0 hi2];rfl
     clear ec ex ey;generalize rs[i]=r0 at *;generalize cs[i]=c0 at *;clear hN q;walk_at "rz";refine⟨pr,[x,.int c0],rfl,aW.of ae,rfl,?_⟩;walk_at "rz";obtain⟨H4,e4⟩:∃ H4,H4=upd H3 pr (.tup [x,.int c0]):=⟨_,rfl⟩;rw[<- e4];have k34:KB [] H3 H4:=by rw[e4];exact KB.new hpr
     clear e4;have mb4:=mb.kb k34;have k4:KB [] H H4:=k3.trans k34;refine⟨B,[r0.t],fun r outs=>r=.fr (.lst (cT (gf r0)))/\outs=[],⟨rv.fr fun b o h n=>⟨k4 b o h (by simp),n⟩,trivial⟩,fun b hb=>let ⟨o,ho⟩:=hB b hb;⟨o,k4 b o ho (by simp)⟩,MV,⟨r0,60,rfl,hr0,rfl,rfl⟩,fun v H5 r outs hQ keep res=>?_⟩
     obtain⟨rfl,rfl⟩:=hQ;obtain⟨a,rfl,na,nBa,⟨us,oa,ra⟩,_⟩:=res;have k45:KB [] H4 H5:=fun b o e _=>keep b o e (by show b∉([]:List Addr);simp)
     have mb5:=mb4.kb k45;have ap:a∉[p0,p1,p2]:=mb4.out (.inl na);have sqa:sq H5 a=some (true,us):=dQ oa;simp only[sqa];have lus:us.length=(gf r0).length:=by rw[jt ra];unfold cT;rw[K3]
     refine tU (xs:=us) (fun j σ H'=>∃(z':eW) (o5 o6:Option V),MB H' D p0 p1 p2 z'/\((gf r0).drop j).foldl (fun s p=>s.add p c0) z'=z.row r0 c0/\z'.w.length=9/\z'.c.length=17/\z'.b.length=8/\KB [p0,p1,p2] H5 H'/\σ=[some (.ref pv),some (.ref cv),some (.ref D),some x,some (.int c0),o5,o6]) ⟨z,o5,o6,mb5,rm z r0 c0,lw,lc,lb,KB.refl _ _,rfl⟩ (fun j σ H' _ ⟨z',o5,o6,h1,h2,h3,h4,h5,h6,h7⟩=>bz.of (h6 _ _ oa ap)) ?_ ?_
     ·rintro j u σ H6 eu ⟨z',o5,o6,mb6,ef,lw',lc',lb',k6,rfl⟩;have hj:j<(gf r0).length:=by have:=(K8.mp eu).1;lia
      obtain⟨v,ev,rv2⟩:=m9 ra (i:=j) (t:=.tup [.int (((gf r0)[j]).1:Nat),.int (((gf r0)[j]).2:Nat)]) (by unfold cT;rw[KL,Kw hj];rfl)
      rw[eu] at ev;cases ev;have hin:=sO hr0 _ (Ll hj);have ef':((gf r0).drop (j+1)).foldl (fun s p=>s.add p c0) (z'.add (gf r0)[j] c0)=z.row r0 c0:=by
       rw[<- ef,L0 hj];rfl
      clear ef;generalize (gf r0)[j]=pq at *;obtain⟨i1,i2⟩:=pq
      cases rv2 with
      |@tup q vs2 _ nq oq rq =>
       have e2:=fw (xs:=[(i1:Int),(i2:Int)]) rq;subst e2;have qp:q∉[p0,p1,p2]:=mb5.out (.inr ⟨_,oq⟩);have oq6:=k6 _ _ oq qp;obtain⟨p,l,ea,op6,hl2,hp,mb7⟩:=mb6.at n3 lw' lc' lb' hin c0;walk_at "rz";refine⟨q,_,rfl,aW.of oq6,rfl,?_⟩;have sD:sq H6 D=some (true,[.ref p0,.ref p1,.ref p2]):=dQ mb6.oD;have sp:sq H6 p=some (true,iV l):=dQ op6;have e1:bC (iV l) ((i2:Nat):Int)=some (.int (l.getD i2 0)):=bZ (by unfold iV;rw[KL,KP,Kw hl2];rfl)
       have ei:jT (iV l).length ((i2:Nat):Int)=some i2:=by
        rw[v7 (by lia) (by unfold iV;rw[K3];lia)];simp
       have eset:(iV l).set i2 (V.int (l.getD i2 0+c0))=iV (fN l i2 c0):=by unfold iV fN;rw[O4]
       show eY _ _ [V.int (i1:Nat),V.int (i2:Nat)] _ _ _;walk_at "rz";simp only[sD,ea,L2.Ap.ft,sp,e1,L2.Ap.wW,L2.Ap.setRef,op6,ei,eset];obtain⟨g1,g2,g3⟩:=eW.qX z' (i1,i2) c0;exact⟨_,some (.int (i1:Nat)),some (.int (i2:Nat)),mb7,ef',by rw[g1];exact lw',by rw[g2];exact lc',by rw[g3];exact lb',k6.trans (KB.set hp),rfl,rfl⟩
     ·rintro σ H6 ⟨z',o5,o6,mb6,ef,lw',lc',lb',k6,rfl⟩;rw[lus,Nx] at ef;have ef':z'=z.row r0 c0:=ef;subst ef';refine⟨_,some x,some (.int c0),o5,o6,mb6,ed,lw',lc',lb',fun b o e _=>k6 b o (k45 b o (k4 b o e (by simp)) (by simp)) ?_,rfl⟩
      simp only[K4,KZ,LO,Oz];exact⟨ah e f0,ah e f1,ah e f2⟩
    ·rintro σ H3 ⟨z,o3,o4,o5,o6,mb,ec,lw,lc,lb,k3,rfl⟩;have ez:counted rs cs eK=z:=by rw[ec,lp,Nx];rfl
     rw[ez] at hq;show N _ _;rw[hN];clear hN N;walk_at "rz";have sD:sq H3 D=some (true,[.ref p0,.ref p1,.ref p2]):=dQ mb.oD;simp only[sD];refine qG (xs:=[.ref p0,.ref p1,.ref p2]) (show 3<=sizeLine by decide) (fun D2 i ys H'=>H3 D2=none/\KB [] H3 H'/\H' D2=some (.lst ys)/\ys.length=i/\ai K H' (more B D2) ys ([L2.T.tup (nN (aF z.w 12)),.tup (nN (aF z.c 12)),.tup (nN (aF z.b 12))].take i)) (fun D2 hD=>⟨hD,KB.new hD,ae,rfl,.nil⟩) (fun D2 i ys H' ⟨h1,h2,h3,h4,h5⟩=>⟨h3,h4⟩) (fun D2 i ys H' ⟨h1,h2,h3,h4,h5⟩=>bz.of (h2 _ _ mb.oD (by simp))) ?_ ?_
     ·rintro D2 i ys H4 u R eu ⟨h1,k4,h3,h4,h5⟩ kk;obtain⟨p,l,rfl,op4,hl1,hl2,et⟩:∃ p l,u=.ref p/\H4 p=some (.lst (iV l))/\1<=l.length/\l.length<=20/\[L2.T.tup (nN (aF z.w 12)),.tup (nN (aF z.c 12)),.tup (nN (aF z.b 12))].take (i+1)=[L2.T.tup (nN (aF z.w 12)),.tup (nN (aF z.c 12)),.tup (nN (aF z.b 12))].take i++[.tup (nN (aF l 12))]:=by
       have hi:i=0\/i=1\/i=2:=by
        have:=(K8.mp eu).1;simp only[K6,Lf] at this;lia
       rcases hi with rfl|rfl|rfl
       ·exact⟨p0,z.w,(Option.some.inj eu).symm,k4 _ _ mb.o0 (by simp),by lia,by lia,rfl⟩
       ·exact⟨p1,z.c,(Option.some.inj eu).symm,k4 _ _ mb.o1 (by simp),by lia,by lia,rfl⟩
       ·exact⟨p2,z.b,(Option.some.inj eu).symm,k4 _ _ mb.o2 (by simp),by lia,by lia,rfl⟩
      have sp:sq H4 p=some (true,iV l):=dQ op4;walk_at "rz";simp only[sp];intro t ht;have k5:KB [] H4 (upd H4 t (.tup (iV l))):=KB.new ht;have kall:KB [] H (upd H4 t (.tup (iV l))):=(k3.trans k4).trans k5;have nt:¬ more B D2 t:=fun z=>by
       rcases z with z|z
       ·rw[z,h3] at ht;cases ht
       ·obtain⟨o,ho⟩:=hB t z;rw[(k3.trans k4) t o ho (by simp)] at ht;cases ht
      refine⟨more B D2,[.tup (nI l),.int 12],fun r outs=>r=.tr (.tup (nN (aF l 12)))/\outs=[],⟨.tup nt ae (fA l),.int 12,trivial⟩,fun b hb=>?_,MV,⟨l,rfl,hl1,hl2,rfl,rfl⟩,fun v H5 r outs hQ keep res=>?_⟩
      ·rcases hb with rfl|hb
       ·exact⟨_,k5 _ _ h3 (by simp)⟩
       ·obtain⟨o,ho⟩:=hB b hb;exact⟨o,kall b o ho (by simp)⟩
      ·obtain⟨rfl,rfl⟩:=hQ;obtain⟨rep,_⟩:=res;have k6:KB [] H4 H5:=k5.trans fun b o e _=>keep b o e (by show b∉([]:List Addr);simp)
       have fs:Fr (more B D2) H5 (more B D2) (upd H5 D2 (.lst (ys++[v]))):=Fr.set (.inl rfl);refine kk v H5 (k6 _ _ h3 (by simp)) ⟨h1,fun b o e _=>?_,ae,by rw[K0,h4];rfl,?_⟩
       ·rw[ab (ah e h1)];exact k6 b o (k4 b o e (by simp)) (by simp)
       ·rw[et];exact lu ((h5.fr fun b o e n=>⟨k6 b o e (by simp),n⟩).fr fs) (rep.fr fs)
     rintro D2 ys H4 ⟨h1,k4,h3,h4,h5⟩;have s2:sq H4 D2=some (true,ys):=dQ h3;walk_at "rz";simp only[s2];intro t ht;have kt:KB [] H (upd H4 t (.tup ys)):=(k3.trans k4).trans (KB.new ht);have nt:¬ B t:=fun z=>by
      obtain⟨o,ho⟩:=hB t z;rw[(k3.trans k4) t o ho (by simp)] at ht;cases ht
     refine q _ _ _ _ hq (fun b o e _=>kt b o e (by simp)) ⟨.tup nt ae (h5.fr fun b o e n=>⟨?_,fun z=>n (.inr z)⟩),.nil⟩
     rw[ab (ah e ht)];exact e
noncomputable def Bs(bk:List (List Int)):L2.T:=.tup (bk.map fun l=>.tup (nI l))
noncomputable def vp(ls:List Nat):Prop:=∀ x∈ls,1<=x/\x<=12
structure zD (a b c:List Nat):Prop where
 la:a.length=9
 lb:b.length=17
 lc:c.length=8
 ra:vp a
 rb:vp b
 rc:vp c
 ka:Kr.ks 40 a<=2^40
 kb:Kr.ks 40 b<=2^40
 kc:Kr.ks 40 c<=2^40
noncomputable def Bg(bk:List (List Int))(p:Nat×Nat):Int:=(bk.getD p.1 []).getD p.2 0
noncomputable def JS(p:Nat×Nat):Prop:=(p.1=0/\p.2<9)\/(p.1=1/\p.2<17)\/(p.1=2/\p.2<8)
noncomputable def mS(bk:List (List Int))(r:Row):Int:=((gf r).map (Bg bk)).sum
noncomputable def Cs:Row->Int
 |.put _ n=>max 0 ((cD n:Int)-1)
 |_=>0
noncomputable def fR(bk:List (List Int))(r:Row):Int:=mS bk r+Cs r
noncomputable def kC(f:Row->Int):List Row->List Int->Int
 |r::rs,c::cs=>c*f r+kC f rs cs
 |_,_=>0
theorem lR(f g:Row->Int):∀(rs:List Row) (cs:List Int),kC (fun r=>f r+g r) rs cs=kC f rs cs+kC g rs cs
 |[],_=>rfl
 |_::_,[]=>rfl
 |r::rs,c::cs=>by
  show c*(f r+g r)+kC _ rs cs=c*f r+kC f rs cs+(c*g r+kC g rs cs);rw[lR f g rs cs,OO];lia
theorem gK:∀(l ls:List Int) (i:Nat) (c:Int),i<l.length->ls.length=l.length->dot (fN l i c) ls=dot l ls+c*ls.getD i 0
 |x::l,y::ls,0,c,_,_=>by
  show (x+c)*y+dot l ls=x*y+dot l ls+c*y;rw[Int.add_mul];lia
 |x::l,y::ls,i+1,c,h,he=>by
  have ih:=gK l ls i c (by simpa using h) (by simpa using he)
  show x*y+dot (fN l i c) ls=x*y+dot l ls+c*ls.getD i 0;rw[ih];lia
 |[],_,_,_,h,_=>absurd h (MO _)
 |_::_,[],_,_,_,he=>by cases he
structure Bl (bk:List (List Int)):Prop where
 l0:(bk.getD 0 []).length=9
 l1:(bk.getD 1 []).length=17
 l2:(bk.getD 2 []).length=8
noncomputable def cost(z:eW)(bk:List (List Int)):Int:=dot z.w (bk.getD 0 [])+dot z.c (bk.getD 1 [])+dot z.b (bk.getD 2 [])
structure Cl (z:eW):Prop where
 lw:z.w.length=9
 lc:z.c.length=17
 lb:z.b.length=8
theorem Cl.add{z:eW}(h:Cl z)(p:Nat×Nat)(c:Int):Cl (z.add p c):=by
 obtain⟨a,b,d⟩:=eW.qX z p c;exact⟨a.trans h.lw,b.trans h.lc,d.trans h.lb⟩
theorem yR{bk:List (List Int)}(hb:Bl bk){z:eW}(h:Cl z){p:Nat×Nat}(hp:JS p)(c:Int):cost (z.add p c) bk=cost z bk+c*Bg bk p:=by
 obtain⟨x,y⟩:=p;rcases hp with ⟨rfl,hy⟩|⟨rfl,hy⟩|⟨rfl,hy⟩
 ·show dot (fN z.w y c) _+dot z.c _+dot z.b _=_+_+_+c*(bk.getD 0 []).getD y 0;rw[gK _ _ _ _ (by rw[h.lw];exact hy) (by rw[h.lw,hb.l0])]
  omega
 ·show dot z.w _+dot (fN z.c y c) _+dot z.b _=_+_+_+c*(bk.getD 1 []).getD y 0;rw[gK _ _ _ _ (by rw[h.lc];exact hy) (by rw[h.lc,hb.l1])]
  omega
 ·show dot z.w _+dot z.c _+dot (fN z.b y c) _=_+_+_+c*(bk.getD 2 []).getD y 0;rw[gK _ _ _ _ (by rw[h.lb];exact hy) (by rw[h.lb,hb.l2])]
  omega
theorem kG{bk:List (List Int)}(hb:Bl bk)(c:Int):∀(ps:List (Nat×Nat)) {z:eW},Cl z->(∀ p∈ps,JS p)->cost (ps.foldl (fun s p=>s.add p c) z) bk=cost z bk+c*(ps.map (Bg bk)).sum/\Cl (ps.foldl (fun s p=>s.add p c) z)
 |[],z,h,_=>by
  refine⟨?_,h⟩;show cost z bk=cost z bk+c*0;lia
 |p::ps,z,h,hp=>by
  have ih:=kG hb c ps (h.add p c) fun q hq=>hp q (K9 _ hq);refine⟨?_,ih.2⟩;rw[O9,ih.1,yR hb h (hp p KD),KN,Nw,OO];lia
theorem eN{bk:List (List Int)}(hb:Bl bk):∀(rs:List Row) (cs:List Int) {z:eW},Cl z->(∀ r∈rs,r.Ok k)->cost (counted rs cs z) bk=cost z bk+kC (mS bk) rs cs
 |[],_,z,_,_=>(Nl _).symm
 |_::_,[],z,_,_=>(Nl _).symm
 |r::rs,c::cs,z,h,ho=>by
  have h1:=kG hb c (gf r) h (sO (ho r KD));rw[rm] at h1;show cost (counted rs cs (z.row r c)) bk=cost z bk+(c*mS bk r+kC (mS bk) rs cs);rw[eN hb rs cs h1.2 fun x hx=>ho x (K9 _ hx),h1.1];unfold mS;lia
theorem g9:∀(n:Nat) (l:List Int),dot (List.replicate n 0) l=0
 |0,_=>rfl
 |_+1,[]=>rfl
 |n+1,x::l=>by
  show 0*x+dot (List.replicate n 0) l=0;rw[g9 n l];lia
theorem tR(bk:List (List Int)):cost eK bk=0:=by
 unfold cost eK;rw[g9,g9,g9];rfl
noncomputable def f9(z:eW):List (List Int):=[nZ (aF z.w 12),nZ (aF z.c 12),nZ (aF z.b 12)]
theorem zD.bl(h:zD a b c):Bl [nZ a,nZ b,nZ c]:=⟨by rw[<- h.la];exact aT a,by rw[<- h.lb];exact aT b,by rw[<- h.lc];exact aT c⟩
theorem rO{z:eW}(h:z.Ok):sQ z.w 12 (aF z.w 12)/\sQ z.c 12 (aF z.c 12)/\sQ z.b 12 (aF z.b 12):=
 ⟨ij h.nw (by rw[h.lw];decide) (by rw[h.lw];decide) (by decide) (by decide) (by rw[h.lw];decide),ij h.nc (by rw[h.lc];decide) (by rw[h.lc];decide) (by decide) (by decide) (by rw[h.lc];decide),ij h.nb (by rw[h.lb];decide) (by rw[h.lb];decide) (by decide) (by decide) (by rw[h.lb];decide)⟩
theorem nO{z:eW}(h:z.Ok):zD (aF z.w 12) (aF z.c 12) (aF z.b 12):=by
 obtain⟨a,b,c⟩:=rO h;exact⟨a.len.trans h.lw,b.len.trans h.lc,c.len.trans h.lb,a.gw,b.gw,c.gw,a.ks,b.ks,c.ks⟩
theorem pB{z:eW}(h:z.Ok)(g:zD a b c):cost z (f9 z)<=cost z [nZ a,nZ b,nZ c]:=by
 obtain⟨x,y,w⟩:=rO h;have h1:=x.low a (by rw[g.la,h.lw]) g.ra g.ka
 have h2:=y.low b (by rw[g.lb,h.lc]) g.rb g.kb
 have h3:=w.low c (by rw[g.lc,h.lb]) g.rc g.kc
 show dot _ _+dot _ _+dot _ _<=dot _ _+dot _ _+dot _ _;exact Int.add_le_add (Int.add_le_add h1 h2) h3
theorem uk{rs:List Row}(hc:∀ x∈cs,0<=x)(ho:∀ r∈rs,r.Ok k)(g:zD a b c):kC (mS (f9 (counted rs cs eK))) rs cs<=kC (mS [nZ a,nZ b,nZ c]) rs cs:=by
 have hz:=gm rs cs tm hc;have h1:=eN (nO hz).bl rs cs (z:=eK) ⟨rfl,rfl,rfl⟩ ho;have h2:=eN g.bl rs cs (z:=eK) ⟨rfl,rfl,rfl⟩ ho;have h3:=pB hz g;rw[tR] at h1 h2;have e:f9 (counted rs cs eK)=[nZ (aF (counted rs cs eK).w 12),nZ (aF (counted rs cs eK).c 12),nZ (aF (counted rs cs eK).b 12)]:=rfl;rw[e] at h3 ⊢;lia
theorem u5(h:0<n):Builtin.Int.intBits (n:Int)=Builtin.Int.intBits ((n / 2:Nat):Int)+1:=by
 unfold Builtin.Int.intBits;rw[Kx (by simp;lia)]
 show (n:Int).natAbs.log2+1=_;rw[Ob,Nat.log2_def];split
 ·rw[Kx (by simp;lia),Ob]
 ·have e:n / 2=0:=by lia
  rw[e];rfl
theorem at_getD{l:List Int}(h:i<l.length):bC (nI l) (i:Int)=some (.int (l.getD i 0)):=BX (bZ (by rw[KP,Kw h];rfl))
noncomputable def HI:eZ:=fun args Q=>∃ n:Nat,args=[.int (n:Int)]/\Q (.tr (.int (cD n:Int))) []
theorem y8(T:Txt K mg)(F:HasFn K mg "_law_class" de ["number"]):aj P w K mg base aV 1 "_law_class" ["number"] (spT K [false] HI):=by
 refine F.jJ cN [false] rfl (by decide) (fun args Qt hl h f cdv A outer s H E hr=>?_)
 have hu:=aR hr;obtain⟨n,rfl,q⟩:=h;refine⟨_,(Y.af (Y.set (i:=1) cN.nd rfl (by right) Y.int)
   (Y.af (Y.ic Lk (Y.aZ zu Y.cC (Y.vS 0) Y.int) (Y.af (Y.set (i:=0) cN.nd rfl (by right) (Y.op Y.ji Y.cg (Y.vS 0) Y.int))
   (Y.az (Y.set (i:=1) cN.nd rfl (by right) (Y.op (Y.aJ K rfl) Y.aI (Y.vS 1) Y.int)))))
   (Y.az (Y.ret (Y.vS 1))))),?_⟩
 refine aB fun N hN=>?_;rfl';symm;refine⟨fun m μ=>∃(k c:Nat),m=k/\c+cD k=cD n/\μ=[.tr (.int (k:Int)),.tr (.int (c:Int))],⟨n,n,0,rfl,Nh _,rfl⟩,?_⟩;rintro k μ ⟨_,c,rfl,hk,rfl⟩;by_cases e:(0:Int)<(k:Int)
 ·have hbk:cD k=cD (k / 2)+1:=u5 (by lia)
  exists Kz e;refine aB fun M hM=>?_;rfl';refine⟨⟨by decide,by decide⟩,?_⟩
  refine hM _ ?_;clear hM M;rfl';rw[show (k:Int) / 2=((k / 2:Nat):Int) by lia]
  exact⟨k / 2,by lia,k / 2,c+1,rfl,by lia,rfl⟩
 ·exists Kx e;have hk0:k=0:=by lia
  subst hk0;ac_rfl;rfl';rw[<- hk] at q;exact q
noncomputable def qE(bk:List (List Int)):Pk->Int
 |.box b=>Bg bk (2,b)
 |_=>0
noncomputable def BV:eZ:=fun args Q=>∃(r:Row) (k:Nat) (bk:List (List Int)),args=[r.t,Bs bk]/\r.Ok k/\bk.length=3/\Bl bk/\Q (.tr (.int (fR bk r))) []
abbrev k13z(P w K mg base):=aj P w K mg base aV 2 "_law_bare" ["row","book"] (spT K [false,false] BV)
theorem Ay(T:Txt K mg)(F:HasFn K mg "_law_bare" dG ["row","book"])(h_law_class:aj P w K mg base aV 1 "_law_class" ["number"] (spT K [false] HI)):k13z P w K mg base:=by
 refine F.jJ bR [false,false] rfl (by decide) (fun args Qt hl h f cdv A outer s H E hr=>?_)
 have hu:=aR hr;obtain⟨r,k,bk,rfl,aD,h3,hB,q⟩:=h;obtain⟨b0,b1,b2,rfl⟩:=Y.zI h3;have l0:b0.length=9:=hB.l0;have l1:b1.length=17:=hB.l1;have l2:b2.length=8:=hB.l2;refine⟨_,(Y.af (Y.set (i:=2) bR.nd rfl (by right) (Y.lst (Y.eF rfl rfl)))
   (Y.af (Y.set (i:=3) bR.nd rfl (by right) (Y.ix (Y.bp K rfl) Y.aA (Y.ix (Y.bp K rfl) Y.aA (Y.vS 1) Y.int) (Y.bm K rfl PySem.F.slot_list_index PySem.F.type_list_index Y.rH Y.B7 (Y.vS 2) (Y.cons (Y.ix (Y.bp K rfl) Y.aA (Y.vS 0) Y.int) Y.nil))))
   (Y.af (Y.h_ Lk rfl (Y.anyS K rfl (Y.fq K rfl (Y.vS 0) (Y.zB Y.int) Y.zC)) (Y.aO (i:=4) bR.nd rfl (by right)) (Y.az (Y.e9 (Y.i6 K rfl (Y.GI (C:="str") K rfl rfl T.cy (Y.vS 4) rfl T.Fy (by decide +kernel))) (Y.az (Y.set (i:=3) bR.nd rfl (by right) (Y.op (Y.aJ K rfl) Y.aI (Y.vS 3) (Y.ix (Y.bp K rfl) Y.aA (Y.ix (Y.bp K rfl) Y.aA (Y.vS 1) Y.int) (Y.sm K rfl PySem.F.slot_str_find PySem.F.type_str_find Y.BF Y.B5 Y.str (Y.cons (Y.vS 4) Y.nil)))))) Y.bG)))
   (Y.af (Y.e9 (Y.aZ (Y.cu K rfl (Lb hu)) Y.dI (Y.ix (Y.bp K rfl) Y.aA (Y.vS 0) Y.int) Y.str) (Y.az (Y.set (i:=3) bR.nd rfl (by right) (Y.op (Y.aJ K rfl) Y.aI (Y.op (Y.aJ K rfl) Y.aI (Y.vS 3) (Y.ix (Y.bp K rfl) Y.aA (Y.ix (Y.bp K rfl) Y.aA (Y.vS 1) Y.int) (Y.fn K rfl h_law_class (hr.mono (by decide)) rfl au (Y.cons (Y.ix (Y.bp K rfl) Y.aA (Y.vS 0) Y.int) Y.nil)))) (Y.cb (g_ rfl) Y.qj rfl T.rE (by decide +kernel) (Y.cons Y.int (Y.cons (Y.op b_ Y.bV (Y.fn K rfl h_law_class (hr.mono (by decide)) rfl au (Y.cons (Y.ix (Y.bp K rfl) Y.aA (Y.vS 0) Y.int) Y.nil)) Y.int) Y.nil)))))) Y.bG)
   (Y.az (Y.ret (Y.vS 3))))))),?_⟩
 refine aB fun N hN=>?_;rfl';refine⟨by decide,?_⟩
 symm;rw[Row.GZ];show Y.jO _ _ _ [.tr (.tup (.str r.wd::r.jd.map Pk.t)),.tr (.tup [.tup (nI b0),.tup (nI b1),.tup (nI b2)]),_,_,_];rfl';refine⟨fo,r.wi,rfl,(rX r).1,(rX r).2,?_⟩;exists at_getD (show r.wi<b0.length by rw[l0];exact r.wq)
 ac_rfl;obtain⟨wl,ewl⟩:∃ wl,wl=L2.T.lst [L2.T.str (Str.ofString "put"),L2.T.str (Str.ofString "add"),L2.T.str (Str.ofString "sub"),L2.T.str (Str.ofString "copy"),L2.T.str (Str.ofString "tell"),L2.T.str (Str.ofString "hear"),L2.T.str (Str.ofString "jump"),L2.T.str (Str.ofString "zero"),L2.T.str (Str.ofString "halt")]:=⟨_,rfl⟩;rw[<- ewl];clear ewl;refine aB fun N hN=>?_;exists mR;refine di (fun rest μ=>∃(x y:List Pk) (o4:Option L2.T),x++y=r.jd/\rest=y.map Pk.t/\μ=[.tr (.tup (.str r.wd::r.jd.map Pk.t)),.tr (.tup [.tup (nI b0),.tup (nI b1),.tup (nI b2)]),.bx wl,.tr (.int (b0.getD r.wi 0+(x.map (qE [b0,b1,b2])).sum)),sl o4]) ⟨[],r.jd,none,rfl,rfl,?_⟩ ?_ ?_
 ·show [_,_,_,_,_]=[_,_,_,Sl.tr (.int (b0.getD r.wi 0+0)),_];rw[Nl];rfl
 ·rintro μ ⟨x,y,o4,e1,e2,rfl⟩;have e3:y=[]:=List.map_eq_nil_iff.mp e2.symm;subst e3;rw[Lj] at e1;subst e1;show N _;symm;by_cases ep:∃ b n,r=.put b n
  ·obtain⟨b,n,rfl⟩:=ep;have e2:bC (L2.T.str (Row.put b n).wd::List.map Pk.t (Row.put b n).jd) 2=some (.int (n:Nat)):=rfl;have hb:=se aD.2;exists (show ((Row.put b n).wd=Str.ofString "put")=True from eq_true rfl),e2;refine⟨n,rfl,?_⟩;exists at_getD (show cD n<b1.length by lia),e2
   refine⟨n,rfl,?_⟩;rfl';ac_rfl;rfl';have e:b0.getD (Row.put b n).wi 0+(List.map (qE [b0,b1,b2]) (Row.put b n).jd).sum+b1.getD (cD n) 0+(if (cD n:Int)-1 > 0 then (cD n:Int)-1 else 0)=fR [b0,b1,b2] (Row.put b n):=by
    show b0.getD 0 0+(b2.getD b 0+(0+0))+b1.getD (cD n) 0+_=b0.getD 0 0+(b2.getD b 0+(b1.getD (cD n) 0+0))+max 0 ((cD n:Int)-1)
    split<;>lia
   rw[e];exact q
  ·have n1:r.wd≠Str.ofString "put":=by
    cases r with
    |put b n=>exact absurd ⟨b,n,rfl⟩ ep
    |two u a b=>exact (by decide +kernel:∀ u,w2 u≠"put") u
    |one u b=>exact (by decide +kernel:∀ u,w1 u≠"put") u
    |jump g=>exact (by decide +kernel:Str.ofString "jump"≠Str.ofString "put")
    |zero b g=>exact (by decide +kernel:Str.ofString "zero"≠Str.ofString "put")
    |halt=>exact (by decide +kernel:Str.ofString "halt"≠Str.ofString "put")
   exists Kx n1;ac_rfl;rfl';have e:b0.getD r.wi 0+(List.map (qE [b0,b1,b2]) r.jd).sum=fR [b0,b1,b2] r:=by
    cases r with
    |put b n=>exact absurd ⟨b,n,rfl⟩ ep
    |two u a b =>
     show b0.getD _ 0+(b2.getD a 0+(b2.getD b 0+0))=b0.getD _ 0+(b2.getD a 0+(b2.getD b 0+0))+0;lia
    |one u b =>
     show b0.getD _ 0+(b2.getD b 0+0)=b0.getD _ 0+(b2.getD b 0+0)+0;lia
    |jump g =>
     show b0.getD _ 0+(0+0)=b0.getD _ 0+0+0;lia
    |zero b g =>
     show b0.getD _ 0+(b2.getD b 0+(0+0))=b0.getD _ 0+(b2.getD b 0+0)+0;lia
    |halt =>
     show b0.getD _ 0+0=b0.getD _ 0+0+0;lia
   rw[e];exact q
 ·rintro t ts μ M ⟨x,y,o4,e1,e2,rfl⟩ kk
  cases y with
  |nil=>cases e2
  |cons p y =>
   obtain⟨rfl,rfl⟩:=List.cons.inj e2;have hp:=Row.pN aD p (by rw[<- e1];simp)
   have nx:∀ t:L2.T,M [.tr (.tup (.str r.wd::r.jd.map Pk.t)),.tr (.tup [.tup (nI b0),.tup (nI b1),.tup (nI b2)]),.bx wl,.tr (.int (b0.getD r.wi 0+(x.map (qE [b0,b1,b2])).sum+qE [b0,b1,b2] p)),.tr t]:=fun t=>kk _ ⟨x++[p],y,some t,by rw[<- e1];simp,rfl,by rw[KI,NP,<- Int.add_assoc];simp;rfl⟩
   cases p with
   |box b =>
    have hb:b<8:=hp;have fi:Txt.find (Str.ofString "abcdefgh") (cB b)=(b:Int):=by
     rcases Dk hb with rfl|rfl|rfl|rfl|rfl|rfl|rfl|rfl<;>decide +kernel
    show Y.gN 4 (R.tr (.str (cB b))) _ _;exists (show fO "str" "str"=true from by decide +kernel),fi,at_getD (show b<b2.length by lia)
    exact nx _
   |num n =>
    have:=nx (.int (n:Nat));rw[show qE [b0,b1,b2] (.num n)=0 from rfl,Nl] at this;show Y.gN 4 (R.tr (.int (n:Nat))) _ _;exists (show fO "int" "str"=false from by decide +kernel)
    exact this
   |goal n =>
    have:=nx (.int (n:Nat));rw[show qE [b0,b1,b2] (.goal n)=0 from rfl,Nl] at this;show Y.gN 4 (R.tr (.int (n:Nat))) _ _;exists (show fO "int" "str"=false from by decide +kernel)
    exact this
noncomputable def Hx:eZ:=fun args Q=>∃(rs:List Row) (cs:List Int) (k:Nat) (bk:List (List Int)),args=[.tup (pT rs),.tup (nI cs),Bs bk]/\rs.length<=60/\cs.length=rs.length/\(∀ r∈rs,r.Ok k)/\bk.length=3/\Bl bk/\(∀ x∈cs,0<=x/\x<2^60)/\Q (.tr (.int (kC (fR bk) rs cs))) []
abbrev k2z(P w K mg base):=aj P w K mg base aV 3 "_law_total" ["program","counts","book"] (spT K [false,false,false] Hx)
theorem xY(T:Txt K mg)(F:HasFn K mg "_law_total" cq ["program","counts","book"])(h_law_bare:k13z P w K mg base):k2z P w K mg base:=by
 refine F.jJ jW [false,false,false] rfl (by decide) (fun args Qt hl h f cdv A outer s H E hr=>?_)
 have hu:=aR hr;obtain⟨rs,cs,k,bk,rfl,h60,hcl,aD,h3,hB,hc,q⟩:=h;refine⟨_,(Y.az (Y.ret (Y.cb (Y.ve K rfl rfl) Y.D5 rfl T.Fv (by decide +kernel) (Y.cons (Y.C0 K rfl (osc:=aa cq) (ON:=["program","counts","book"]) (own:=["row","count"]) (N:=["row","count","program","counts","book"]) ⟨rfl,by decide +kernel,rfl,by decide +kernel,by decide +kernel,by decide +kernel,by decide +kernel,by decide +kernel⟩ rfl rfl rfl rfl (Y.zip K rfl rfl T.oF (Y.cons (Y.vS 0) (Y.cons (Y.vS 1) Y.nil))) (fun _ _ _ _=>(Z.qd (n:=2) K rfl rfl (Z.bH (Z.aO (i:=0) (show List.Nodup (["row","count","program","counts","book"]:List Str) by decide +kernel) rfl (by right)) (Z.bH (Z.aO (i:=1) (show List.Nodup (["row","count","program","counts","book"]:List Str) by decide +kernel) rfl (by right)) Z.gb)))) (fun _ _ _ _=>Y.nY) (fun _ _ _ _=>(Y.op (Y.dB K rfl) Y.cL (Y.vS 1) (Y.fn K rfl h_law_bare (hr.mono (by decide)) rfl au (Y.cons (Y.vS 0) (Y.cons (Y.vS 4) Y.nil)))))) Y.nil)))),?_⟩
 rfl';refine cx (fun rest acc μ=>∃(r1 r2:List Row) (c1 c2:List Int) (ns:List Int),r1++r2=rs/\c1++c2=cs/\c2.length=r2.length/\rest=km (pT r2) (nI c2)/\acc=nI ns/\ns.length=r1.length/\ns.sum+kC (fR bk) r2 c2=kC (fR bk) rs cs/\μ=[.tr (.tup (pT rs)),.tr (.tup (nI cs)),.tr (Bs bk)]) ⟨[],rs,[],cs,[],rfl,rfl,hcl,rfl,rfl,rfl,Int.zero_add _,rfl⟩ ?_ ?_
 ·rintro acc μ ⟨r1,r2,c1,c2,ns,e1,e2,hl2,e3,rfl,hns,hsum,rfl⟩;have e4:r2=[]:=by
   cases r2 with
   |nil=>rfl
   |cons r r2=>cases c2 with
    |nil=>cases hl2
    |cons=>cases e3
  subst e4;refine⟨trivial,?_⟩;rfl';refine⟨ns,rfl,?_⟩;rw[<- hsum] at q;rw[show kC (fR bk) [] c2=0 by cases c2<;>rfl,Nl] at q
  exact q
 ·rintro t r acc μ M ⟨r1,r2,c1,c2,ns,e1,e2,hl2,e3,rfl,hns,hsum,rfl⟩ kk
  cases r2 with
  |nil=>cases e3
  |cons r0 r2 =>
   cases c2 with
   |nil=>cases hl2
   |cons c0 c2 =>
    obtain⟨rfl,rfl⟩:=List.cons.inj e3;have hr0:=aD r0 (by rw[<- e1];simp)
    have hc0:=hc c0 (by rw[<- e2];simp)
    refine⟨trivial,by rw[aU,hns];exact Lc (show _<=60 by have:=Le List.length e1;rw[K0] at this;lia) (by decide),?_⟩
    rfl';refine⟨r0,k,bk,rfl,hr0,h3,hB,?_⟩;rfl';refine⟨.inl ⟨by lia,by lia⟩,?_⟩
    refine kk _ _ ⟨r1++[r0],r2,c1++[c0],c2,ns++[c0*fR bk r0],by rw[<- e1];simp,by rw[<- e2];simp,by simpa using hl2,rfl,by rw[jQ];rfl,by rw[K0,K0,hns];rfl,?_,rfl⟩
    rw[<- hsum,NP];show ns.sum+(c0*fR bk r0+0)+kC (fR bk) r2 c2=ns.sum+(c0*fR bk r0+kC (fR bk) r2 c2);lia
theorem jP(rows:List Row):∀(n:Nat) (c:RS) (B:Int),(∀ x∈c.turns,0<=x/\x<=B)->0<=B->(runs rows n c).turns.length=c.turns.length/\∀ x∈(runs rows n c).turns,0<=x/\x<=B+n
 |0,c,B,h,_=>⟨rfl,fun x hx=>by have:=h x hx;lia⟩
 |n+1,c,B,h,hB=>by
  show (ite _ _ _:RS).turns.length=_/\∀ x∈(ite _ _ _:RS).turns,_;split
  ·have e1:(gI rows c).turns.length=c.turns.length:=Lp;have h1:∀ x∈(gI rows c).turns,0<=x/\x<=B+1:=fun x hx=>by
    rcases Oq hx with z|z
    ·have:=h x z;lia
    ·have h2:0<=c.turns[c.at_]?.getD 0/\c.turns[c.at_]?.getD 0<=B:=by
      cases e:c.turns[c.at_]? with
      |none=>exact⟨M0 0,hB⟩
      |some y=>exact h y (L6 e)
     lia
   obtain⟨h2,h3⟩:=jP rows n (gI rows c) (B+1) h1 (by lia)
   exact⟨h2.trans e1,fun x hx=>by have:=h3 x hx;lia⟩
  ·exact⟨rfl,fun x hx=>by have:=h x hx;lia⟩
theorem nT(v:Int):∀ n:Nat,(List.replicate n [L2.T.int v]).flatten=nI (List.replicate n v)
 |0=>rfl
 |n+1=>by rw[Li,LA,nT v n,Li];rfl
noncomputable def Hw:eZ:=fun args Q=>∃(s:L2.T) (rs:List Row),args=[s,.tup (pT rs)]/\cF s/\rs.length<=60/\(∀ r∈rs,r.Ok 60)/\∀(cs:List Int) (s':L2.T),cF s'->cs.length=rs.length->(∀ x∈cs,0<=x/\x<2^60)->Q (.tr (.tup (nI cs))) [s']
abbrev k8z(P w K mg base):=aj P w K mg base aV 7 "_law_counted" ["seed","program"] (spT K [true,false] Hw)
theorem qS(T:Txt K mg)(F:HasFn K mg "_law_counted" bu ["seed","program"])(h_law_draw:k0z P w K mg base)(h_law_number:k1z P w K mg base)(hrun_rows:k3z P w K mg base):k8z P w K mg base:=by
 refine F.jJ eU [true,false] rfl (by decide) (fun args Qt hl h f cdv A outer s H E hr=>?_)
 have hu:=aR hr;obtain⟨sd,rs,rfl,hs,h60,aD,q⟩:=h;refine⟨_,(Y.af (Y.set (i:=2) eU.nd rfl (by right) (Y.fn K rfl h_law_draw (hr.mono (by decide)) rfl au (Y.cons (Y.vS 0) (Y.cons Y.int Y.nil))))
   (Y.af (Y.e9 (Y.aZ (Y.cu K rfl (Lb hu)) Y.dI (Y.vS 2) Y.int) (Y.az (Y.ret (Y.op (Y.zM K rfl) Y.A6 (Y.tup (Y.cons Y.int Y.nil)) (Y.cb (Y.aX K rfl) Y.bS rfl T.cU (by decide +kernel) (Y.cons (Y.vS 1) Y.nil))))) Y.bG)
   (Y.af (Y.e9 (Y.aZ (Y.cu K rfl (Lb hu)) Y.dI (Y.vS 2) Y.int) (Y.az (Y.ret (Y.ix (Y.bp K rfl) Y.aA (Y.fn K rfl hrun_rows (hr.mono (by decide)) rfl au (Y.cons (Y.vS 1) (Y.cons (Y.ct (Y.du K rfl) Y.dR rfl T.bU (by decide +kernel) (Y.cons (Y.jn (osc:=aa bu) (ON:=["seed","program","way"]) (own:=["k"]) (N:=["k","seed","program","way"]) ⟨rfl,by decide +kernel,rfl,by decide +kernel,by decide +kernel,by decide +kernel,by decide +kernel,by decide +kernel⟩ rfl rfl rfl rfl (Y.pS rfl T.fJ (Y.cons Y.int Y.nil)) (fun _ _ _ _=>(Z.aO (i:=0) (show List.Nodup (["k","seed","program","way"]:List Str) by decide +kernel) rfl (by right))) (fun _ _ _ _=>Y.nY) (fun _ _ _ _=>(Y.fn K rfl h_law_number (hr.mono (by decide)) rfl au (Y.cons (Y.vS 1) Y.nil)))) Y.nil)) (Y.cons (Y.fn K rfl h_law_draw (hr.mono (by decide)) rfl au (Y.cons (Y.vS 0) (Y.cons Y.int Y.nil))) Y.nil)))) Y.int))) Y.bG)
   (Y.az (Y.ret (Y.ct (Y.du K rfl) Y.dR rfl T.bU (by decide +kernel) (Y.cons (Y.jn (osc:=aa bu) (ON:=["seed","program","way"]) (own:=["row"]) (N:=["row","seed","program","way"]) ⟨rfl,by decide +kernel,rfl,by decide +kernel,by decide +kernel,by decide +kernel,by decide +kernel,by decide +kernel⟩ rfl rfl rfl rfl (Y.anyS K rfl (Y.vS 1)) (fun _ _ _ _=>(Z.aO (i:=0) (show List.Nodup (["row","seed","program","way"]:List Str) by decide +kernel) rfl (by right))) (fun _ _ _ _=>Y.nY) (fun _ _ _ _=>(Y.fn K rfl h_law_draw (hr.mono (by decide)) rfl au (Y.cons (Y.vS 1) (Y.cons (Y.ix (Y.bp K rfl) Y.aA (Y.lst (Y.cons Y.int (Y.cons (Y.op xm Y.cg Y.int Y.int) Y.nil))) (Y.fn K rfl h_law_draw (hr.mono (by decide)) rfl au (Y.cons (Y.vS 1) (Y.cons Y.int Y.nil)))) Y.nil))))) Y.nil))))))),?_⟩
 refine aB fun N hN=>?_;rfl';refine⟨sd,3,rfl,hs,by decide,by decide,fun v s1 hs1 v0 v1=>?_⟩
 rfl';symm;by_cases c0:v=0
 ·exists Kz c0,qP,Lr,nT;exact⟨by decide,⟨by simp,by lia,by lia⟩,q _ s1 hs1 Lo fun x hx=>by rw[(List.mem_replicate.mp hx).2];decide⟩
 exists Kx c0;symm;by_cases c1:v=1
 ·exists Kz c1;refine⟨by decide,by decide,?_⟩
  refine cx (fun rest acc μ=>∃(ns:List Int) (s4:L2.T),rest.length+ns.length=4/\acc=nI ns/\cF s4/\μ=[.pb s4,.tr (.tup (pT rs)),.tr (.int v)]) ⟨[],s1,rfl,rfl,hs1,rfl⟩ ?_ ?_
  ·rintro acc μ ⟨ns,s4,e,rfl,hs4,rfl⟩;refine⟨trivial,?_⟩;rfl';refine⟨s4,400,rfl,hs4,by decide,by decide,fun m s5 hs5 m0 m1=>?_⟩
   obtain⟨mn,rfl⟩:∃ mn:Nat,m=mn:=⟨m.toNat,by lia⟩
   rfl';refine⟨rs,ns,mn,rfl,by lia,fun r hr=>(aD r hr).mono (by decide),by simp at e;lia,by lia,?_⟩
   obtain⟨t1,t2⟩:=jP rs mn (Fg rs ns) 0 (fun x hx=>by obtain⟨_,_,rfl⟩:=Lm.mp hx;decide) (M0 0)
   have e2:∀ c:RS,bC [L2.T.str (if c.at_<rs.length then "more" else "halt"),.tup (nI c.st.told),.tup (nI c.turns),.tup (nI c.st.bs)] 2=some (.tup (nI c.turns)):=fun _=>rfl
   unfold Dv;exists e2;exact q _ s5 hs5 (t1.trans (K3 _)) fun x hx=>by have:=t2 x hx;lia
  ·rintro t r acc μ M ⟨ns,s4,e,rfl,hs4,rfl⟩ k;rw[K6] at e;refine⟨trivial,by rw[aU];exact Lc (show _<=60 by lia) (by decide),?_⟩
   rfl';refine⟨s4,rfl,hs4,fun n s5 hs5 hn=>?_⟩;rfl';exact k _ _ ⟨ns++[(n:Int)],s5,by rw[K0,LZ];lia,by rw[jQ];rfl,hs5,rfl⟩
 exists Kx c1;ac_rfl;rfl';refine cx (fun rest acc μ=>∃(ns:List Int) (s4:L2.T),rest.length+ns.length=rs.length/\acc=nI ns/\(∀ x∈ns,0<=x/\x<2^60)/\cF s4/\μ=[.pb s4,.tr (.tup (pT rs)),.tr (.int v)]) ⟨[],s1,by rw[qP];rfl,rfl,(fun x hx=>by cases hx),hs1,rfl⟩ ?_ ?_
 ·rintro acc μ ⟨ns,s4,e,rfl,hns,hs4,rfl⟩;refine⟨trivial,?_⟩;rfl';exact q _ s4 hs4 (by simpa using e) hns
 ·rintro t r acc μ M ⟨ns,s4,e,rfl,hns,hs4,rfl⟩ k;rw[K6] at e;refine⟨trivial,by rw[aU];exact Lc (show _<=60 by lia) (by decide),?_⟩
  rfl';refine⟨⟨by decide,by decide,by decide⟩,by decide,s4,2,rfl,hs4,by decide,by decide,fun y s5 hs5 y0 y1=>?_⟩
  obtain⟨d,hd,ed⟩:=two_at (a:=3) (b:=1000000000) y0 y1;exists ed;refine⟨s5,d,rfl,hs5,by lia,by lia,fun x s6 hs6 x0 x1=>?_⟩
  rfl';refine k _ _ ⟨ns++[x],s6,by rw[K0,LZ];lia,by rw[jQ];rfl,fun z hz=>?_,hs6,rfl⟩
  rcases KR.mp hz with w|w
  ·exact hns z w
  ·rw[KC.mp w];exact⟨x0,by lia⟩
noncomputable def Cv:eZ:=fun args Q=>∃(s:L2.T) (m:Nat),args=[s,.int (m:Int),.int 12]/\cF s/\2<=m/\m<=17/\∀(ls:List Nat) (s':L2.T),cF s'->ls.length=m->vp ls->Kr.ks 40 ls<=2^40->Q (.tr (.tup (nI (nZ ls)))) [s']
structure Pt (l:List Nat):Prop where
 ks:Kr.ks 40 l=2^40
 rg:vp l
theorem yz:∀ l:List Nat,(∀ x∈l,12<=x)->Kr.ks 40 l<=l.length*2^28
 |[],_=>KY _
 |x::l,h=>by
  have h1:=yz l fun y hy=>h y (K9 _ hy);have h2:2^(40-x)<=2^28:=LM (by decide) (by have:=h x KD;lia)
  rw[Kr.ks,K6];lia
theorem Pt.lt(h:Pt l)(hl:l.length<=17){m:Nat}(hm:∀ x∈l,m<=x):m<12:=by
 rcases LJ m 12 with c|c
 ·exact c
 ·have:=yz l fun x hx=>KG c (hm x hx);rw[h.ks] at this;have:l.length*2^28<=17*2^28:=Mz _ hl;lia
theorem Pt.next{l3:List Nat}{a:Nat}(h:Pt l)(ha:a<l.length)(hl:l[a]<12)(hp:l3.Perm ((l[a]+1)::(l[a]+1)::l.eraseIdx a)):Pt l3/\l3.length=l.length+1:=by
 have hpm:(l[a]::l.eraseIdx a).Perm l:=by
  rw[Md]
  conv=>rhs;rw[<- LG a l,<- OP ha]
  exact Lz.symm
 have hle:=l.length_eraseIdx_of_lt ha;have h3:l3.length=l.length+1:=by
  rw[hp.length_eq,K6,K6,hle];lia
 refine⟨⟨?_,fun y hy=>?_⟩,h3⟩
 ·have e1:=Kr.fE (L:=40) hpm;rw[h.ks,Kr.ks] at e1;rw[Kr.fE hp,Kr.ks,Kr.ks];have e2:2^(40-l[a])=2*2^(40-(l[a]+1)):=by rw[show 40-l[a]=(40-(l[a]+1))+1 by lia,Mf];lia
  lia
 ·have:y=l[a]+1\/y∈l.eraseIdx a:=by
   rcases K4.mp (hp.mem_iff.mp hy) with z|z
   ·exact .inl z
   ·exact K4.mp z
  rcases this with rfl|z
  ·lia
  ·exact h.rg y (hpm.mem_iff.mp (K9 _ z))
theorem sP{a:Nat}(h:a<l.length):bC (nI (nZ l)) (a:Int)=some (.int ((l[a]:Nat):Int)):=BX (bZ (by unfold nZ;rw[KL,Kw h];rfl))
theorem vH(l:List Nat)(a:Nat):Y.bB (nI (nZ l)) none (some (a:Int))=nI (nZ (l.take a))/\Y.bB (nI (nZ l)) (some ((a:Int)+1)) none=nI (nZ (l.drop (a+1))):=by
 refine⟨?_,?_⟩
 ·unfold Y.bB;rw[HT.fC,HT.gR,MU,Nj];unfold nI nZ;rw[<- MJ,<- MJ,K3,K3];congr 2;exact (OX.mpr (by lia))
 ·unfold Y.bB;rw[show (a:Int)+1=((a+1:Nat):Int) from rfl,HT.fC,HT.gR];have hl:(nI (nZ l)).length=l.length:=by rw[aU,aT]
  rw[hl];unfold nI nZ;rw[<- Og,<- Og,<- MJ,<- MJ];congr 2;rcases Pp (a+1) l.length with c|c
  ·rw[OF c,LU (by rw[LH];exact K2 _)]
  ·rw[O3 c,OQ (K2 _),OQ c,List.take_nil]
theorem oW[DecidableEq α]{x:α}:∀{l:List α},x∈l->∃ i:Nat,l[i]?=some x/\∀ m:Nat,m<i->l[m]?≠some x
 |[],h=>by cases h
 |y::l,h=>by
  by_cases c:y=x
  ·subst c;exact⟨0,rfl,fun m hm=>absurd hm (MO _)⟩
  ·rcases K4.mp h with e|e
   ·exact absurd e.symm c
   ·obtain⟨i,h1,h2⟩:=oW e;refine⟨i+1,by simpa using h1,fun m hm=>?_⟩
    cases m with
    |zero=>simpa using c
    |succ m=>simpa using h2 m (by lia)
abbrev k4z(P w K mg base):=aj P w K mg base aV 2 "_law_lengths" ["seed","many","most"] (spT K [true,false,false] Cv)
theorem yi(T:Txt K mg)(F:HasFn K mg "_law_lengths" bw ["seed","many","most"])(h_law_draw:k0z P w K mg base):k4z P w K mg base:=by
 refine F.jJ aS [true,false,false] rfl (by decide) (fun args Qt hl h f cdv A outer s H E hr=>?_)
 have hu:=aR hr;obtain⟨sd,m,rfl,hsd,hm2,hm,q⟩:=h;refine⟨_,(Y.af (Y.set (i:=3) aS.nd rfl (by right) (Y.lst (Y.eF rfl rfl)))
   (Y.af (Y.ic Lk (Y.aZ dE Y.cC (Y.cb (Y.aX K rfl) Y.bS rfl T.cU (by decide +kernel) (Y.cons (Y.vS 3) Y.nil)) (Y.vS 1)) (Y.af (Y.set (i:=4) aS.nd rfl (by right) (Y.fn K rfl h_law_draw (hr.mono (by decide)) rfl au (Y.cons (Y.vS 0) (Y.cons (Y.cb (Y.aX K rfl) Y.bS rfl T.cU (by decide +kernel) (Y.cons (Y.vS 3) Y.nil)) Y.nil))))
   (Y.af (Y.e9 (Y.aZ rJ Y.cC (Y.ix (Y.bp K rfl) Y.aA (Y.vS 3) (Y.vS 4)) (Y.op b_ Y.bV (Y.vS 2) Y.int)) (Y.az (Y.set (i:=4) aS.nd rfl (by right) (Y.bm K rfl PySem.F.slot_list_index PySem.F.type_list_index Y.zV Y.Br (Y.vS 3) (Y.cons (Y.cb (Y.kW K rfl rfl) Y.tG rfl T.kq (by decide +kernel) (Y.cons (Y.vS 3) Y.nil)) Y.nil)))) Y.bG)
   (Y.az (Y.set (i:=3) aS.nd rfl (by right) (Y.op (Y.aJ K rfl) Y.aI (Y.op (Y.aJ K rfl) Y.aI (Y.fq K rfl (Y.vS 3) Y.zC (Y.zB (Y.vS 4))) (Y.lst (Y.cons (Y.op (Y.aJ K rfl) Y.aI (Y.ix (Y.bp K rfl) Y.aA (Y.vS 3) (Y.vS 4)) Y.int) (Y.cons (Y.op (Y.aJ K rfl) Y.aI (Y.ix (Y.bp K rfl) Y.aA (Y.vS 3) (Y.vS 4)) Y.int) Y.nil)))) (Y.fq K rfl (Y.vS 3) (Y.zB (Y.op (Y.aJ K rfl) Y.aI (Y.vS 4) Y.int)) Y.zC)))))))
   (Y.af (Y.e9 (Y.aZ (Y.cu K rfl (Lb hu)) Y.dI (Y.fn K rfl h_law_draw (hr.mono (by decide)) rfl au (Y.cons (Y.vS 0) (Y.cons Y.int Y.nil))) Y.int) (Y.az (Y.HC (j:=3) aS.nd rfl (by right) (osc:=aa bw) (ON:=["seed","many","most","found","at","left"]) (own:=["length"]) (N:=["length","seed","many","most","found","at","left"]) ⟨rfl,by decide +kernel,rfl,by decide +kernel,by decide +kernel,by decide +kernel,by decide +kernel,by decide +kernel⟩ rfl rfl rfl rfl (Y.anyS K rfl (Y.vS 3)) (fun _ _ _ _=>(Z.aO (i:=0) (show List.Nodup (["length","seed","many","most","found","at","left"]:List Str) by decide +kernel) rfl (by right))) (fun _ _ _ _=>Y.nY) (fun _ _ _ _=>(Y.cb (fI rfl) Y.mB rfl T.kq (by decide +kernel) (Y.cons (Y.vS 3) (Y.cons (Y.op (Y.aJ K rfl) Y.aI (Y.vS 0) (Y.fn K rfl h_law_draw (hr.mono (by decide)) rfl au (Y.cons (Y.vS 1) (Y.cons Y.int Y.nil)))) Y.nil)))))) Y.bG)
   (Y.af (Y.set (i:=5) aS.nd rfl (by right) (Y.ct (Y.ja K rfl rfl) Y.rC rfl T.qy (by decide +kernel) (Y.cons (Y.vS 3) Y.nil)))
   (Y.az (Y.ret (Y.ct (Y.du K rfl) Y.dR rfl T.bU (by decide +kernel) (Y.cons (Y.jn (osc:=aa bw) (ON:=["seed","many","most","found","at","left"]) (own:=["k"]) (N:=["k","seed","many","most","found","at","left"]) ⟨rfl,by decide +kernel,rfl,by decide +kernel,by decide +kernel,by decide +kernel,by decide +kernel,by decide +kernel⟩ rfl rfl rfl rfl (Y.pS rfl T.fJ (Y.cons (Y.cb (Y.aX K rfl) Y.bS rfl T.cU (by decide +kernel) (Y.cons (Y.vS 3) Y.nil)) Y.nil)) (fun _ _ _ _=>(Z.aO (i:=0) (show List.Nodup (["k","seed","many","most","found","at","left"]:List Str) by decide +kernel) rfl (by right))) (fun _ _ _ _=>Y.nY) (fun _ _ _ _=>(Y.bm K rfl PySem.F.slot_list_pop PySem.F.type_list_pop vL Y.xS (Y.vS 6) (Y.cons (Y.fn K rfl h_law_draw (hr.mono (by decide)) rfl au (Y.cons (Y.vS 1) (Y.cons (Y.cb (Y.aX K rfl) Y.bS rfl T.cU (by decide +kernel) (Y.cons (Y.vS 6) Y.nil)) Y.nil))) Y.nil)))) Y.nil)))))))),?_⟩
 refine aB fun N hN=>?_;rfl';refine⟨by decide,?_⟩
 symm;refine⟨fun mm μ=>∃(l:List Nat) (s:L2.T) (o4:Option L2.T),cF s/\Pt l/\2<=l.length/\l.length<=m/\mm=m-l.length/\μ=[.pb s,.tr (.int (m:Int)),.tr (.int 12),.bx (.lst (nI (nZ l))),sl o4,.un],⟨_,[1,1],sd,none,hsd,⟨by decide,fun x hx=>by simp at hx;lia⟩,by decide,hm2,rfl,rfl⟩,?_⟩
 rintro mm μ ⟨l,s,o4,hs,hl,hl2,hlm,rfl,rfl⟩;by_cases c:(l.length:Int)<(m:Int)
 ·exists aU,aT,Kz c;refine aB fun M2 h2=>?_;exists aU,aT;refine⟨s,l.length,rfl,hs,by lia,by lia,fun v s2 hs2 v0 v1=>?_⟩
  obtain⟨a,rfl⟩:∃ a:Nat,v=a:=⟨v.toNat,by lia⟩
  have ha:a<l.length:=by lia
  rfl';refine h2 _ ?_;clear h2 M2;refine aB fun M2 h2=>?_;have go:∀ b:Nat,∀ hb:b<l.length,l[b]<12->M2 [.pb s2,.tr (.int (m:Int)),.tr (.int 12),.bx (.lst (nI (nZ l))),.tr (.int (b:Int)),.un]:=fun b hb hb12=>by
   refine h2 _ ?_;clear h2 M2;exists (vH l b).1,(vH l b).2,sP hb;have e:nI (nZ (l.take b))++[L2.T.int (((l[b]:Nat):Int)+1),.int (((l[b]:Nat):Int)+1)]++nI (nZ (l.drop (b+1)))=nI (nZ (l.take b++[l[b]+1,l[b]+1]++l.drop (b+1))):=by
    unfold nI nZ;simp only[KI];rfl
   have hp:(l.take b++[l[b]+1,l[b]+1]++l.drop (b+1)).Perm ((l[b]+1)::(l[b]+1)::l.eraseIdx b):=by
    rw[Md,KH];refine List.perm_append_comm_assoc .. |>.trans ?_;exact List.Perm.refl _
   obtain⟨hP3,hL3⟩:=hl.next hb hb12 hp;have sz:∀ n:Nat,n<=100->n<=sizeLine:=fun n h=>KG h (by decide)
   rw[e];have t1:(l.take b).length<=17:=by rw[Ld];lia
   have t2:(l.drop (b+1)).length<=17:=by rw[LH];lia
   refine⟨by decide,sz _ (by rw[aU,aT];lia),sz _ ?_,m-(l.length+1),by lia,_,s2,some _,hs2,hP3,by rw[hL3];lia,by rw[hL3];lia,by rw[hL3],rfl⟩
   rw[K0,aU,aT,aU,aT];show (l.take b).length+2+(l.drop (b+1)).length<=100;lia
  exists sP ha;by_cases c11:(12:Int)-1<=((l[a]:Nat):Int)
  ·rw[Kz c11];refine⟨nZ l,rfl,by rw[aT];lia,fun M hM hmin=>?_⟩
   obtain⟨i,h1,h2'⟩:=oW hM;have hi:i<l.length:=by have:=(K8.mp h1).1;rw[aT] at this;exact this
   have eM:((l[i]:Nat):Int)=M:=by
    unfold nZ at h1;rw[KL,Kw hi] at h1;exact Option.some.inj h1
   refine⟨nZ l,i,rfl,h1,h2',go i hi (hl.lt (by lia) fun x hx=>?_)⟩
   have:=hmin (x:Int) (Lm.mpr ⟨x,hx,rfl⟩);lia
  ·rw[Kx c11];exact go a ha (by lia)
 ·exists aU,aT,Kx c;ac_rfl;have hlm2:l.length=m:=by lia
  refine aB fun N hN=>?_;have fin:∀(ds:List Nat) (s:L2.T),cF s->ds.length=m->vp ds->Kr.ks 40 ds<=2^40->N [.pb s,.tr (.int (m:Int)),.tr (.int 12),.bx (.lst (nI (nZ ds))),sl o4,.un]:=fun ds s hs hd h12 hks=>by
   symm;rfl';ac_rfl;exists aU,aT;refine⟨by lia,by lia,?_⟩
   refine cx (fun rest acc μ=>∃(x y:List Nat) (s:L2.T),rest.length=y.length/\(x++y).Perm ds/\acc=nI (nZ x)/\cF s/\μ=[.pb s,.tr (.int (m:Int)),.tr (.int 12),.bx (.lst (nI (nZ ds))),sl o4,.bx (.lst (nI (nZ y)))]) ⟨[],ds,s,by simp,List.Perm.refl _,rfl,hs,rfl⟩ ?_ ?_
   ·rintro acc μ ⟨x,y,s,e,hp,rfl,hs,rfl⟩;have e3:y=[]:=List.eq_nil_of_length_eq_zero e.symm;subst e3;rw[Lj] at hp;refine⟨trivial,?_⟩;rfl';exact q x s hs (hp.length_eq.trans hd) (fun z hz=>h12 z (hp.mem_iff.mp hz)) (by rw[Kr.fE hp];exact hks)
   ·rintro t r acc μ M ⟨x,y,s,e,hp,rfl,hs,rfl⟩ k;rw[K6] at e;have hxl:=hp.length_eq;rw[K0] at hxl;refine⟨trivial,by rw[aU,aT];exact Lc (show _<=60 by lia) (by decide),?_⟩
    exists aU,aT;refine⟨s,y.length,rfl,hs,by lia,by lia,fun v s2 hs2 v0 v1=>?_⟩
    obtain⟨a,rfl⟩:∃ a:Nat,v=a:=⟨v.toNat,by lia⟩
    have ha:a<y.length:=by lia
    have six:seqIndex? (a:Int) (nI (nZ y)).length=some a:=by
     rw[aU,aT];unfold seqIndex?
     simp;lia
    have enZ:(nI (nZ y))[a]?=some (.int ((y[a]:Nat):Int)):=by unfold nI nZ;rw[KL,KL,Kw ha];rfl
    have eer:(nI (nZ y)).eraseIdx a=nI (nZ (y.eraseIdx a)):=by
     unfold nI nZ;simp only[Md,KI,MJ,Og]
    rfl';refine⟨by lia,by lia,a,_,six,enZ,?_⟩
    rw[eer];rfl';have hpm:(y[a]::y.eraseIdx a).Perm y:=by
     rw[Md]
     conv=>rhs;rw[<- LG a y,<- OP ha]
     exact Lz.symm
    refine k _ _ ⟨x++[y[a]],y.eraseIdx a,s2,by have:=y.length_eraseIdx_of_lt ha;lia,?_,by unfold nI nZ;rw[KI,KI];rfl,hs2,rfl⟩
    rw[KH,List.singleton_append];exact (OW x hpm).trans hp
  rfl';refine⟨s,3,rfl,hs,by decide,by decide,fun v s2 hs2 v0 v1=>?_⟩
  by_cases cv:v=0
  ·exists Kz cv;refine cx (fun rest acc μ=>∃(x y ds:List Nat) (s:L2.T),x++y=l/\rest=nI (nZ y)/\acc=nI (nZ ds)/\ds.length=x.length/\Kr.ks 40 ds<=Kr.ks 40 x/\vp ds/\cF s/\μ=[.pb s,.tr (.int (m:Int)),.tr (.int 12),.bx (.lst (nI (nZ l))),sl o4,.un]) ⟨[],l,[],s2,rfl,rfl,rfl,rfl,K2 _,(fun z hz=>by cases hz),hs2,rfl⟩ ?_ ?_
   ·rintro acc μ ⟨x,y,ds,s,e1,e2,rfl,hdl,hks,hd,hs,rfl⟩;have e3:y=[]:=by
     cases y with
     |nil=>rfl
     |cons=>cases e2
    subst e3;rw[Lj] at e1;subst e1;refine⟨rfl,?_⟩;rfl';exact fin ds s hs (by rw[hdl,hlm2]) hd (KG hks (Ov hl.ks))
   ·rintro t r acc μ M ⟨x,y,ds,s,e1,e2,rfl,hdl,hks,hd,hs,rfl⟩ k
    cases y with
    |nil=>cases e2
    |cons z y =>
     obtain⟨rfl,rfl⟩:=List.cons.inj e2;have hz:=hl.rg z (by rw[<- e1];simp)
     have hxl:x.length<=17:=by
      have:=Le List.length e1;rw[K0] at this;lia
     refine⟨rfl,by rw[aU,aT];exact Lc (show _<=20 by lia) (by decide),?_⟩
     rfl';refine⟨s,3,rfl,hs,by decide,by decide,fun u s3 hs3 u0 u1=>?_⟩
     obtain⟨uu,rfl⟩:∃ uu:Nat,u=uu:=⟨u.toNat,by lia⟩
     obtain⟨nz,enz,hnz⟩:∃ nz:Nat,(if ((z:Nat):Int)+(uu:Int)<12 then ((z:Nat):Int)+(uu:Int) else 12)=(nz:Int)/\z<=nz/\nz<=12:=by
      by_cases c:((z:Nat):Int)+(uu:Int)<12
      ·rw[Kz c];exact⟨z+uu,rfl,by lia,by lia⟩
      ·rw[Kx c];exact⟨12,rfl,by lia,by lia⟩
     exists enz;refine k _ _ ⟨x++[z],y,ds++[nz],s3,by rw[<- e1];simp,rfl,by unfold nI nZ;rw[KI,KI];rfl,by rw[K0,K0,hdl];rfl,?_,fun w hw=>?_,hs3,rfl⟩
     ·rw[Kr.dq,Kr.dq];have:2^(40-nz)<=2^(40-z):=LM (by decide) (by lia)
      simp only[Kr.ks];lia
     ·rcases KR.mp hw with z'|z'
      ·exact hd w z'
      ·rw[KC.mp z'];lia
  ·exists Kx cv;exact fin l s2 hs2 hlm2 hl.rg (Ov hl.ks)
theorem Ag(h0:0<a.length)(h1:a.length<=20)(h:vp a)(hk:Kr.ks 40 a<=2^40):DG (nZ a)/\o_ (nZ a)=true:=by
 refine⟨⟨by rw[aT];exact h0,by rw[aT];exact h1,fun x hx=>?_⟩,?_⟩
 ·obtain⟨y,hy,rfl⟩:=Lm.mp hx;have:=h y hy;lia
 ·unfold o_ KS nZ;rw[MC,show (Int.toNat ∘ fun k:Nat=>(k:Int))=id from funext fun k=>Lr k,List.map_id];exact L4 hk
noncomputable def Cf:eZ:=fun args Q=>∃ a b c:List Nat,args=[Bs [nZ a,nZ b,nZ c]]/\zD a b c/\Q (.tr (.bl true)) []
theorem uf(T:Txt K mg)(F:HasFn K mg "_law_is_book" cm ["found"])(h_law_wholes:k10z P w K mg base)(h_law_fits:aj P w K mg base aV 1 "_law_fits" ["lengths"] (spT K [false] FT)):aj P w K mg base aV 3 "_law_is_book" ["found"] (spT K [false] Cf):=by
 refine F.jJ cY [false] rfl (by decide) (fun args Qt hl h f cdv A outer s H E hr=>?_)
 have hu:=aR hr;obtain⟨a,b,c,rfl,hB,q⟩:=h;refine⟨_,(Y.af (Y.e9 (Y.tw (Y.CC (Y.lP (Y.i6 K rfl (Y.GI (C:="tuple") K rfl rfl T.cy (Y.vS 0) rfl T.bU (by decide +kernel)))) (Y.u3 (Y.aZ (Y.vE K rfl (Lb hu)) Y.yq (Y.cb (Y.aX K rfl) Y.bS rfl T.cU (by decide +kernel) (Y.cons (Y.vS 0) Y.nil)) Y.int)))) (Y.az (Y.ret Y.bl)) Y.bG)
   (Y.af (Y.h_ Lk rfl (Y.zip K rfl rfl T.oF (Y.cons (Y.tup (Y.eF rfl rfl)) (Y.cons (Y.vS 0) Y.nil))) (Y.zj (n:=2) K rfl rfl (Y.bH (Y.aO (i:=1) cY.nd rfl (by right)) (Y.bH (Y.aO (i:=2) cY.nd rfl (by right)) Y.gb))) (Y.az (Y.e9 (Y.tw (Y.CC (Y.lP (Y.i6 K rfl (Y.fn K rfl h_law_wholes (hr.mono (by decide)) rfl au (Y.cons (Y.vS 2) (Y.cons (Y.vS 1) Y.nil))))) (Y.CC (Y.aZ dE Y.cC (Y.cb (Y.kW K rfl rfl) Y.tG rfl T.kq (by decide +kernel) (Y.cons (Y.vS 2) Y.nil)) Y.int) (Y.CC (Y.aZ zu Y.cC (Y.cb (Y.kB K rfl rfl) Y.sU rfl T.rE (by decide +kernel) (Y.cons (Y.vS 2) Y.nil)) Y.int) (Y.u3 (Y.lP (Y.i6 K rfl (Y.fn K rfl h_law_fits (hr.mono (by decide)) rfl au (Y.cons (Y.vS 2) Y.nil))))))))) (Y.az (Y.ret Y.bl)) Y.bG)))
   (Y.az (Y.ret Y.bl)))),?_⟩
 have t1:fO "tuple" "tuple"=true:=by decide
 refine aB fun N hN=>?_;show Y.yN _ _ _ _ [.tr (.tup [.tup (nI (nZ a)),.tup (nI (nZ b)),.tup (nI (nZ c))]),_,_];exists t1;symm;rfl';refine⟨by decide,?_⟩
 refine di (fun rest μ=>∃(todo:List (List Nat)) (o1 o2:Option L2.T),(rest=todo.map fun l=>L2.T.tup [.int (l.length:Int),.tup (nI (nZ l))])/\(∀ l∈todo,0<l.length/\l.length<=20/\vp l/\Kr.ks 40 l<=2^40)/\μ=[.tr (.tup [.tup (nI (nZ a)),.tup (nI (nZ b)),.tup (nI (nZ c))]),sl o1,sl o2]) ⟨[a,b,c],none,none,?_,?_,rfl⟩ ?_ ?_
 ·show [L2.T.tup [.int 9,.tup (nI (nZ a))],L2.T.tup [.int 17,.tup (nI (nZ b))],L2.T.tup [.int 8,.tup (nI (nZ c))]]=[L2.T.tup [.int (a.length:Int),.tup (nI (nZ a))],L2.T.tup [.int (b.length:Int),.tup (nI (nZ b))],L2.T.tup [.int (c.length:Int),.tup (nI (nZ c))]];rw[hB.la,hB.lb,hB.lc];rfl
 ·intro l hl;rcases K4.mp hl with rfl|hl
  ·exact⟨by rw[hB.la];decide,by rw[hB.la];decide,hB.ra,hB.ka⟩
  ·rcases K4.mp hl with rfl|hl
   ·exact⟨by rw[hB.lb];decide,by rw[hB.lb];decide,hB.rb,hB.kb⟩
   ·rw[KC.mp hl];exact⟨by rw[hB.lc];decide,by rw[hB.lc];decide,hB.rc,hB.kc⟩
 ·rintro μ ⟨todo,o1,o2,e,_,rfl⟩;show N _;ac_rfl;rfl';exact q
 ·rintro t ts μ M ⟨todo,o1,o2,e,hg,rfl⟩ k
  cases todo with
  |nil=>cases e
  |cons l todo =>
   obtain⟨rfl,rfl⟩:=List.cons.inj e;obtain⟨h0,h20,hl12,hks⟩:=hg l KD;obtain⟨hL,hO⟩:=Ag h0 h20 hl12 hks;rfl';refine⟨nZ l,by rw[aT],?_⟩
   rfl';have rg:∀ x∈nZ l,1<=x/\x<=12:=fun x hx=>by
    obtain⟨y,hy,rfl⟩:=Lm.mp hx;have:=hl12 y hy;lia
   refine⟨nZ l,rfl,by rw[aT];exact h0,fun m hm _=>?_⟩
   have n1:¬ m<1:=by have:=rg m hm;lia
   exists n1;refine⟨nZ l,rfl,by rw[aT];exact h0,fun m hm _=>?_⟩
   have n2:¬ 12<m:=by have:=rg m hm;lia
   exists n2;refine⟨nZ l,rfl,hL,?_⟩;exists hO;exact k _ ⟨todo,some _,some _,rfl,fun x hx=>hg x (K9 _ hx),rfl⟩
noncomputable def Cw:eZ:=fun args Q=>∃(s:L2.T) (a b c:List Nat),args=[s,Bs [nZ a,nZ b,nZ c]]/\cF s/\zD a b c/\∀(a' b' c':List Nat) (s':L2.T),cF s'->zD a' b' c'->Q (.tr (Bs [nZ a',nZ b',nZ c'])) [s']
abbrev k12z(P w K mg base):=aj P w K mg base aV 2 "_law_nearly" ["seed","book"] (spT K [true,false] Cw)
theorem tT(T:Txt K mg)(F:HasFn K mg "_law_nearly" cP ["seed","book"])(h_law_draw:k0z P w K mg base):k12z P w K mg base:=by
 refine F.jJ bN [true,false] rfl (by decide) (fun args Qt hl h f cdv A outer s H E hr=>?_)
 have hu:=aR hr;obtain⟨sd,a,b,c,rfl,hs,hB,q⟩:=h;refine⟨_,(Y.af (Y.set (i:=2) bN.nd rfl (by right) (Y.fn K rfl h_law_draw (hr.mono (by decide)) rfl au (Y.cons (Y.vS 0) (Y.cons Y.int Y.nil))))
   (Y.af (Y.set (i:=3) bN.nd rfl (by right) (Y.ct (Y.ja K rfl rfl) Y.rC rfl T.qy (by decide +kernel) (Y.cons (Y.ix (Y.bp K rfl) Y.aA (Y.vS 1) (Y.vS 2)) Y.nil)))
   (Y.af (Y.set (i:=4) bN.nd rfl (by right) (Y.fn K rfl h_law_draw (hr.mono (by decide)) rfl au (Y.cons (Y.vS 0) (Y.cons (Y.cb (Y.aX K rfl) Y.bS rfl T.cU (by decide +kernel) (Y.cons (Y.vS 3) Y.nil)) Y.nil))))
   (Y.af (Y.set (i:=5) bN.nd rfl (by right) (Y.fn K rfl h_law_draw (hr.mono (by decide)) rfl au (Y.cons (Y.vS 0) (Y.cons (Y.cb (Y.aX K rfl) Y.bS rfl T.cU (by decide +kernel) (Y.cons (Y.vS 3) Y.nil)) Y.nil))))
   (Y.af (Y.asg (Y.tup (Y.cons (Y.ix (Y.bp K rfl) Y.aA (Y.vS 3) (Y.vS 5)) (Y.cons (Y.ix (Y.bp K rfl) Y.aA (Y.vS 3) (Y.vS 4)) Y.nil))) (Y.zj (n:=2) K rfl rfl (Y.bH (Y.oI (Y.vS 3) (Y.vS 4)) (Y.bH (Y.oI (Y.vS 3) (Y.vS 5)) Y.gb))))
   (Y.az (Y.ret (Y.op (Y.aJ K rfl) Y.aI (Y.op (Y.aJ K rfl) Y.aI (Y.fq K rfl (Y.vS 1) Y.zC (Y.zB (Y.vS 2))) (Y.tup (Y.cons (Y.ct (Y.du K rfl) Y.dR rfl T.bU (by decide +kernel) (Y.cons (Y.vS 3) Y.nil)) Y.nil))) (Y.fq K rfl (Y.vS 1) (Y.zB (Y.op (Y.aJ K rfl) Y.aI (Y.vS 2) Y.int)) Y.zC))))))))),?_⟩
 have Ic:∀(l:List Nat) (i j:Nat) (hi:i<l.length) (hj:j<l.length),((l.set i l[j]).set j l[i]).Perm l:=fun l i j hi hj=>List.set_set_perm hi hj;have fin:∀ l:List Nat,vp l->Kr.ks 40 l<=2^40->∀ l2:List Nat,l2.Perm l->l2.length=l.length/\vp l2/\Kr.ks 40 l2<=2^40:=fun l h1 h2 l2 hp=>⟨hp.length_eq,fun x hx=>h1 x (hp.mem_iff.mp hx),by rw[Kr.fE hp];exact h2⟩
 refine aB fun N hN=>?_;show Y.jO _ _ _ [.pb sd,.tr (.tup [.tup (nI (nZ a)),.tup (nI (nZ b)),.tup (nI (nZ c))]),.un,.un,.un,.un];rfl';refine⟨sd,3,rfl,hs,by decide,by decide,fun v s1 hs1 v0 v1=>?_⟩
 rfl';ac_rfl;obtain⟨l,el,hl0,hl1,h12,hks,hout⟩:∃ l:List Nat,bC [L2.T.tup (nI (nZ a)),.tup (nI (nZ b)),.tup (nI (nZ c))] v=some (.tup (nI (nZ l)))/\0<l.length/\l.length<=20/\vp l/\Kr.ks 40 l<=2^40/\∀(l2:List Nat) (s':L2.T),l2.Perm l->cF s'->Qt (.tr (.tup (Y.bB [L2.T.tup (nI (nZ a)),.tup (nI (nZ b)),.tup (nI (nZ c))] none (some v)++[.tup (nI (nZ l2))]++Y.bB [L2.T.tup (nI (nZ a)),.tup (nI (nZ b)),.tup (nI (nZ c))] (some (v+1)) none))) [s']:=by
  rcases (show v=0\/v=1\/v=2 by lia) with rfl|rfl|rfl
  ·refine⟨a,rfl,by rw[hB.la];decide,by rw[hB.la];decide,hB.ra,hB.ka,fun l2 s' hp hs'=>?_⟩
   obtain⟨e1,e2,e3⟩:=fin a hB.ra hB.ka l2 hp;exact q l2 b c s' hs' ⟨e1.trans hB.la,hB.lb,hB.lc,e2,hB.rb,hB.rc,e3,hB.kb,hB.kc⟩
  ·refine⟨b,rfl,by rw[hB.lb];decide,by rw[hB.lb];decide,hB.rb,hB.kb,fun l2 s' hp hs'=>?_⟩
   obtain⟨e1,e2,e3⟩:=fin b hB.rb hB.kb l2 hp;exact q a l2 c s' hs' ⟨hB.la,e1.trans hB.lb,hB.lc,hB.ra,e2,hB.rc,hB.ka,e3,hB.kc⟩
  ·refine⟨c,rfl,by rw[hB.lc];decide,by rw[hB.lc];decide,hB.rc,hB.kc,fun l2 s' hp hs'=>?_⟩
   obtain⟨e1,e2,e3⟩:=fin c hB.rc hB.kc l2 hp;exact q a b l2 s' hs' ⟨hB.la,hB.lb,e1.trans hB.lc,hB.ra,hB.rb,e2,hB.ka,hB.kb,e3⟩
 have hbl:[L2.T.tup (nI (nZ a)),.tup (nI (nZ b)),.tup (nI (nZ c))].length=3:=rfl;generalize [L2.T.tup (nI (nZ a)),.tup (nI (nZ b)),.tup (nI (nZ c))]=bl at el hout hbl ⊢;refine aB fun N hN=>?_;exists el;symm;exists aU,aT;refine⟨s1,l.length,rfl,hs1,by lia,by lia,fun x s2 hs2 x0 x1=>?_⟩
 obtain⟨i,rfl⟩:∃ i:Nat,x=i:=⟨x.toNat,by lia⟩
 rfl';symm;exists aU,aT;refine⟨s2,l.length,rfl,hs2,by lia,by lia,fun x s3 hs3 y0 y1=>?_⟩
 obtain⟨j,rfl⟩:∃ j:Nat,x=j:=⟨x.toNat,by lia⟩
 rfl';ac_rfl;have hi:i<l.length:=by lia
 have hj:j<l.length:=by lia
 have xi:∀ l2:List Nat,l2.length=l.length->∀ k:Nat,k<l.length->jT (nI (nZ l2)).length (k:Int)=some k:=fun l2 e k hk=>by
  rw[aU,aT,e];unfold jT;rw[Kz (by lia),Kz (by lia)];simp
 have st:∀(l2:List Nat) (k y:Nat),(nI (nZ l2)).set k (.int (y:Int))=nI (nZ (l2.set k y)):=fun l2 k y=>by unfold nI nZ;rw[O4,O4]
 refine aB fun N hN=>?_;exists sP hi,sP hj,xi l rfl i hi,st,xi (l.set i l[j]) Lp j hj;refine⟨by decide,?_⟩
 ac_rfl;have sz:∀ n:Nat,n<=100->n<=sizeLine:=fun n h=>KG h (by decide)
 have c1:(Y.bB bl none (some v)).length<=3:=by
  unfold Y.bB;rw[Ld,LH];lia
 have c2:(Y.bB bl (some (v+1)) none).length<=3:=by
  unfold Y.bB;rw[Ld,LH];lia
 rfl';refine⟨by decide,sz _ (by lia),sz _ (by rw[K0,LZ];lia),hout _ s3 (Ic l i j hi hj) hs3⟩
theorem AI(z:eW):vQ z=Bs (f9 z):=by
 unfold vQ Bs f9 nN nI nZ;simp only[KN,Pe,MC];rfl
theorem Ec(T:Txt K mg)(F:iM K "law" "law" fU f fd)(h_law_cells:k9z P w K mg base)(h_law_seed:aj P w K mg base aV 1 "_law_seed" ["cell"] (spT K [false] CH))(h_law_program:aj P w K mg base aV 4 "_law_program" ["seed"] (spT K [true] nL))(h_law_counted:k8z P w K mg base)(hbook_of:k11z P w K mg base)
  (h_law_is_book:aj P w K mg base aV 3 "_law_is_book" ["found"] (spT K [false] Cf)) (h_law_total:k2z P w K mg base) (h_law_lengths:k4z P w K mg base) (h_law_nearly:k12z P w K mg base):bD P w K mg base aV 8 f fd ["script"] (kJ K):=by
 refine DV (Bb F eJ [false] rfl (by decide) (fun args Qt hl h cdv A outer s H E hr=>?_))
 have hu:=aR hr;obtain⟨ns,rfl,hn,q⟩:=h;refine⟨_,(Y.af (Y.h_ Lk rfl (Y.anyS K rfl (Y.fn K rfl h_law_cells (hr.mono (by decide)) rfl au (Y.cons (Y.vS 0) (Y.cons Y.int Y.nil)))) (Y.aO (i:=1) eJ.nd rfl (by right)) (Y.af (Y.set (i:=2) eJ.nd rfl (by right) (Y.fn K rfl h_law_seed (hr.mono (by decide)) rfl au (Y.cons (Y.vS 1) Y.nil)))
   (Y.af (Y.set (i:=3) eJ.nd rfl (by right) (Y.fn K rfl h_law_program (hr.mono (by decide)) rfl au (Y.cons (Y.vS 2) Y.nil)))
   (Y.af (Y.set (i:=4) eJ.nd rfl (by right) (Y.fn K rfl h_law_counted (hr.mono (by decide)) rfl au (Y.cons (Y.vS 2) (Y.cons (Y.vS 3) Y.nil))))
   (Y.af (Y.set (i:=5) eJ.nd rfl (by right) (Y.fn K rfl hbook_of (hr.mono (by decide)) rfl au (Y.cons (Y.vS 3) (Y.cons (Y.vS 4) Y.nil))))
   (Y.af (Y.e9 (Y.lP (Y.i6 K rfl (Y.fn K rfl h_law_is_book (hr.mono (by decide)) rfl au (Y.cons (Y.vS 5) Y.nil)))) (Y.az (Y.ret Y.bl)) Y.bG)
   (Y.af (Y.set (i:=6) eJ.nd rfl (by right) (Y.fn K rfl h_law_total (hr.mono (by decide)) rfl au (Y.cons (Y.vS 3) (Y.cons (Y.vS 4) (Y.cons (Y.vS 5) Y.nil)))))
   (Y.az (Y.h_ Lk rfl (Y.pS rfl T.fJ (Y.cons Y.int Y.nil)) (Y.aO (i:=7) eJ.nd rfl (by right)) (Y.af (Y.set (i:=8) eJ.nd rfl (by right) (Y.tup (Y.cons (Y.fn K rfl h_law_lengths (hr.mono (by decide)) rfl au (Y.cons (Y.vS 2) (Y.cons Y.int (Y.cons Y.int Y.nil)))) (Y.cons (Y.fn K rfl h_law_lengths (hr.mono (by decide)) rfl au (Y.cons (Y.vS 2) (Y.cons Y.int (Y.cons Y.int Y.nil)))) (Y.cons (Y.fn K rfl h_law_lengths (hr.mono (by decide)) rfl au (Y.cons (Y.vS 2) (Y.cons Y.int (Y.cons Y.int Y.nil)))) Y.nil)))))
   (Y.af (Y.e9 (Y.aZ dE Y.cC (Y.fn K rfl h_law_total (hr.mono (by decide)) rfl au (Y.cons (Y.vS 3) (Y.cons (Y.vS 4) (Y.cons (Y.vS 8) Y.nil)))) (Y.vS 6)) (Y.az (Y.ret Y.bl)) Y.bG)
   (Y.az (Y.e9 (Y.aZ dE Y.cC (Y.fn K rfl h_law_total (hr.mono (by decide)) rfl au (Y.cons (Y.vS 3) (Y.cons (Y.vS 4) (Y.cons (Y.fn K rfl h_law_nearly (hr.mono (by decide)) rfl au (Y.cons (Y.vS 2) (Y.cons (Y.vS 5) Y.nil))) Y.nil)))) (Y.vS 6)) (Y.az (Y.ret Y.bl)) Y.bG)))))))))))))
   (Y.az (Y.ret Y.bl))),?_⟩
 refine aB fun N hN=>?_;show Y.wo _ _ _ _ (startM [false] [.dW (nI ns)] _);rfl';refine⟨ns,2,rfl,by decide,fun ms=>?_⟩
 rfl';refine di (fun rest μ=>∃(ms:List Int) (s1 s3 s4 s5 s6 s7 s8:Option L2.T) (sd:Sl),rest=nI ms/\(sd=.un\/∃ c,sd=.bx c)/\μ=[.tr (.dW (nI ns)),sl s1,sd,sl s3,sl s4,sl s5,sl s6,sl s7,sl s8]) ⟨ms,none,none,none,none,none,none,none,.un,rfl,.inl rfl,rfl⟩ ?_ ?_
 ·rintro μ ⟨ms,s1,s3,s4,s5,s6,s7,s8,sd,_,_,rfl⟩;show N _;ac_rfl;rfl';exact q
 ·rintro t ts μ M ⟨ms,s1,s3,s4,s5,s6,s7,s8,sd,e,hsd,rfl⟩ k
  cases ms with
  |nil=>cases e
  |cons m ms =>
   cases e;have nsd:nb (some sd)=True:=by rcases hsd with rfl|⟨c,rfl⟩<;>rfl
   rfl';refine aB fun M' hM=>?_;exists nsd;refine⟨m,rfl,fun sd1 hs1=>?_⟩;exists nsd;refine hM _ ?_;clear hM M';refine aB fun M' hM=>?_;rfl';refine⟨sd1,rfl,hs1,fun rs sd2 hs2 h60 aD=>?_⟩;rfl';refine hM _ ?_;clear hM M';refine aB fun M' hM=>?_;rfl';refine⟨sd2,rs,rfl,hs2,h60,aD,fun cs sd3 hs3 hcl hcs=>?_⟩;rfl';refine hM _ ?_;clear hM M';have hc0:∀ x∈cs,0<=x:=fun x hx=>(hcs x hx).1;have hz:=gm rs cs tm hc0;have hB0:=nO hz;have low:∀{a b c:List Nat},zD a b c->¬ kC (fR [nZ a,nZ b,nZ c]) rs cs<kC (fR (f9 (counted rs cs eK))) rs cs:=fun g=>by
    have:=uk hc0 aD g;have e:∀ bk:List (List Int),fR bk=fun r=>mS bk r+Cs r:=fun _=>rfl;rw[e,e,lR,lR];lia
   refine aB fun M' hM=>?_;rfl';refine⟨rs,cs,rfl,hcl.symm,h60,aD,?_⟩;rw[AI];rfl';refine hM _ ?_;clear hM M';refine aB fun M' hM=>?_;rfl';refine⟨_,_,_,rfl,hB0,?_⟩;rfl';refine hM _ ?_;clear hM M';refine aB fun M' hM=>?_;rfl';refine⟨rs,cs,60,_,rfl,h60,hcl,aD,rfl,hB0.bl,hcs,?_⟩;rfl';refine hM _ ?_;clear hM M';rfl';refine⟨by decide,by decide,?_⟩
   refine di (fun rest μ=>∃(sd:L2.T) (s7 s8:Option L2.T),cF sd/\μ=[.tr (.dW (nI ns)),.tr (.int m),.bx sd,.tr (.tup (pT rs)),.tr (.tup (nI cs)),.tr (Bs (f9 (counted rs cs eK))),.tr (.int (kC (fR (f9 (counted rs cs eK))) rs cs)),sl s7,sl s8]) ⟨sd3,s7,s8,hs3,rfl⟩ ?_ ?_
   ·rintro μ ⟨sd,s7,s8,hs,rfl⟩;exact k _ ⟨ms,some _,some _,some _,some _,some _,s7,s8,_,rfl,.inr ⟨_,rfl⟩,rfl⟩
   ·rintro t ts μ M2 ⟨sd,s7,s8,hs,rfl⟩ k2;rfl';refine aB fun M' hM=>?_;rfl';refine⟨sd,9,rfl,hs,by decide,by decide,fun a t1 ht1 la ra ka=>?_⟩
    rfl';refine⟨t1,17,rfl,ht1,by decide,by decide,fun b t2 ht2 lb rb kb=>?_⟩
    rfl';refine⟨t2,8,rfl,ht2,by decide,by decide,fun c t3 ht3 lc rc kc=>?_⟩
    have hg:zD a b c:=⟨la,lb,lc,ra,rb,rc,ka,kb,kc⟩;rfl';refine⟨by decide,?_⟩
    refine hM _ ?_;clear hM M';refine aB fun M' hM=>?_;rfl';refine⟨rs,cs,60,[nZ a,nZ b,nZ c],rfl,h60,hcl,aD,rfl,hg.bl,hcs,?_⟩;exists low hg;refine hM _ ?_;clear hM M';rfl';refine⟨t3,_,_,_,rfl,ht3,hB0,fun a' b' c' t4 ht4 hg'=>?_⟩;rfl';refine⟨rs,cs,60,[nZ a',nZ b',nZ c'],rfl,h60,hcl,aD,rfl,hg'.bl,hcs,?_⟩;exists low hg';exact k2 _ ⟨t4,some _,some _,ht4,rfl⟩
theorem CT(T:Txt K mg)(f_can_be:HasFn K mg "can_be" gU ["lengths"])(f_least_lengths:HasFn K mg "least_lengths" bf ["counts","bound"])(f_chosen_things:HasFn K mg "chosen_things" bE ["counts","bound"])(f_by_worth:HasFn K mg "by_worth" cc ["shelf"])(f_packs_of:HasFn K mg "packs_of" dv ["shelf"])(f_goal_of:HasFn K mg "goal_of" fF ["row"])(f_book_of:HasFn K mg "book_of" dm ["program","counts"])(f_coded_things:HasFn K mg "coded_things" cp ["row"])(f_run_rows:HasFn K mg "run_rows" d8 ["program","given","most"])(l_seed:HasFn K mg "_law_seed" dJ ["cell"])(l_draw:HasFn K mg "_law_draw" dC ["seed","most"])(l_cells:HasFn K mg "_law_cells" c_ ["script","many"])(l_whole:HasFn K mg "_law_whole" dc ["found"])(l_wholes:HasFn K mg "_law_wholes" bX ["found","many"])(l_fits:HasFn K mg "_law_fits" dM ["lengths"])(l_box:HasFn K mg "_law_box" eB ["seed"])(l_number:HasFn K mg "_law_number" cR ["seed"])(l_row:HasFn K mg "_law_row" eO ["seed","many"])(l_program:HasFn K mg "_law_program" bK ["seed"])(l_lengths:HasFn K mg "_law_lengths" bw ["seed","many","most"])(l_class:HasFn K mg "_law_class" de ["number"])(l_bare:HasFn K mg "_law_bare" dG ["row","book"])(l_total:HasFn K mg "_law_total" cq ["program","counts","book"])(l_counted:HasFn K mg "_law_counted" bu ["seed","program"])(l_is_book:HasFn K mg "_law_is_book" cm ["found"])(l_nearly:HasFn K mg "_law_nearly" cP ["seed","book"])(F:iM K "law" "law" fU f fd):bD P w K mg base aV 8 f fd ["script"] (kJ K):=by
 have dr:=z_ (P:=P) (w:=w) (base:=base) T l_draw;have nu:=tM (P:=P) (w:=w) (base:=base) T l_number dr;have bx:=Ds (P:=P) (w:=w) (base:=base) T l_box dr;have le:=ya (P:=P) (w:=w) (base:=base) T f_least_lengths (DD T f_can_be) (uT T f_chosen_things (wg T f_by_worth) (yI T f_packs_of));exact Ec T F (xx T l_cells) (zY T l_seed) (pQ T l_program dr (DH T l_row dr bx nu)) (qS T l_counted dr nu (Dz T (Ao T f_goal_of) f_run_rows)) (uU T f_book_of (xf T f_coded_things) le) (uf T l_is_book (tW T l_wholes (xR T l_whole)) (B9 T l_fits)) (xY T l_total (Ay T l_bare (y8 T l_class))) (yi T l_lengths dr) (tT T l_nearly dr)
local macro_rules | `(tactic| walk_at "b1") => `(tactic| (intro _ _ _ _ _ _ us hl; obtain ⟨_, e⟩ := L2.Y.nU hl; subst e; rfl))
theorem i7{x:Str}{st:Stmt}{ps:List Str}{oc:Value}{od an:Option Addr}{osl:Array (Option Value)}{kV doc pm cdv ct:Value}(X:K.In h)(G:h.Ns mainGlobals mg)(a:PySem.W.nsIn K mainGlobals x=some (some (.ref f)))
  (l:K.lookup f=some ⟨oc,od,.func (PySem.W.fnOf x x (bt st) (aC st) (aa st) .none kV doc pm an cdv ct),osl⟩) (c:PySem.W.codeIn K cdv x=true) (k:PySem.W.keepIn K (.ref f)=true)
  (hb:∀(kV doc pm:Value) (an:Option Addr) (cdv ct:Value) (us:List Value),us.length=ps.length->bindArgs (PySem.W.fnOf x x (bt st) (aC st) (aa st) .none kV doc pm an cdv ct) ⟨us,[]⟩=pure (ps.zip us)):HasFn K mg x st ps:=
 ⟨f,_,bM l c k,(bM l c k).binds hb,PySem.W.mg_of X G a⟩
theorem all_mk{l:PySem.W.OpenLaw}{w:World}{fa:Addr}(X:K.In h)(G:h.Ns mainGlobals mg)(hfa:mg "law"=some (.ref fa))
  {f3 f26:Addr} {od3 an3 od26 an26:Option Addr} {sl3 sl26:Array (Option Value)} {oc3 kV3 dc3 pm3 cd3 ct3 oc26 kV26 dc26 pm26 cd26 ct26:Value}
  {q0:Addr} {qn0:Nat} {qs0:Array (Option Value)} {w0_0 w0_1 w0_2 w0_3 w0_4 w0_5 w0_6 w0_7:Tok}
  {q1:Addr} {qd1:Option Addr} {qn1:Nat} {qs1:Array (Option Value)} {w1_0 w1_1 w1_2:Tok}
  {w2_0:Tok}
  {w3_0:Tok}
  {w4_0:Tok}
  {w5_0:Tok}
  {w6_0:Tok}
  {dd0:Addr} {dh0_ep:Nat} {dh0_0 dh0_1 dh0_2 dh0_3 dh0_4 dh0_5 dh0_6 dh0_7 dh0_8:Int} {dp0_0 dp0_1 dp0_2 dp0_3 dp0_4 dp0_5 dp0_6 dp0_7 dp0_8:Addr} {do0_0 do0_1 do0_2 do0_3 do0_4 do0_5 do0_6 do0_7 do0_8:Option Addr} {dn0_0 dn0_1 dn0_2 dn0_3 dn0_4 dn0_5 dn0_6 dn0_7 dn0_8:Nat} {ds0_0 ds0_1 ds0_2 ds0_3 ds0_4 ds0_5 ds0_6 ds0_7 ds0_8:Array (Option Value)} {dt0_0 dt0_1 dt0_2 dt0_3 dt0_4 dt0_5 dt0_6 dt0_7 dt0_8 dw0_0_0 dw0_0_1 dw0_1_0 dw0_1_1 dw0_2_0 dw0_2_1 dw0_3_0 dw0_3_1 dw0_4_0 dw0_5_0 dw0_6_0 dw0_7_0 dw0_7_1:Tok}
  {mC mf0 mf1 mf2 mf3 mf4 mf5 mf6:Addr} {mod0 man0 mod1 man1 mod2 man2 mod3 man3 mod4 man4 mod5 man5 mod6 man6:Option Addr} {msl0 msl1 msl2 msl3 msl4 msl5 msl6:Array (Option Value)} {moc0 mkV0 mdc0 mpm0 mcd0 mct0 moc1 mkV1 mdc1 mpm1 mcd1 mct1 moc2 mkV2 mdc2 mpm2 mcd2 mct2 moc3 mkV3 mdc3 mpm3 mcd3 mct3 moc4 mkV4 mdc4 mpm4 mcd4 mct4 moc5 mkV5 mdc5 mpm5 mcd5 mct5 moc6 mkV6 mdc6 mpm6 mcd6 mct6:Value}
      
  (F0:HasFn K mg "can_be" gU ["lengths"])
  (F1:HasFn K mg "least_lengths" bf ["counts","bound"])
  (F2:HasFn K mg "chosen_things" bE ["counts","bound"])
  (a3:PySem.W.nsIn K mainGlobals "by_worth"=some (some (.ref f3))) (l3:K.lookup f3=some ⟨oc3,od3,.func (PySem.W.fnOf "by_worth" "by_worth" (bt cc) (aC cc) (aa cc) .none kV3 dc3 pm3 an3 cd3 ct3),sl3⟩) (c3:PySem.W.codeIn K cd3 "by_worth"=true) (k3:PySem.W.keepIn K (.ref f3)=true)
  (F4:HasFn K mg "packs_of" dv ["shelf"])
  (F5:HasFn K mg "goal_of" fF ["row"])
  (F6:HasFn K mg "book_of" dm ["program","counts"])
  (F7:HasFn K mg "coded_things" cp ["row"])
  (F8:HasFn K mg "run_rows" d8 ["program","given","most"])
  (F9:HasFn K mg "_law_seed" dJ ["cell"])
  (F10:HasFn K mg "_law_draw" dC ["seed","most"])
  (F11:HasFn K mg "_law_cells" c_ ["script","many"])
  (F12:HasFn K mg "_law_whole" dc ["found"])
  (F13:HasFn K mg "_law_wholes" bX ["found","many"])
  (F14:HasFn K mg "_law_fits" dM ["lengths"])
  (F15:HasFn K mg "_law_box" eB ["seed"])
  (F16:HasFn K mg "_law_number" cR ["seed"])
  (F17:HasFn K mg "_law_row" eO ["seed","many"])
  (F18:HasFn K mg "_law_program" bK ["seed"])
  (F19:HasFn K mg "_law_lengths" bw ["seed","many","most"])
  (F20:HasFn K mg "_law_class" de ["number"])
  (F21:HasFn K mg "_law_bare" dG ["row","book"])
  (F22:HasFn K mg "_law_total" cq ["program","counts","book"])
  (F23:HasFn K mg "_law_counted" bu ["seed","program"])
  (F24:HasFn K mg "_law_is_book" cm ["found"])
  (F25:HasFn K mg "_law_nearly" cP ["seed","book"])
  (a26:PySem.W.nsIn K mainGlobals "law"=some (some (.ref f26))) (l26:K.lookup f26=some ⟨oc26,od26,.func (PySem.W.fnOf "law" "law" (bt fU) (aC fU) (aa fU) .none kV26 dc26 pm26 an26 cd26 ct26),sl26⟩) (c26:PySem.W.codeIn K cd26 "law"=true) (k26:PySem.W.keepIn K (.ref f26)=true)
  (z0:PySem.W.nsIn K mainGlobals "bool"=some none)
  (z1:PySem.W.nsIn K mainGlobals "dict"=some none)
  (z2:PySem.W.nsIn K mainGlobals "enumerate"=some none)
  (z3:PySem.W.nsIn K mainGlobals "int"=some none)
  (z4:PySem.W.nsIn K mainGlobals "isinstance"=some none)
  (z5:PySem.W.nsIn K mainGlobals "len"=some none)
  (z6:PySem.W.nsIn K mainGlobals "list"=some none)
  (z7:PySem.W.nsIn K mainGlobals "max"=some none)
  (z8:PySem.W.nsIn K mainGlobals "min"=some none)
  (z9:PySem.W.nsIn K mainGlobals "range"=some none)
  (z10:PySem.W.nsIn K mainGlobals "sorted"=some none)
  (z11:PySem.W.nsIn K mainGlobals "str"=some none)
  (z12:PySem.W.nsIn K mainGlobals "sum"=some none)
  (z13:PySem.W.nsIn K mainGlobals "tuple"=some none)
  (z14:PySem.W.nsIn K mainGlobals "zip"=some none)
  (g0:PySem.W.nsIn K mainGlobals "BOXES"=some (some (.ref q0))) (m0:K.lookup q0=some ⟨.type "tuple",none,.seq #[.str "a" w0_0,.str "b" w0_1,.str "c" w0_2,.str "d" w0_3,.str "e" w0_4,.str "f" w0_5,.str "g" w0_6,.str "h" w0_7] qn0,qs0⟩)
  (g1:PySem.W.nsIn K mainGlobals "HOW_MANY"=some (some (.ref q1))) (m1:K.lookup q1=some ⟨.type "tuple",qd1,.seq #[.int 9 w1_0,.int 17 w1_1,.int 8 w1_2] qn1,qs1⟩)
  (g2:PySem.W.nsIn K mainGlobals "LONGEST"=some (some (.int 12 w2_0)))
  (g3:PySem.W.nsIn K mainGlobals "OF_BOXES"=some (some (.int 2 w3_0)))
  (g4:PySem.W.nsIn K mainGlobals "OF_CLASSES"=some (some (.int 1 w4_0)))
  (g5:PySem.W.nsIn K mainGlobals "OF_WORDS"=some (some (.int 0 w5_0)))
  (g6:PySem.W.nsIn K mainGlobals "WHOLE"=some (some (.int 65536 w6_0)))
  (dg0:PySem.W.nsIn K mainGlobals "SHAPES"=some (some (.ref dd0))) (dz0:(dd0 == sysModules)=false) (dl0:K.lookup dd0=some ⟨.type "dict",none,.dict #[⟨dh0_0,.str "put" dt0_0,.ref dp0_0⟩,⟨dh0_1,.str "add" dt0_1,.ref dp0_1⟩,⟨dh0_2,.str "sub" dt0_2,.ref dp0_2⟩,⟨dh0_3,.str "copy" dt0_3,.ref dp0_3⟩,⟨dh0_4,.str "tell" dt0_4,.ref dp0_4⟩,⟨dh0_5,.str "hear" dt0_5,.ref dp0_5⟩,⟨dh0_6,.str "jump" dt0_6,.ref dp0_6⟩,⟨dh0_7,.str "zero" dt0_7,.ref dp0_7⟩,⟨dh0_8,.str "halt" dt0_8,.ref dp0_8⟩] dh0_ep,#[]⟩)
  (dm0_0:K.lookup dp0_0=some ⟨.type "tuple",do0_0,.seq #[.str "box" dw0_0_0,.str "number" dw0_0_1] dn0_0,ds0_0⟩)
  (dm0_1:K.lookup dp0_1=some ⟨.type "tuple",do0_1,.seq #[.str "box" dw0_1_0,.str "box" dw0_1_1] dn0_1,ds0_1⟩)
  (dm0_2:K.lookup dp0_2=some ⟨.type "tuple",do0_2,.seq #[.str "box" dw0_2_0,.str "box" dw0_2_1] dn0_2,ds0_2⟩)
  (dm0_3:K.lookup dp0_3=some ⟨.type "tuple",do0_3,.seq #[.str "box" dw0_3_0,.str "box" dw0_3_1] dn0_3,ds0_3⟩)
  (dm0_4:K.lookup dp0_4=some ⟨.type "tuple",do0_4,.seq #[.str "box" dw0_4_0] dn0_4,ds0_4⟩)
  (dm0_5:K.lookup dp0_5=some ⟨.type "tuple",do0_5,.seq #[.str "box" dw0_5_0] dn0_5,ds0_5⟩)
  (dm0_6:K.lookup dp0_6=some ⟨.type "tuple",do0_6,.seq #[.str "goal" dw0_6_0] dn0_6,ds0_6⟩)
  (dm0_7:K.lookup dp0_7=some ⟨.type "tuple",do0_7,.seq #[.str "box" dw0_7_0,.str "goal" dw0_7_1] dn0_7,ds0_7⟩)
  (dm0_8:K.lookup dp0_8=some ⟨.type "tuple",do0_8,.seq #[] dn0_8,ds0_8⟩)
  (mq0:PySem.W.nsIn K mainGlobals "Machine"=some (some (.ref mC)))
  (mq1:PySem.W.plainGet K mC Str.empty=true)
  (mq2:PySem.W.hasDictIn K mC=true)
  (mq3:PySem.W.plainOver K mC=true)
  (mq4:PySem.W.findIn K (.ref mC) "__setattr__"=some (some (.builtin "object.__setattr__")))
  (mq5:PySem.W.findIn K (.ref mC) "given"=some none)
  (mq6:PySem.W.findIn K (.ref mC) "heard"=some none)
  (mq7:PySem.W.findIn K (.ref mC) "told"=some none)
  (mq8:PySem.W.findIn K (.ref mC) "boxes"=some none)
  (mq9:PySem.W.findIn K (.ref mC) "__init__"=some (some (.ref mf0)))
  (mq10:PySem.W.isFn K (.ref mf0)=true)
  (mq11:PySem.W.keepIn K (.ref mf0)=true)
  (mq12:K.lookup mf0=some ⟨moc0,mod0,.func (PySem.W.fnOf "__init__" "Machine.__init__" (bt ax) (aC ax) (aa ax) .none mkV0 mdc0 mpm0 man0 mcd0 mct0),msl0⟩)
  (mq13:PySem.W.codeIn K mcd0 "Machine.__init__"=true)
  (mq14:PySem.W.makesIn K mC=true)
  (mq15:PySem.W.keepIn K (.ref mC)=true)
  (mq16:PySem.W.findIn K (.ref mC) "place_next"=some (some (.ref mf1)))
  (mq17:PySem.W.isFn K (.ref mf1)=true)
  (mq18:PySem.W.keepIn K (.ref mf1)=true)
  (mq19:K.lookup mf1=some ⟨moc1,mod1,.func (PySem.W.fnOf "place_next" "Machine.place_next" (bt av) (aC av) (aa av) .none mkV1 mdc1 mpm1 man1 mcd1 mct1),msl1⟩)
  (mq20:PySem.W.codeIn K mcd1 "Machine.place_next"=true)
  (mq21:PySem.W.findIn K (.ref mC) "carry_out"=some (some (.ref mf2)))
  (mq22:PySem.W.isFn K (.ref mf2)=true)
  (mq23:PySem.W.keepIn K (.ref mf2)=true)
  (mq24:K.lookup mf2=some ⟨moc2,mod2,.func (PySem.W.fnOf "carry_out" "Machine.carry_out" (bt ay) (aC ay) (aa ay) .none mkV2 mdc2 mpm2 man2 mcd2 mct2),msl2⟩)
  (mq25:PySem.W.codeIn K mcd2 "Machine.carry_out"=true)
  (mq26:PySem.W.findIn K (.ref mC) "number_for"=some (some (.ref mf3)))
  (mq27:PySem.W.isFn K (.ref mf3)=true)
  (mq28:PySem.W.keepIn K (.ref mf3)=true)
  (mq29:K.lookup mf3=some ⟨moc3,mod3,.func (PySem.W.fnOf "number_for" "Machine.number_for" (bt aw) (aC aw) (aa aw) .none mkV3 mdc3 mpm3 man3 mcd3 mct3),msl3⟩)
  (mq30:PySem.W.codeIn K mcd3 "Machine.number_for"=true)
  (mq31:PySem.W.findIn K (.ref mC) "heard_number"=some (some (.ref mf4)))
  (mq32:PySem.W.isFn K (.ref mf4)=true)
  (mq33:PySem.W.keepIn K (.ref mf4)=true)
  (mq34:K.lookup mf4=some ⟨moc4,mod4,.func (PySem.W.fnOf "heard_number" "Machine.heard_number" (bt ao) (aC ao) (aa ao) .none mkV4 mdc4 mpm4 man4 mcd4 mct4),msl4⟩)
  (mq35:PySem.W.codeIn K mcd4 "Machine.heard_number"=true)
  (mq36:PySem.W.findIn K (.ref mC) "told_numbers"=some (some (.ref mf5)))
  (mq37:PySem.W.isFn K (.ref mf5)=true)
  (mq38:PySem.W.keepIn K (.ref mf5)=true)
  (mq39:K.lookup mf5=some ⟨moc5,mod5,.func (PySem.W.fnOf "told_numbers" "Machine.told_numbers" (bt aq) (aC aq) (aa aq) .none mkV5 mdc5 mpm5 man5 mcd5 mct5),msl5⟩)
  (mq40:PySem.W.codeIn K mcd5 "Machine.told_numbers"=true)
  (mq41:PySem.W.findIn K (.ref mC) "box_numbers"=some (some (.ref mf6)))
  (mq42:PySem.W.isFn K (.ref mf6)=true)
  (mq43:PySem.W.keepIn K (.ref mf6)=true)
  (mq44:K.lookup mf6=some ⟨moc6,mod6,.func (PySem.W.fnOf "box_numbers" "Machine.box_numbers" (bt ak) (aC ak) (aa ak) .none mkV6 mdc6 mpm6 man6 mcd6 mct6),msl6⟩)
  (mq45:PySem.W.codeIn K mcd6 "Machine.box_numbers"=true)
  (le_by_worth:cd3=.ref lc_by_worth) (lk_by_worth:K.lookup lc_by_worth=some ⟨lO_by_worth,lD_by_worth,.fields lv_by_worth,lS_by_worth⟩) (lw_by_worth:lv_by_worth[11]?=some (.ref lp_by_worth))
  : ∃ fd:FuncData,(∀(s:Shared) (v:Value),BindsTo s fd ⟨[v],[]⟩ [("script",v)])/\∀ base:Heap,K.In base->base.Ns mainGlobals mg->bD l.prog w K mg base aV 30 fa fd ["script"] (kJ K):=by
 have e:=hfa.symm.trans (PySem.W.mg_of X G a26);cases e
 have T:Txt K mg:=⟨PySem.W.mg_none_of X G z0,PySem.W.mg_none_of X G z1,PySem.W.mg_none_of X G z2,PySem.W.mg_none_of X G z3,PySem.W.mg_none_of X G z4,PySem.W.mg_none_of X G z5,PySem.W.mg_none_of X G z6,PySem.W.mg_none_of X G z7,PySem.W.mg_none_of X G z8,PySem.W.mg_none_of X G z9,PySem.W.mg_none_of X G z10,PySem.W.mg_none_of X G z11,PySem.W.mg_none_of X G z12,PySem.W.mg_none_of X G z13,PySem.W.mg_none_of X G z14,⟨.ref q0,_,PySem.W.mg_of X G g0,rfl,fun H B=>.dN (vs:=[.str "a",.str "b",.str "c",.str "d",.str "e",.str "f",.str "g",.str "h"]) ⟨_,_,_,m0,rfl,rfl,(by show 8<=sizeLine;decide),(.cons ⟨w0_0,rfl⟩ (.cons ⟨w0_1,rfl⟩ (.cons ⟨w0_2,rfl⟩ (.cons ⟨w0_3,rfl⟩ (.cons ⟨w0_4,rfl⟩ (.cons ⟨w0_5,rfl⟩ (.cons ⟨w0_6,rfl⟩ (.cons ⟨w0_7,rfl⟩ .nil))))))))⟩ (.cons (.str _) (.cons (.str _) (.cons (.str _) (.cons (.str _) (.cons (.str _) (.cons (.str _) (.cons (.str _) (.cons (.str _) .nil))))))))⟩,⟨.ref q1,_,PySem.W.mg_of X G g1,rfl,fun H B=>.dN (vs:=[.int 9,.int 17,.int 8]) ⟨_,_,_,m1,rfl,rfl,(by show 3<=sizeLine;decide),(.cons ⟨w1_0,rfl⟩ (.cons ⟨w1_1,rfl⟩ (.cons ⟨w1_2,rfl⟩ .nil)))⟩ (.cons (.int _) (.cons (.int _) (.cons (.int _) .nil)))⟩,⟨.int 12,_,PySem.W.mg_of X G g2,⟨_,rfl⟩,fun H B=>.int _⟩,⟨.int 2,_,PySem.W.mg_of X G g3,⟨_,rfl⟩,fun H B=>.int _⟩,⟨.int 1,_,PySem.W.mg_of X G g4,⟨_,rfl⟩,fun H B=>.int _⟩,⟨.int 0,_,PySem.W.mg_of X G g5,⟨_,rfl⟩,fun H B=>.int _⟩,⟨.int 65536,_,PySem.W.mg_of X G g6,⟨_,rfl⟩,fun H B=>.int _⟩,⟨q0,_,PySem.W.mg_of X G g0,m0,rfl⟩,⟨dd0,PySem.W.mg_of X G dg0,dz0,_,_,_,dl0,⟨rfl,rfl,rfl⟩,rfl,(.cons rfl ⟨dp0_0,rfl,⟨_,_,_,dm0_0,rfl,rfl,(by show 2<=sizeLine;decide),(.cons ⟨dw0_0_0,rfl⟩ (.cons ⟨dw0_0_1,rfl⟩ .nil))⟩⟩ (.cons rfl ⟨dp0_1,rfl,⟨_,_,_,dm0_1,rfl,rfl,(by show 2<=sizeLine;decide),(.cons ⟨dw0_1_0,rfl⟩ (.cons ⟨dw0_1_1,rfl⟩ .nil))⟩⟩ (.cons rfl ⟨dp0_2,rfl,⟨_,_,_,dm0_2,rfl,rfl,(by show 2<=sizeLine;decide),(.cons ⟨dw0_2_0,rfl⟩ (.cons ⟨dw0_2_1,rfl⟩ .nil))⟩⟩ (.cons rfl ⟨dp0_3,rfl,⟨_,_,_,dm0_3,rfl,rfl,(by show 2<=sizeLine;decide),(.cons ⟨dw0_3_0,rfl⟩ (.cons ⟨dw0_3_1,rfl⟩ .nil))⟩⟩ (.cons rfl ⟨dp0_4,rfl,⟨_,_,_,dm0_4,rfl,rfl,(by show 1<=sizeLine;decide),(.cons ⟨dw0_4_0,rfl⟩ .nil)⟩⟩ (.cons rfl ⟨dp0_5,rfl,⟨_,_,_,dm0_5,rfl,rfl,(by show 1<=sizeLine;decide),(.cons ⟨dw0_5_0,rfl⟩ .nil)⟩⟩ (.cons rfl ⟨dp0_6,rfl,⟨_,_,_,dm0_6,rfl,rfl,(by show 1<=sizeLine;decide),(.cons ⟨dw0_6_0,rfl⟩ .nil)⟩⟩ (.cons rfl ⟨dp0_7,rfl,⟨_,_,_,dm0_7,rfl,rfl,(by show 2<=sizeLine;decide),(.cons ⟨dw0_7_0,rfl⟩ (.cons ⟨dw0_7_1,rfl⟩ .nil))⟩⟩ (.cons rfl ⟨dp0_8,rfl,⟨_,_,_,dm0_8,rfl,rfl,(by show 0<=sizeLine;decide),.nil⟩⟩ .nil)))))))))⟩,⟨_,_,_,_,_,_,_,_,_,_,_,_,_,_,_,PySem.W.mg_of X G mq0,⟨mq1,mq2,mq3,mq4⟩,mq5,mq6,mq7,mq8,⟨mq14,mq9,mq10,mq15⟩,bM (st:=ax) mq12 mq13 mq11,(bM (st:=ax) mq12 mq13 mq11).binds (ps:=["self","given"]) (fun _ _ _ _ _ _ us hl=>by obtain⟨_,_,rfl⟩:=Y.nW hl;rfl),⟨mq16,mq17,mq18⟩,bM (st:=av) mq19 mq20 mq18,(bM (st:=av) mq19 mq20 mq18).binds (ps:=["self","row","behind","end"]) (fun _ _ _ _ _ _ us hl=>by obtain⟨_,_,_,_,rfl⟩:=Y.J7 hl;rfl),⟨mq21,mq22,mq23⟩,bM (st:=ay) mq24 mq25 mq23,(bM (st:=ay) mq24 mq25 mq23).binds (ps:=["self","row"]) (fun _ _ _ _ _ _ us hl=>by obtain⟨_,_,rfl⟩:=Y.nW hl;rfl),⟨mq26,mq27,mq28⟩,bM (st:=aw) mq29 mq30 mq28,(bM (st:=aw) mq29 mq30 mq28).binds (ps:=["self","row"]) (fun _ _ _ _ _ _ us hl=>by obtain⟨_,_,rfl⟩:=Y.nW hl;rfl),⟨mq31,mq32,mq33⟩,bM (st:=ao) mq34 mq35 mq33,(bM (st:=ao) mq34 mq35 mq33).binds (ps:=["self"]) (fun _ _ _ _ _ _ us hl=>by obtain⟨_,rfl⟩:=Y.nU hl;rfl),⟨mq36,mq37,mq38⟩,bM (st:=aq) mq39 mq40 mq38,(bM (st:=aq) mq39 mq40 mq38).binds (ps:=["self"]) (fun _ _ _ _ _ _ us hl=>by obtain⟨_,rfl⟩:=Y.nU hl;rfl),⟨mq41,mq42,mq43⟩,bM (st:=ak) mq44 mq45 mq43,(bM (st:=ak) mq44 mq45 mq43).binds (ps:=["self"]) (fun _ _ _ _ _ _ us hl=>by obtain⟨_,rfl⟩:=Y.nU hl;rfl)⟩,sV.mk' X G (oN a3 l3 le_by_worth lk_by_worth lw_by_worth)⟩
 have F3:HasFn K mg "by_worth" cc ["shelf"]:=i7 X G a3 l3 c3 k3 (by walk_at "b1")
 exact⟨PySem.W.fnOf "law" "law" (bt fU) (aC fU) (aa fU) .none kV26 dc26 pm26 an26 cd26 ct26,fun s v=>.of_eq rfl,fun base _ _=>(CT T F0 F1 F2 F3 F4 F5 F6 F7 F8 F9 F10 F11 F12 F13 F14 F15 F16 F17 F18 F19 F20 F21 F22 F23 F24 F25 (bM (st:=fU) l26 c26 k26)).mono (by decide)⟩
theorem walk{l:PySem.W.OpenLaw}{loose:List Str}{XP:(Str->Option Value)->Heap->Prop}{YP:World->Heap->Prop}{d:DefRec}{K:Params->Pq}(hn:l.most=some 63)(hdf:d.params.defaults=[])
  (hY:∀(w:World) (h:Heap),YP w h->(K w.params).In h)
  (F:∀(w:World) (mg:Str->Option Value) (fa:Addr) (h:Heap),(K w.params).In h->h.Ns mainGlobals mg->mg d.name=some (.ref fa)->∃ fd:FuncData,(∀(s:Shared) (u:Value),BindsTo s fd ⟨[u],[]⟩ [("script",u)])/\∀ base:Heap,(K w.params).In base->base.Ns mainGlobals mg->bD l.prog w (K w.params) mg base aV 30 fa fd ["script"] (kJ (K w.params))) (hL:∀(w:World) (h:Heap),(K w.params).In h->gL q (K w.params)) :
  PySem.W.WalkO q loose XP YP l.row.toRowW d [] (fun f vs=>PySem.call f vs):=
 L2.BB (n:=63) (k:=30) (x:="script") (CX:=fun _=>aV) (sp:=fun w=>kJ (K w.params)) hn (by decide) hdf ⟨rfl,by decide,by decide,rfl⟩ hY F (fun _ _ a ns hl _ hS=>⟨a,ns,rfl,hS,hl,fun _=>rfl⟩) (fun _ _ _ _ _ z=>z) hL
theorem Dr(_:K.In h){la_by_worth:Addr}{lo_by_worth:Value}{ld_by_worth:Option Addr}{lfd_by_worth:FuncData}{ls_by_worth:Array (Option Value)}(nt:PySem.W.noTabs K=true)
  (ma_by_worth:PySem.W.nsIn K mainGlobals "by_worth"=some (some (.ref la_by_worth))) (ml_by_worth:K.lookup la_by_worth=some ⟨lo_by_worth,ld_by_worth,.func lfd_by_worth,ls_by_worth⟩) (mc_by_worth:lfd_by_worth.code=.ref lc_by_worth) (mk_by_worth:K.lookup lc_by_worth=some ⟨lO_by_worth,lD_by_worth,.fields lv_by_worth,lS_by_worth⟩) (mw_by_worth:lv_by_worth[11]?=some (.ref lp_by_worth)) (mr_by_worth:((recsOf q).find? (fun e=>e.name ==("by_worth":Str))).isSome=true)
  (ma_by_weight:PySem.W.nsIn K mainGlobals "by_weight"=some none)
  (ma_code_of:PySem.W.nsIn K mainGlobals "code_of"=some none)
  : gL q K:=gL.of nt (oN ma_by_worth ml_by_worth mc_by_worth mk_by_worth mw_by_worth) (jN ma_by_weight) (jN ma_code_of) (by first|exact mn|simp) (.inr mr_by_worth) (.inl rfl) (.inl rfl)
end
end G
open PySem PySem.W PyProof.Rows
local macro_rules | `(tactic| walk_at "b1") => `(tactic| (intro _ _ _ _ _ _ us hl; obtain ⟨_, e⟩ := L2.Y.nU hl; subst e; rfl))
local macro_rules | `(tactic| walk_at "b2") => `(tactic| (intro _ _ _ _ _ _ us hl; obtain ⟨_, _, e⟩ := L2.Y.nW hl; subst e; rfl))
local macro_rules | `(tactic| walk_at "b3") => `(tactic| (intro _ _ _ _ _ _ us hl; obtain ⟨_, _, _, e⟩ := L2.Y.zI hl; subst e; rfl))
set_option maxRecDepth 100000 in
set_option maxHeartbeats 0 in
theorem PySem.Challenge.cw_shortrows_k48_whole_fewest_bits_holds : PySem.Challenge.rw_shortrows_k48_whole_fewest_bits.Holds := by
 w_on;o_law;k_head;(case hw=>w_witness2)
 k_fill
 refine G.walk (l:=PySem.Challenge.rw_shortrows_k48_whole_fewest_bits) rfl rfl (fun w h Y=>by first|exact PySem.W.kIn_of Y|exact PySem.W.km_in_of Y) ?F ?L
 case F =>
  intro w mg fa h KX GN hmg
  refine' G.all_mk KX GN hmg (G.i7 KX GN ?a0 ?l0 ?c0 ?k0 (by walk_at "b1")) (G.i7 KX GN ?a1 ?l1 ?c1 ?k1 (by walk_at "b2")) (G.i7 KX GN ?a2 ?l2 ?c2 ?k2 (by walk_at "b2")) ?a3 ?l3 ?c3 ?k3 (G.i7 KX GN ?a4 ?l4 ?c4 ?k4 (by walk_at "b1")) (G.i7 KX GN ?a5 ?l5 ?c5 ?k5 (by walk_at "b1")) (G.i7 KX GN ?a6 ?l6 ?c6 ?k6 (by walk_at "b2")) (G.i7 KX GN ?a7 ?l7 ?c7 ?k7 (by walk_at "b1")) (G.i7 KX GN ?a8 ?l8 ?c8 ?k8 (by walk_at "b3")) (G.i7 KX GN ?a9 ?l9 ?c9 ?k9 (by walk_at "b1")) (G.i7 KX GN ?a10 ?l10 ?c10 ?k10 (by walk_at "b2")) (G.i7 KX GN ?a11 ?l11 ?c11 ?k11 (by walk_at "b2")) (G.i7 KX GN ?a12 ?l12 ?c12 ?k12 (by walk_at "b1")) (G.i7 KX GN ?a13 ?l13 ?c13 ?k13 (by walk_at "b2")) (G.i7 KX GN ?a14 ?l14 ?c14 ?k14 (by walk_at "b1")) (G.i7 KX GN ?a15 ?l15 ?c15 ?k15 (by walk_at "b1")) (G.i7 KX GN ?a16 ?l16 ?c16 ?k16 (by walk_at "b1")) (G.i7 KX GN ?a17 ?l17 ?c17 ?k17 (by walk_at "b2")) (G.i7 KX GN ?a18 ?l18 ?c18 ?k18 (by walk_at "b1")) (G.i7 KX GN ?a19 ?l19 ?c19 ?k19 (by walk_at "b3")) (G.i7 KX GN ?a20 ?l20 ?c20 ?k20 (by walk_at "b1")) (G.i7 KX GN ?a21 ?l21 ?c21 ?k21 (by walk_at "b2")) (G.i7 KX GN ?a22 ?l22 ?c22 ?k22 (by walk_at "b3")) (G.i7 KX GN ?a23 ?l23 ?c23 ?k23 (by walk_at "b2")) (G.i7 KX GN ?a24 ?l24 ?c24 ?k24 (by walk_at "b1")) (G.i7 KX GN ?a25 ?l25 ?c25 ?k25 (by walk_at "b2")) ?a26 ?l26 ?c26 ?k26 ?z0 ?z1 ?z2 ?z3 ?z4 ?z5 ?z6 ?z7 ?z8 ?z9 ?z10 ?z11 ?z12 ?z13 ?z14 ?gq0 ?mq0 ?gq1 ?mq1 ?gq2 ?gq3 ?gq4 ?gq5 ?gq6 ?dg0 ?dz0 ?dl0 ?dm0_0 ?dm0_1 ?dm0_2 ?dm0_3 ?dm0_4 ?dm0_5 ?dm0_6 ?dm0_7 ?dm0_8 ?mq_0 ?mq_1 ?mq_2 ?mq_3 ?mq_4 ?mq_5 ?mq_6 ?mq_7 ?mq_8 ?mq_9 ?mq_10 ?mq_11 ?mq_12 ?mq_13 ?mq_14 ?mq_15 ?mq_16 ?mq_17 ?mq_18 ?mq_19 ?mq_20 ?mq_21 ?mq_22 ?mq_23 ?mq_24 ?mq_25 ?mq_26 ?mq_27 ?mq_28 ?mq_29 ?mq_30 ?mq_31 ?mq_32 ?mq_33 ?mq_34 ?mq_35 ?mq_36 ?mq_37 ?mq_38 ?mq_39 ?mq_40 ?mq_41 ?mq_42 ?mq_43 ?mq_44 ?mq_45 ?le_by_worth ?lk_by_worth ?lw_by_worth
  (case a0|l0|c0|k0|a1|l1|c1|k1|a2|l2|c2|k2|a3|l3|c3|k3|a4|l4|c4|k4|a5|l5|c5|k5|a6|l6|c6|k6|a7|l7|c7|k7|a8|l8|c8|k8|a9|l9|c9|k9|a10|l10|c10|k10|a11|l11|c11|k11|a12|l12|c12|k12|a13|l13|c13|k13|a14|l14|c14|k14|a15|l15|c15|k15|a16|l16|c16|k16|a17|l17|c17|k17|a18|l18|c18|k18|a19|l19|c19|k19|a20|l20|c20|k20|a21|l21|c21|k21|a22|l22|c22|k22|a23|l23|c23|k23|a24|l24|c24|k24|a25|l25|c25|k25|a26|l26|c26|k26=>k_is)
  (case z0=>k_is)
  (case z1=>k_is)
  (case z2=>k_is)
  (case z3=>k_is)
  (case z4=>k_is)
  (case z5=>k_is)
  (case z6=>k_is)
  (case z7=>k_is)
  (case z8=>k_is)
  (case z9=>k_is)
  (case z10=>k_is)
  (case z11=>k_is)
  (case z12=>k_is)
  (case z13=>k_is)
  (case z14=>k_is)
  (case gq0=>k_is)
  (case mq0=>k_is)
  (case gq1=>k_is)
  (case mq1=>k_is)
  (case gq2=>k_is)
  (case gq3=>k_is)
  (case gq4=>k_is)
  (case gq5=>k_is)
  (case gq6=>k_is)
  (case dg0=>k_is)
  (case dl0=>k_is)
  (case dm0_0=>k_is)
  (case dm0_1=>k_is)
  (case dm0_2=>k_is)
  (case dm0_3=>k_is)
  (case dm0_4=>k_is)
  (case dm0_5=>k_is)
  (case dm0_6=>k_is)
  (case dm0_7=>k_is)
  (case dm0_8=>k_is)
  (case dz0=>rfl)
  (case mq_0=>k_is)
  (case mq_1=>k_is)
  (case mq_2=>k_is)
  (case mq_3=>k_is)
  (case mq_4=>k_is)
  (case mq_5=>k_is)
  (case mq_6=>k_is)
  (case mq_7=>k_is)
  (case mq_8=>k_is)
  (case mq_9=>k_is)
  (case mq_10=>k_is)
  (case mq_11=>k_is)
  (case mq_12=>k_is)
  (case mq_13=>k_is)
  (case mq_14=>k_is)
  (case mq_15=>k_is)
  (case mq_16=>k_is)
  (case mq_17=>k_is)
  (case mq_18=>k_is)
  (case mq_19=>k_is)
  (case mq_20=>k_is)
  (case mq_21=>k_is)
  (case mq_22=>k_is)
  (case mq_23=>k_is)
  (case mq_24=>k_is)
  (case mq_25=>k_is)
  (case mq_26=>k_is)
  (case mq_27=>k_is)
  (case mq_28=>k_is)
  (case mq_29=>k_is)
  (case mq_30=>k_is)
  (case mq_31=>k_is)
  (case mq_32=>k_is)
  (case mq_33=>k_is)
  (case mq_34=>k_is)
  (case mq_35=>k_is)
  (case mq_36=>k_is)
  (case mq_37=>k_is)
  (case mq_38=>k_is)
  (case mq_39=>k_is)
  (case mq_40=>k_is)
  (case mq_41=>k_is)
  (case mq_42=>k_is)
  (case mq_43=>k_is)
  (case mq_44=>k_is)
  (case mq_45=>k_is)
  (case le_by_worth=>exact rfl)
  (case lk_by_worth=>k_is)
  (case lw_by_worth=>exact rfl)
 case L =>
  intro w h KX
  refine' G.Dr KX (by kernel_rfl) ?ma_by_worth ?ml_by_worth ?mc_by_worth ?mk_by_worth ?mw_by_worth ?mr_by_worth ?ma_by_weight ?ma_code_of
  (case ma_by_worth=>k_is)
  (case ml_by_worth=>k_is)
  (case mc_by_worth=>exact rfl)
  (case mk_by_worth=>k_is)
  (case mw_by_worth=>exact rfl)
  (case mr_by_worth=>exact rfl)
  (case ma_by_weight=>k_is)
  (case ma_code_of=>k_is)
end
