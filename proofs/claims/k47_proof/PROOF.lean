import PyProof.Rows.All
import Wide.All
import OpenK.AllK
import Wide.FinOn
import Lean
import PyProof.EqAt
import PyProof.EqKinds
import PyProof.TupleCall
import KE.KSortKey
import KE.KLam
import PySem.Challenge.RW_shortrows_k47_whole_packed_read_and_run
namespace PySem.W.Fast
def tw10021259832813344831:=0
def tw10763456608802742811:=0
noncomputable def tw1947792064833276320:=0
noncomputable def tw8315093880998811795:=0
noncomputable def tw14060169335797809622:=0
noncomputable def tw5788944911462251981:=0
noncomputable def tw451037787984191705:=0
noncomputable def tw2524602369742105148:=0
noncomputable def tw2724517781642696088:=0
noncomputable def tw4960855306492214015:=0
noncomputable def tw11087012670054403945:=0
noncomputable def tw20737359120500387:=0
noncomputable def tw8503924581531553090:=0
noncomputable def tw14153953092135036510:=0
noncomputable def tw3793782253323577395:=0
noncomputable def tw5798575056338154783:=0
noncomputable def tw5850414738442483818:=0
noncomputable def tw18401317720513639263:=0
noncomputable def tw4704405366864446528:=0
noncomputable def tw16314764243529021799:=0
noncomputable def tw9334151495601241600:=0
noncomputable def tw13453828721664094787:=0
noncomputable def tw7449586908859712870:=0
noncomputable def tw8033081406661292644:=0
noncomputable def tw1027124747686529150:=0
noncomputable def tw10964199751054136435:=0
noncomputable def tw837212451395303046:=0
noncomputable def tw12261633286015874652:=0
noncomputable def tw11783824290217244139:=0
noncomputable def tw15600957930746444317:=0
noncomputable def tw13313792204869191656:=0
noncomputable def tw4228869402127722398:=0
noncomputable def tw17373845938716275366:=0
noncomputable def tw12604200834934896440:=0
noncomputable def tw16552889885076223765:=0
noncomputable def tw1298821985797474491:=0
noncomputable def tw9789011314436724827:=0
noncomputable def tw18101580150025334049:=0
noncomputable def tw8751577374110765635:=0
noncomputable def tw3986738522626191849:=0
noncomputable def tw4074305374619386610:=0
noncomputable def tw1656060094510189190:=0
noncomputable def tw16529929911391138162:=0
noncomputable def tw16457132267178337509:=0
noncomputable def tw3594264471591630522:=0
noncomputable def tw15139059487902549484:=0
noncomputable def tw10581758827545339959:=0
noncomputable def tw13206311233297457739:=0
noncomputable def tw5357190324928596223:=0
noncomputable def tw17393258693872737628:=0
noncomputable def tw10104201578329497397:=0
noncomputable def tw660697864643608293:=0
noncomputable def tw12100767715083136191:=0
noncomputable def tw318080849213214239:=0
noncomputable def tw15383836461391737018:=0
noncomputable def tw15837649045101651959:=0
noncomputable def tw4298260487971281956:=0
noncomputable def tw14747053294820616033:=0
noncomputable def tw3523516933433119491:=0
noncomputable def tw14151815024192126690:=0
noncomputable def tw287151964173363817:=0
noncomputable def tw14539687150396935040:=0
noncomputable def tw15429486629950315563:=0
noncomputable def tw16652126407671281329:=0
noncomputable def tw8062367916925952919:=0
noncomputable def tw8442618912519556714:=0
noncomputable def tw15731783784483367403:=0
noncomputable def tw7031610510293355182:=0
noncomputable def tw3053718332150132335:=0
noncomputable def tw18229452246624167689:=0
noncomputable def tw15711483202388195952:=0
noncomputable def tw5369079189636642980:=0
noncomputable def tw6933011870365845669:=0
noncomputable def tw1770598568168927730:=0
noncomputable def tw13021108119987908775:=0
noncomputable def tw6004657863980224209:=0
noncomputable def tw16768853676375967803:=0
noncomputable def tw7804442088764289630:=0
noncomputable def tw5626339381310121683:=0
noncomputable def tw6763437093347410062:=0
noncomputable def tw2634533904776398104:=0
noncomputable def tw2135611107255867968:=0
noncomputable def tw12933438914613100225:=0
noncomputable def tw9190152303270364719:=0
noncomputable def tw12479575753401128150:=0
noncomputable def tw9495960473284160223:=0
noncomputable def tw6670418313312186054:=0
noncomputable def tw5325972252826990617:=0
noncomputable def tw7233600559165768319:=0
noncomputable def tw11336054769492889023:=0
noncomputable def tw5222267390902058757:=0
noncomputable def tw6560096180823028993:=0
noncomputable def tw10052790103973685212:=0
noncomputable def tw13249574470488593473:=0
noncomputable def tw6936601374324645414:=0
noncomputable def tw15874054993485472573:=0
noncomputable def tw8849563770289377104:=0
noncomputable def tw11686997265476168480:=0
noncomputable def tw17136778429360809792:=0
noncomputable def tw269982555623961631:=0
noncomputable def tw11286092330109062941:=0
noncomputable def tw14549884341337731595:=0
noncomputable def tw7215475255938790852:=0
noncomputable def tw16716052035702865863:=0
noncomputable def tw11804906865198635877:=0
noncomputable def tw10905510872491191631:=0
noncomputable def tw9027438336108697682:=0
noncomputable def tw2049903493353175928:=0
noncomputable def tw15742595164884261223:=0
noncomputable def tw12795340260404652812:=0
noncomputable def tw16114754264365600512:=0
noncomputable def tw14868185597019435310:=0
noncomputable def tw12554097335673373448:=0
noncomputable def tw1824147885747203809:=0
noncomputable def tw14770344702534994788:=0
noncomputable def tw16608936343896785390:=0
noncomputable def tw7867991052079154673:=0
noncomputable def tw9227285467794384244:=0
noncomputable def tw9523208536801728596:=0
noncomputable def tw8098018498425484700:=0
noncomputable def tw8546410803377658022:=0
noncomputable def tw6160468102448249268:=0
noncomputable def tw6467233761524044052:=0
noncomputable def tw8011908398488797722:=0
noncomputable def tw10888976429145197446:=0
noncomputable def tw5743958198327807701:=0
noncomputable def tw13219343153676568231:=0
noncomputable def tw17400994252151375823:=0
noncomputable def tw4830667661010926447:=0
noncomputable def tw9930332974321596239:=0
noncomputable def tw7994181519641563702:=0
noncomputable def tw3144011499663549694:=0
noncomputable def tw1514836177329878497:=0
noncomputable def tw5103069673236721759:=0
noncomputable def tw16192377665598113302:=0
noncomputable def tw12494577710899005876:=0
noncomputable def tw4681073065453673117:=0
noncomputable def tw1994219575837805355:=0
noncomputable def tw10028668700678008922:=0
noncomputable def tw14111317039697953639:=0
noncomputable def tw6996017228522410603:=0
noncomputable def tw16825477958257919286:=0
noncomputable def tw18308013595213534352:=0
noncomputable def tw3310316958264885526:=0
noncomputable def tw8643448452394231302:=0
noncomputable def tw9139902558166258511:=0
noncomputable def tw3391936077673786626:=0
noncomputable def tw6376578356909835214:=0
noncomputable def tw210230374054855084:=0
noncomputable def tw17531935319444953119:=0
end PySem.W.Fast
set_option Elab.async false
set_option linter.all false
set_option maxRecDepth 100000
set_option maxHeartbeats 4000000
noncomputable section
set_option compiler.extract_closed false
theorem ℜz0(_:True:=by rfl):True:=⟨⟩
def ℜ0:Lean.Syntax:=ℜz0._auto_1
theorem ℜz1(_:True:=by decide):True:=⟨⟩
def ℜ1:Lean.Syntax:=ℜz1._auto_1
theorem ℜz2(_:True:=by first|exact .inl rfl|exact .inr rfl|assumption):True:=⟨⟩
def ℜ2:Lean.Syntax:=ℜz2._auto_1
theorem ℜz3(_:True:=by intro _;rfl):True:=⟨⟩
def ℜ3:Lean.Syntax:=ℜz3._auto_1
theorem ℜz4(_:True:=by first|exact Or.inl rfl|exact Or.inr (Or.inl rfl)|exact Or.inr (Or.inr rfl)):True:=⟨⟩
def ℜ4:Lean.Syntax:=ℜz4._auto_1
theorem ℜz5(_:True:=by with_unfolding_all rfl):True:=⟨⟩
def ℜ5:Lean.Syntax:=ℜz5._auto_1
theorem ℜz6(_:True:=by decide +kernel):True:=⟨⟩
def ℜ6:Lean.Syntax:=ℜz6._auto_1
namespace L2
open PySem PySem.Spec PyProof.Rows
variable{us:List Value}{x:Str}{u:Value}{C a b:Addr}{base h:Heap}{items:Array Value}{P:Program}{w:World}{K:W.Frag}{g':Array GenState}{ch fp:List Addr}{e tg:Expr}{N:List Str}{i j:Nat}{M:Model}{E Q:Value->Shared->Prop}{s':Shared}{pins:List (Addr×Obj)}{f:Value->Value->Sem Value}{es:List Expr}{g:Int->Int->Int}{body:List Stmt}{pl:Sem Bool}{mA mg:Str->Option Value}{kw:List (Str×Value)}{fd:FuncData}{outer:List Env}{kindOf:Str->Option NameKind}{scope:Scope}
noncomputable def Jx:=@List.getElem?_eq_getElem
noncomputable def Jy:=@PySem.wpAny_bind
noncomputable def Jz:=@List.length_map
noncomputable def J5:=@List.length_append
noncomputable def J6:=@List.getElem?_eq_some_iff
noncomputable def J7:=@PySem.Heap.get?_push_of_some
noncomputable def J8:=@List.size_toArray
noncomputable def J9:=@List.mem_cons
noncomputable def JA:=@if_neg
noncomputable def JC:=@List.getElem?_map
noncomputable def JD:=@Nat.le_refl
noncomputable def JE:=@if_pos
noncomputable def JF:=@Nat.le_trans
noncomputable def JG:=@List.mem_cons_of_mem
noncomputable def JH:=@List.mem_cons_self
noncomputable def JI:=@List.getD_eq_getElem?_getD
noncomputable def JJ:=@PySem.wpAny_pure
noncomputable def JK:=@List.length_cons
noncomputable def JL:=@Nat.zero_le
noncomputable def JM:=@PySem.Heap.get?_push_size
noncomputable def JN:=@List.getElem_mem
noncomputable def JO:=@Bool.false_ne_true
noncomputable def JP:=@PySem.Heap.lt_size
noncomputable def JQ:=@List.mem_singleton
noncomputable def JR:=@List.map_append
noncomputable def JS:=@List.length_replicate
noncomputable def JT:=@List.length_take
noncomputable def JU:=@List.append_assoc
noncomputable def JV:=@List.mem_append_right
noncomputable def JW:=@Option.map_eq_some_iff
noncomputable def JX:=@Nat.ne_of_lt
noncomputable def JY:=@List.getElem?_append_right
noncomputable def JZ:=@Nat.lt_of_lt_of_le
noncomputable def J_:=@List.not_mem_nil
noncomputable def Ka:=@beq_eq_false_iff_ne
noncomputable def Kb:=@Int.toNat_natCast
noncomputable def Kc:=@decide_eq_true
noncomputable def Ke:=@decide_eq_false
noncomputable def Kf:=@List.getElem?_append_left
noncomputable def Kg:=@List.map_cons
noncomputable def Kh:=@Array.getElem?_toList
noncomputable def Ki:=@List.mem_map
noncomputable def Kj:=@List.take_of_length_le
noncomputable def Kk:=@List.pairwise_cons
noncomputable def Kl:=@PySem.PassesOwn.never
noncomputable def Km:=@Array.length_toList
noncomputable def Kn:=@List.getElem?_toArray
noncomputable def Ko:=@List.take_succ
noncomputable def Kp:=@List.append_nil
noncomputable def Kq:=@List.take_length
noncomputable def Ks:=@List.length_drop
noncomputable def Kt:=@congrArg
noncomputable def Ku:=@List.replicate_succ
noncomputable def Kv:=@List.lookup_cons
noncomputable def Kw:=@beq_self_eq_true
noncomputable def Kx:=@Nat.lt_or_ge
noncomputable def Ky:=@List.length_range
noncomputable def Kz:=@PySem.wpAny_callSpecial?_slot
noncomputable def K0:=@List.mem_append
noncomputable def K1:=@List.mem_of_getElem?
noncomputable def K2:=@List.length_nil
noncomputable def K3:=@PySem.W.mg_none_of
noncomputable def K4:=@Bool.and_eq_true
noncomputable def K5:=@PySem.wpAny_mono
noncomputable def K6:=@of_decide_eq_true
noncomputable def K7:=@PySem.Heap.size_push
noncomputable def K8:=@Nat.le_succ
noncomputable def K9:=@Nat.lt_of_le_of_lt
noncomputable def KA:=@or_false
noncomputable def KC:=@PySem.wpAny_call_entry
noncomputable def KD:=@List.pairwise_append
noncomputable def KG:=@Nat.lt_irrefl
noncomputable def KH:=@PySem.wpAny_holding
noncomputable def KI:=@Array.getElem?_eq_some_iff
noncomputable def KJ:=@List.mem_range
noncomputable def KL:=@PySem.Heap.SameBut.update
noncomputable def KN:=@List.nil_append
noncomputable def KO:=@List.drop_eq_getElem_cons
noncomputable def KP:=@Ne.symm
noncomputable def KQ:=@List.cons_append
noncomputable def KR:=@List.mem_replicate
noncomputable def KU:=@List.length_eq_zero_iff
noncomputable def KW:=@PyProof.Rows.callWith_type1
noncomputable def KY:=@List.nodup_cons
noncomputable def KZ:=@List.length_set
noncomputable def K_:=@Nat.ne_of_gt
noncomputable def La:=@PySem.sizeLine_eq
noncomputable def Lb:=@Nat.zero_add
noncomputable def Lc:=@List.all_eq_true
noncomputable def Ld:=@List.range'_succ
noncomputable def Le:=@List.getElem?_drop
noncomputable def Lf:=@List.drop_zero
noncomputable def Lg:=@List.take_append_drop
noncomputable def Lh:=@List.getElem?_eq_none_iff
noncomputable def Li:=@List.mem_or_eq_of_mem_set
noncomputable def Lj:=@PyProof.Rows.slot_tuple_getitem
noncomputable def Lk:=@List.eraseIdx_eq_take_drop_succ
noncomputable def Ll:=@Nat.le_of_lt
noncomputable def Lm:=@List.mem_append_left
noncomputable def Ln:=@List.find?_cons
noncomputable def Lo:=@Nat.sub_self
noncomputable def Lp:=@List.map_map
noncomputable def Lr:=@PySem.wpAny_newObj_type
noncomputable def Ls:=@Nat.le_succ_of_le
noncomputable def Lu:=@List.all_cons
noncomputable def Lv:=@PySem.wpAny_typeNameOfWhole_keyiter
noncomputable def Lw:=@List.mem_map_of_mem
noncomputable def Ly:=@Nat.lt_succ_self
noncomputable def Lz:=@List.mem_reverse
noncomputable def L0:=@PySem.wpAny_pyIter_tuple
noncomputable def L1:=@Nat.min_self
noncomputable def L3:=@PySem.wpAny_passesOwn
noncomputable def L4:=@Nat.not_lt_zero
noncomputable def L5:=@PySem.F.slot_tuple_iterator_next
noncomputable def L6:=@List.pairwise_iff_getElem
noncomputable def L7:=@PySem.W.kia_one
noncomputable def L8:=@PySem.W.mg_of
noncomputable def L9:=@PySem.F.slot_list_getattribute
noncomputable def LA:=@List.getElem_map
noncomputable def LC:=@PySem.wpAny_typeNameOf_keyiter
noncomputable def LD:=@List.drop_length
noncomputable def LF:=@List.length_reverse
noncomputable def LG:=@Array.toList_append
noncomputable def LH:=@List.prefix_of_prefix_length_le
noncomputable def LI:=@PySem.wpAny_getItem_str_slice
noncomputable def LJ:=@Option.bind_eq_some_iff
noncomputable def LK:=@List.sum_cons
noncomputable def LL:=@Bool.eq_iff_iff
noncomputable def LM:=@PySem.wpAny_Call_Name_kw
noncomputable def LN:=@List.forIn_cons
noncomputable def LO:=@PySem.codeAny_builtin
noncomputable def LP:=@List.getElem?_take
noncomputable def LQ:=@List.prefix_append
noncomputable def LR:=@Int.emod_nonneg
noncomputable def LS:=@Int.emod_lt_of_pos
noncomputable def LU:=@List.getElem?_set_self
noncomputable def LV:=@PySem.wpAny_field
noncomputable def LW:=@List.sum_replicate_nat
noncomputable def LX:=@Nat.lt_succ_of_lt
noncomputable def LY:=@PySem.wpAny_pyIter_list
noncomputable def LZ:=@decide_eq_true_eq
noncomputable def L_:=@List.map_nil
noncomputable def Ma:=@PySem.Heap.get?_update_self
noncomputable def Mb:=@List.length_singleton
noncomputable def Mc:=@Nat.lt_trans
noncomputable def Md:=@PySem.wpAny_seqItems
noncomputable def Me:=@beq_iff_eq
noncomputable def Mf:=@if_false
noncomputable def Mg:=@PySem.Around.under_plainId
noncomputable def Mh:=@List.getElem?_append
noncomputable def Mi:=@List.reverse_reverse
noncomputable def Mj:=@List.perm_middle
noncomputable def Ml:=@List.ext_getElem
noncomputable def Mm:=@Array.toArray_toList
noncomputable def Mn:=@List.mem_iff_getElem
noncomputable def Mo:=@Nat.pow_le_pow_right
noncomputable def Mp:=@List.length_dropLast
noncomputable def Mq:=@Option.bind_some
noncomputable def Mr:=@Nat.mul_assoc
noncomputable def Ms:=@Nat.add_assoc
noncomputable def Mt:=@if_true
noncomputable def Mv:=@List.dropWhile_cons
noncomputable def Mw:=@PySem.W.KasT.kasWp_bind
noncomputable def Mx:=@List.mem_filterMap
noncomputable def My:=@List.getElem?_take_of_lt
noncomputable def Mz:=@Bool.false_eq_true
noncomputable def M0:=@PySem.Obj.data_mapFields
noncomputable def M7:=@List.Pairwise.imp_of_mem
noncomputable def M8:=@PySem.wpAny_setField_rec
noncomputable def M9:=@Nat.add_sub_cancel
noncomputable def MB:=@Nat.eq_zero_or_pos
noncomputable def MC:=@PySem.call_meets
noncomputable def MD:=@List.take_left
noncomputable def ME:=@List.flatten_cons
noncomputable def MG:=@PySem.wpAny_pyIter_enum
noncomputable def MH:=@PySem.wpAny_dictEntries
noncomputable def MI:=@List.pairwise_map
noncomputable def MJ:=@Int.emod_eq_of_lt
noncomputable def MK:=@Int.le_refl
noncomputable def ML:=@List.dropWhile_sublist
noncomputable def MM:=@List.getElem_cons_zero
noncomputable def MN:=@List.any_cons
noncomputable def MO:=@Bool.and_true
noncomputable def MP:=@PySem.wpAny_attempt
noncomputable def MQ:=@List.take_succ_eq_append_getElem
noncomputable def MR:=@List.pairwise_reverse
noncomputable def MT:=@List.mem_iff_getElem?
noncomputable def MU:=@PySem.wpAny_isOneOf_keyiter
noncomputable def MV:=@List.singleton_append
noncomputable def MW:=@List.dropLast_eq_take
noncomputable def MX:=@List.getElem?_set_ne
noncomputable def MY:=@PySem.wpAny_execs_nil
noncomputable def MZ:=@Nat.succ_mul
noncomputable def M_:=@PySem.wpAny_loadPart'
noncomputable def Na:=@PySem.wpAny_typeOf
noncomputable def Nb:=@PyProof.Rows.get?_update_seq
noncomputable def Nc:=@Nat.sub_zero
noncomputable def Nd:=@PySem.post_val_or_str
noncomputable def Nf:=@List.range_eq_range'
noncomputable def Ng:=@Nat.pow_succ
noncomputable def Nh:=@Nat.min_eq_left
noncomputable def Ni:=@List.drop_append_of_le_length
noncomputable def Nj:=@List.filterMap_cons
noncomputable def Nk:=@List.takeWhile_cons
noncomputable def Nl:=@List.reverse_append
noncomputable def Nm:=@List.toList_toArray
noncomputable def Nn:=@List.length_pos_iff
noncomputable def Np:=@Bool.false_and
noncomputable def Nq:=@PySem.F.args_tuple_iterator_next_1
noncomputable def Nr:=@PySem.wpAny_setField
noncomputable def Nt:=@PySem.wpAny_fieldsOf
noncomputable def Nu:=@PySem.wpAny_ite_true
noncomputable def Nv:=@Nat.pow_add
noncomputable def Nw:=@PySem.tupleKind_room_in1
noncomputable def Nx:=@Array.append_empty
noncomputable def Ny:=@PySem.F.entry_tuple_iterator_next
noncomputable def Nz:=@PySem.SeqAt.EqAt.of_refs
noncomputable def N0:=@Array.getD_eq_getD_getElem?
noncomputable def N1:=@Int.natAbs_natCast
noncomputable def N2:=@PySem.Calls.Name_function_global
noncomputable def N3:=@PySem.wpAny_standAt
noncomputable def N4:=@PySem.wpAny_letOwnedTupleGo_enum
noncomputable def N5:=@PySem.SeqAt.RcNeAt.lists_lengths
noncomputable def N6:=@PySem.wpAny_newList
noncomputable def N7:=@Array.getElem?_eq_none_iff
noncomputable def N8:=@List.map_take
noncomputable def N9:=@PySem.wpAny_truthy_bool
noncomputable def NA:=@List.ext_getElem?
noncomputable def NB:=@Nat.lt_trichotomy
noncomputable def NC:=@PySem.wpAny_rule
noncomputable def ND:=@bne_iff_ne
noncomputable def NF:=@List.exists_mem_of_ne_nil
noncomputable def NG:=@Array.getElem?_eq_getElem
noncomputable def NH:=@List.mem_of_find?_eq_some
noncomputable def NI:=@PySem.wpAny_eqBool_str
noncomputable def NJ:=@Option.isSome_iff_exists
noncomputable def NK:=@Nat.succ_le_succ
noncomputable def NL:=@PySem.wpAny_comprehension_free
noncomputable def NM:=@decide_eq_decide
noncomputable def NN:=@PyProof.Rows.listItems_at
noncomputable def NO:=@List.zipIdx_cons
noncomputable def NP:=@List.getElem?_replicate
noncomputable def NQ:=@PySem.wpAny_pyNext_enum_itemD
noncomputable def NR:=@PySem.SeqAt.eq_list_lengthsAt
noncomputable def NS:=@List.getElem?_cons_succ
noncomputable def NU:=@List.pairwise_singleton
noncomputable def NV:=@Nat.add_sub_cancel_left
noncomputable def NW:=@List.of_mem_zip
noncomputable def NX:=@List.foldl_cons
noncomputable def NY:=@List.range_succ
noncomputable def NZ:=@List.length_zip
noncomputable def N_:=@PySem.wpAny_dictEpoch
noncomputable def Oa:=@Int.natCast_pow
noncomputable def Ob:=@PySem.wpAny_pyNext_list_item
noncomputable def Od:=@PySem.Heap.get?_update_other
noncomputable def Oe:=@PySem.Calls.callWith_builtin
noncomputable def Of:=@PySem.wpAny_pyNext_enum_endD
noncomputable def Og:=@List.length_eq_one_iff
noncomputable def Oh:=@List.pairwise_lt_range
noncomputable def Oi:=@Int.le_ediv_iff_mul_le
noncomputable def Oj:=@Array.getElem?_eq_none
noncomputable def Ol:=@Nat.pow_pos
noncomputable def Om:=@Int.sub_mul
noncomputable def Oo:=@List.getElem_cons_drop
noncomputable def Ou:=@Bool.and_false
noncomputable def Ow:=@Array.mem_iff_getElem
noncomputable def Ox:=@List.drop_left
noncomputable def Oy:=@List.eq_nil_or_concat
noncomputable def Oz:=@List.set_append_right
noncomputable def O0:=@Int.emod_add_mul_ediv
noncomputable def O1:=@List.getElem?_eq_none
noncomputable def O2:=@PySem.typeIs_str
noncomputable def O3:=@Nat.not_lt
noncomputable def O4:=@PySem.W.plainGet_of
noncomputable def O5:=@Bool.true_and
noncomputable def O7:=@PySem.plainId_quiet
noncomputable def O8:=@Nat.le_of_eq
noncomputable def O9:=@PySem.codeAny_mono
noncomputable def OA:=@PySem.W.callWith_K
noncomputable def OB:=@PySem.seqIndex_neg
noncomputable def OC:=@PySem.callType_new
noncomputable def OD:=@Nat.add_zero
noncomputable def OE:=@List.map_set
noncomputable def OF:=@Nat.mul_zero
abbrev Key:=Sum Int Str
noncomputable def iD:Key->Value->Bool
 |.inl k,v=>Value.isInt k v
 |.inr x,v=>Value.isStrOf x v
noncomputable def IT(w:World):Key->Int
 |.inl k=>hashInt k
 |.inr x=>hashStr w x
theorem bP:∀{k:Key} {v:Value},iD k v=true->(∃i t,k=Sum.inl i/\v=Value.int i t)\/(∃x t,k=Sum.inr x/\v=Value.str x t)
 |.inl i,v,h=>by
  obtain⟨t,e⟩:=Value.isInt_shape (k:=i) (v:=v) h;exact .inl ⟨i,t,rfl,e⟩
 |.inr x,v,h=>by
  obtain⟨t,e⟩:=Value.isStrOf_shape (x:=x) (v:=v) h;exact .inr ⟨x,t,rfl,e⟩
theorem vT(i:Int)(t:Tok):iD (.inl i) (.int i t)=true:=by simp[iD,Value.isInt]
theorem wj(x:Str)(t:Tok):iD (.inr x) (.str x t)=true:=by simp[iD,Value.isStrOf]
theorem Fy(a b:Int):decide ((Sum.inl a:Key)=Sum.inl b)=(a == b):=by
 by_cases e:a=b
 ·subst e;simp
 ·have h:¬ (Sum.inl a:Key)=Sum.inl b:=λq=>e (Sum.inl.inj q);rw[Ke h];exact (Ka.mpr e).symm
theorem Ft(a b:Str):decide ((Sum.inr a:Key)=Sum.inr b)=decide (a=b):=by
 by_cases e:a=b
 ·subst e;simp
 ·have h:¬ (Sum.inr a:Key)=Sum.inr b:=λq=>e (Sum.inr.inj q);rw[Ke h,Ke e]
theorem E_(a:Int)(b:Str):decide ((Sum.inl a:Key)=Sum.inr b)=false:=Ke (λq=>nomatch q)
theorem Ee(a:Str)(b:Int):decide ((Sum.inr a:Key)=Sum.inl b)=false:=Ke (λq=>nomatch q)
noncomputable def cg(prog:Program)(w:World):PySem.KeyKind prog w Key where
 is:=iD
 hash:=IT w
 inj:=λv a b ha hb=>by
  rcases bP ha with ⟨i,t,rfl,rfl⟩|⟨x,t,rfl,rfl⟩
  ·rcases bP hb with ⟨j,u,rfl,e⟩|⟨y,u,rfl,e⟩
   ·injection e with e1 _;rw[e1]
   ·exact nomatch e
  ·rcases bP hb with ⟨j,u,rfl,e⟩|⟨y,u,rfl,e⟩
   ·exact nomatch e
   ·injection e with e1 _;rw[e1]
 byValue:=λk v h=>by
  rcases bP h with ⟨i,t,rfl,rfl⟩|⟨x,t,rfl,rfl⟩<;>rfl
 pyHash:=λhv h=>by
  rcases bP hv with ⟨i,t,rfl,rfl⟩|⟨x,t,rfl,rfl⟩
  ·exact wpAny_pyHash_int h
  ·exact wpAny_pyHash_str h
 eqBool:=λhu hv h=>by
  rcases bP hu with ⟨i,t,rfl,rfl⟩|⟨x,t,rfl,rfl⟩
  ·rcases bP hv with ⟨j,u,rfl,rfl⟩|⟨y,u,rfl,rfl⟩
   ·rw[Fy] at h;exact wpAny_eqBool_int h
   ·rw[E_] at h;exact SeqAt.EqAt.int_str i t y u _ _ _ _ h
  ·rcases bP hv with ⟨j,u,rfl,rfl⟩|⟨y,u,rfl,rfl⟩
   ·rw[Ee] at h;exact SeqAt.EqAt.str_int x t j u _ _ _ _ h
   ·rw[Ft] at h;exact NI h
 «strs»:=λk x t v h=>by
  rcases bP h with ⟨i,u,rfl,e⟩|⟨y,u,rfl,e⟩
  ·exact nomatch e
  ·injection e with e1 _
   subst e1
   cases v<;>rfl
theorem oP(prog:Program)(w:World)(i:Int)(t:Tok):(cg prog w).is (.inl i) (.int i t)=true:=vT i t
theorem qA(prog:Program)(w:World)(x:Str)(t:Tok):(cg prog w).is (.inr x) (.str x t)=true:=wj x t
inductive V where
 |aR|bl (b:Bool)|int (i:Int)|str (x:Str)|qK (b:Array UInt8)|Dh (b:UInt64)|ref (a:Addr)|ty (n:String)
 deriving DecidableEq
variable{xs:List V}
noncomputable def RelV:V->Value->Prop
 |.aR,u=>u=Value.none
 |.bl b,u=>u=Value.bool b
 |.int i,u=>∃t,u=Value.int i t
 |.str x,u=>∃t,u=Value.str x t
 |.qK b,u=>∃t,u=Value.bytes b t
 |.Dh b,u=>∃t,u=Value.float b t
 |.ref a,u=>u=Value.ref a
 |.ty n,u=>u=Value.type n
abbrev Vals:List V->List Value->Prop:=Paired RelV
theorem Vals.length(r:Vals xs us):xs.length=us.length:=Paired.length r
theorem Vals.get:∀{xs:List V} {us:List Value} {i:Nat} {x:V},Vals xs us->xs[i]?=some x->∃u,us[i]?=some u/\RelV x u
 |_,_,_,_,.nil,e=>by simp at e
 |_,_,0,_,.cons r _,e=>by simp at e;subst e;exact⟨_,rfl,r⟩
 |_,_,i+1,x,.cons _ t,e=>by
  obtain⟨u,h1,h2⟩:=Vals.get (i:=i) (x:=x) t (by simpa using e)
  exact⟨u,by simpa using h1,h2⟩
theorem Vals.set{x:V}(r:RelV x u):∀{xs:List V} {us:List Value} (i:Nat),Vals xs us->Vals (xs.set i x) (us.set i u)
 |_,_,_,.nil=>.nil
 |_,_,0,.cons _ t=>.cons r t
 |_,_,i+1,.cons q t=>.cons q (Vals.set r i t)
theorem Vals.append:∀{xs ys:List V} {us ws:List Value},Vals xs us->Vals ys ws->Vals (xs++ys) (us++ws)
 |_,_,_,_,.nil,s=>s
 |_,_,_,_,.cons r t,s=>.cons r (Vals.append t s)
theorem Vals.take:∀{xs:List V} {us:List Value} (n:Nat),Vals xs us->Vals (xs.take n) (us.take n)
 |_,_,0,_=>.nil
 |_,_,_+1,.nil=>.nil
 |_,_,n+1,.cons r t=>.cons r (Vals.take n t)
theorem Vals.drop:∀{xs:List V} {us:List Value} (n:Nat),Vals xs us->Vals (xs.drop n) (us.drop n)
 |_,_,0,r=>r
 |_,_,_+1,.nil=>.nil
 |_,_,n+1,.cons _ t=>Vals.drop n t
noncomputable def gU:Option V->Option Value->Prop
 |some v,some u=>RelV v u
 |none,none=>True
 |_,_=>False
noncomputable def KV{κ:Type}:List (κ×V)->List (κ×Value)->Prop:=Paired λ(p:κ×V) (q:κ×Value)=>p.1=q.1/\RelV p.2 q.2
noncomputable def kV:Key->V
 |.inl i=>.int i
 |.inr x=>.str x
inductive HO where
 |lst (xs:List V)
 |tup (xs:List V)
 |dK (kvs:List (Key×V))|dT (kvs:List (List Key×V))
 |set (S:Int->Bool) (n:Nat)
 |ins (C dx:Addr) (fs:List (Str×V))
 |own (x:Addr)
 |xd (fs:List (Str×V))
 |met (f x:Addr)
 |mE (lo hi:Int)
 |jn (o:Obj) (u:HO)
 |zE (ps:Array Value)
 |ext (φ:Heap->Prop)
variable{o:HO}
abbrev Hp:=Addr->Option HO
variable{H:Hp}
noncomputable def upd(H:Hp)(a:Addr)(o:HO):Hp:=λb=>if b=a then some o else H b
theorem ae:upd H a o a=some o:=by unfold upd;rw[JE rfl]
theorem aj(h:b≠a):upd H a o b=H b:=by unfold upd;rw[JA h]
theorem oC{u:HO}:upd (upd H a o) a u=upd H a u:=by
 funext b;unfold upd;split<;>rfl
theorem Gy{u:HO}(h:H a=some o)(h':H b=some u)(d:o≠u):a≠b:=by
 intro e;subst e;rw[h] at h';exact d (Option.some.inj h')
theorem aq(h:H a=some o)(h':H b=none):a≠b:=by
 intro e;subst e;rw[h] at h';cases h'
noncomputable def II:List Value->Str
 |.str q _::_=>q
 |_=>Str.ofString ""
noncomputable def ze(ps:Array Value):Str:=II ps.toList
noncomputable def CP(H:Hp)(q:Str)(cv:Value):Prop:=∃(c:Addr) (oc:Obj) (vs:Array Value) (t:Tok),cv=.ref c/\H c=some (.jn oc (.own c))/\oc.data=.fields vs/\vs[1]?=some (.str q t)
noncomputable def eJ(h:Heap)(a:Addr)(items:Array Value):Prop:=∃o:Obj,h.get? a=some o/\o.cls=.type "tuple"/\∃n,o.data=.seq items n/\o.dict=none
theorem eJ.to(x:eJ h a items):IsTup h a items:=let ⟨o,e,c,n,d,_⟩:=x;⟨o,e,c,n,d⟩
theorem eJ.new(h:Heap)(items:Array Value):eJ (h.push {cls:=.type "tuple",data:=.seq items}) h.objs.size items:=⟨_,JM h rfl,rfl,_,rfl,rfl⟩
theorem eJ.lt(x:eJ h a items):a<h.objs.size:=x.to.lt
section
variable (P:Program) (w:World)
noncomputable def b9(H:Hp)(h:Heap)(a:Addr):HO->Prop
 |.lst xs=>xs.length<=sizeLine/\∃(its:List Value) (n:Nat),Vals xs its/\h.get? a=some {cls:=.type "list",data:=.seq its.toArray n}
 |.tup xs=>xs.length<=sizeLine/\∃its:List Value,Vals xs its/\eJ h a its.toArray
 |.dK kvs=>kvs.length<=sizeLine/\(a == sysModules)=false/\∃vs,KV kvs vs/\h.DictOf (cg P w) a vs
 |.dT kvs=>kvs.length<=sizeLine/\(a == sysModules)=false/\∃xs:List (List Key×Addr×Value),
   Paired (λ(p:List Key×V) (q:List Key×Addr×Value)=>p.1=q.1/\H q.2.1=some (.tup (p.1.map kV))/\RelV p.2 q.2.2) kvs xs /\
   ∃o es ep,h.get? a=some o/\o.ExactDict/\o.data=.dict es ep/\es.toList=xs.map (entryOfKey (tupleKind (cg P w)))/\(xs.map (·.1)).Nodup
 |.set S n=>h.SetOf (intKind P w) a S n
 |.ins C dx fs=>H dx=some (.own a)/\fs.length<=1000/\dx≠a/\h.get? a=some (W.instObj C dx) /\
   ∃mA,h.Ns1 dx mA/\(∀f,gU (fs.lookup f) (mA f))/\PySem.Within mA (fs.map (·.1))
 |.own _=>∃o,h.get? a=some o
 |.xd fs=>∃mA,h.Ns1 a mA/\∀f,gU (fs.lookup f) (mA f)
 |.mE lo hi=>∃t u v,h.get? a=some {cls:=.type "range",data:=.fields #[.int lo t,.int hi u,.int 1 v]}
 |.jn o u=>h.get? a=some o/\b9 H h a u
 |.zE ps=>∃qs:Array Value,h.get? a=some {cls:=.none,data:=.fields qs}/\TriplesOk qs.toList/\∀pos cv,codeAmong pos qs.toList=some cv->CP H (ze ps) cv
 |.met f x=>h.get? a=some (W.methodObj (.ref f) (.ref x))
 |.ext φ=>φ h/\(∃o,h.get? a=some o)/\∀h1 h2:Heap,φ h1->(∀o,h1.get? a=some o->h2.get? a=some o)->φ h2
noncomputable def iq(H:Hp)(h:Heap):Prop:=∀a o,H a=some o->b9 P w H h a o
end
section
variable {P:Program} {w:World} {H H':Hp} {h h':Heap} {a:Addr} {o:HO}
theorem b9.lt(x:b9 P w H h a o):a<h.objs.size:=by
 cases o with
 |lst xs=>obtain⟨_,_,_,_,e⟩:=x;exact JP e
 |tup xs=>obtain⟨_,_,_,p⟩:=x;exact p.lt
 |dK kvs=>obtain⟨_,_,_,_,o,_,_,e,_⟩:=x;exact JP e
 |dT kvs=>obtain⟨_,_,_,_,o,_,_,e,_⟩:=x;exact JP e
 |set S n=>obtain⟨o,_,_,_,e,_⟩:=x;exact JP e
 |ins C dx fs=>obtain⟨_,_,_,e,_⟩:=x;exact JP e
 |own y=>obtain⟨_,e⟩:=x;exact JP e
 |xd fs=>obtain⟨_,⟨_,_,_,e,_⟩,_⟩:=x;exact JP e
 |mE lo hi=>obtain⟨_,_,_,e⟩:=x;exact JP e
 |jn ob u=>obtain⟨e,_⟩:=x;exact JP e
 |zE ps=>obtain⟨_,e,_⟩:=x;exact JP e
 |met f y=>exact JP (show h.get? a=some _ from x)
 |ext φ=>obtain⟨_,⟨_,e⟩,_⟩:=x;exact JP e
theorem Paired.EO{α β:Type}{F G:α->β->Prop}:∀{l₁:List α} {l₂:List β},Paired F l₁ l₂->(∀a b,F a b->G a b)->Paired G l₁ l₂
 |_,_,.nil,_=>.nil
 |_,_,.cons r t,f=>.cons (f _ _ r) (Paired.EO t f)
theorem b9.n_(x:b9 P w H h a o)(k:∀b u,(b=a\/H b=some (.own a))->h.get? b=some u->h'.get? b=some u)
  (ho:∀b,H b=some (.own a)->H' b=some (.own a)) (ht:∀b xs,H b=some (.tup xs)->H' b=some (.tup xs)) (hz:∀b o u,H b=some (.jn o u)->H' b=some (.jn o u)):b9 P w H' h' a o:=by
 induction o with
 |lst xs=>obtain⟨z,its,n,r,e⟩:=x;exact⟨z,its,n,r,k _ _ (.inl rfl) e⟩
 |tup xs=>obtain⟨z,its,r,ob,e,c⟩:=x;exact⟨z,its,r,ob,k _ _ (.inl rfl) e,c⟩
 |dK kvs=>obtain⟨z,y,vs,r,ob,es,ep,e,c⟩:=x;exact⟨z,y,vs,r,ob,es,ep,k _ _ (.inl rfl) e,c⟩
 |dT kvs =>
  obtain⟨z,y,xs,r,ob,es,ep,e,c⟩:=x;exact⟨z,y,xs,Paired.EO r λp q z=>⟨z.1,ht _ _ z.2.1,z.2.2⟩,ob,es,ep,k _ _ (.inl rfl) e,c⟩
 |set S n=>obtain⟨ob,es,ep,t,e,c⟩:=x;exact⟨ob,es,ep,t,k _ _ (.inl rfl) e,c⟩
 |ins C dx fs =>
  obtain⟨d,z,ne,e,mA,⟨od,es,ep,e2,c⟩,r⟩:=x;exact⟨ho _ d,z,ne,k _ _ (.inl rfl) e,mA,⟨od,es,ep,k _ _ (.inr d) e2,c⟩,r⟩
 |own y=>obtain⟨ob,e⟩:=x;exact⟨ob,k _ _ (.inl rfl) e⟩
 |xd fs=>obtain⟨mA,⟨od,es,ep,e,c⟩,r⟩:=x;exact⟨mA,⟨od,es,ep,k _ _ (.inl rfl) e,c⟩,r⟩
 |mE lo hi=>obtain⟨t,u,v,e⟩:=x;exact⟨t,u,v,k _ _ (.inl rfl) e⟩
 |jn ob u ih=>obtain⟨e,q⟩:=x;exact⟨k _ _ (.inl rfl) e,ih q⟩
 |zE ps =>
  obtain⟨qs,e,t,f⟩:=x;exact⟨qs,k a _ (.inl rfl) e,t,λpos cv q=>let ⟨c,oc,vs,t',e1,e2,e3⟩:=f pos cv q;⟨c,oc,vs,t',e1,hz _ _ _ e2,e3⟩⟩
 |met f y =>
  have e:h.get? a=some (W.methodObj (.ref f) (.ref y)):=x;show h'.get? a=some (W.methodObj (.ref f) (.ref y));exact k a _ (.inl rfl) e
 |ext φ=>obtain⟨p,⟨o,e⟩,st⟩:=x;exact⟨st _ _ p λo q=>k _ _ (.inl rfl) q,⟨o,k _ _ (.inl rfl) e⟩,st⟩
theorem iq.lt(x:iq P w H h)(e:H a=some o):a<h.objs.size:=(x a o e).lt
theorem iq.fresh(x:iq P w H h)(e:h.objs.size<=a):H a=none:=by
 cases q:H a with
 |none=>rfl
 |some u=>exact absurd (JZ (x.lt q) e) (KG _)
theorem iq.kept(x:iq P w H h)(k:∀b u,h.get? b=some u->h'.get? b=some u):iq P w H h':=λa o e =>
 (x a o e).n_ (λb u _ q=>k b u q) (λ_ q=>q) (λ_ _ q=>q) λ_ _ _ q=>q
theorem iq.laid(x:iq P w H h)(k:∀b u,h.get? b=some u->h'.get? b=some u)(hp:h.objs.size<=a)(new:b9 P w (upd H a o) h' a o):iq P w (upd H a o) h':=λb u e=>by
 have hn:=x.fresh hp;by_cases hb:b=a
 ·subst hb;rw[ae] at e;cases e;exact new
 ·rw[aj hb] at e;exact (x b u e).n_ (λc v _ q=>k c v q) (λc q=>by rw[aj (aq q hn)];exact q) (λc xs q=>by rw[aj (aq q hn)];exact q) λc _ _ q=>by rw[aj (aq q hn)];exact q
end
noncomputable def Rd(H:Hp)(a:Addr)(u:HO):Prop:=H a=some u\/∃o,H a=some (.jn o u)
theorem Rd.ok{u:HO}(r:Rd H a u)(x:iq P w H h):b9 P w H h a u:=by
 rcases r with r|⟨o,r⟩
 ·exact x a u r
 ·obtain⟨_,q⟩:=x a _ r;exact q
noncomputable def Hz:Option HO->Prop
 |some (.lst _)=>True
 |some (.dK _)=>True
 |some (.dT _)=>True
 |some (.set _ _)=>True
 |some (.ins _ _ _)=>True
 |some (.ext _)=>True
 |_=>False
section
variable {P:Program} {w:World} {H:Hp} {h h':Heap} {x e:Addr} {o':HO}
theorem iq.write(ok:iq P w H h)(mu:Hz (H x))(he:e=x\/H e=some (.own x))(k:∀b u,b≠e->h.get? b=some u->h'.get? b=some u)(heo:∃u,h'.get? e=some u)
  (new:b9 P w (upd H x o') h' x o'):iq P w (upd H x o') h':=λb u q=>by
 have nown:∀c y,H c=some (.own y)->c≠x:=λc y r z=>by subst z;rw[r] at mu;exact mu
 have ntup:∀c xs,H c=some (.tup xs)->c≠x:=λc xs r z=>by subst z;rw[r] at mu;exact mu
 have nfrz:∀c o1 u1,H c=some (.jn o1 u1)->c≠x:=λc _ _ r z=>by subst z;rw[r] at mu;exact mu
 by_cases hb:b=x
 ·subst hb;rw[ae] at q;cases q;exact new
 ·rw[aj hb] at q;by_cases hbe:b=e
  ·have q':H b=some (.own x):=by
    rcases he with z|z
    ·exact absurd (hbe.trans z) hb
    ·rw[hbe];exact z
   rw[q] at q';cases q';obtain⟨v,hv⟩:=heo;exact⟨v,by rw[hbe];exact hv⟩
  ·refine (ok b u q).n_ (λc v hc r=>k c v ?_ r) (λc r=>by rw[aj (nown c b r)];exact r) (λc xs r=>by rw[aj (ntup c xs r)];exact r) λc _ _ r=>by rw[aj (nfrz c _ _ r)];exact r
   rcases hc with rfl|hc
   ·exact hbe
   ·rintro rfl;rcases he with z|z
    ·exact nown c b hc z
    ·rw[hc] at z;cases z;exact hb rfl
end
structure Un (fs ex:List Addr) (H H':Hp) (h h':Heap):Prop where
 keep:∀b o,h.get? b=some o->H b=none->b∉fs->b∉ex->h'.get? b=some o
 slot:∀b o,h.get? b=some o->H b=none->b∈fs->b∉ex->∃sl,h'.get? b=some {o with slots:=sl}
 free:∀b o,h.get? b=some o->H b=none->b∉ex->H' b=none
 there:∀b o,h.get? b=some o->b∉ex->∃o',h'.get? b=some o'
 pw:∀b xs,H b=some (.tup xs)->H' b=some (.tup xs)
 nB:∀b o u,H b=some (.jn o u)->H' b=some (.jn o u)
 mi:∀b ps,H b=some (.zE ps)->∃more,H' b=some (.zE (ps++more))
section
variable {fs fs' ex ex':List Addr} {H H1 H2:Hp} {h h1 h2 h':Heap} {a x e:Addr} {o:HO}
theorem Un.any(u:Un fs ex H H1 h h1){ob:Obj}(q:h.get? b=some ob)(n:H b=none)(hx:b∉ex):∃sl,h1.get? b=some {ob with slots:=sl}:=by
 by_cases hb:b∈fs
 ·exact u.slot b ob q n hb hx
 ·exact⟨ob.slots,u.keep b ob q n hb hx⟩
theorem Un.kept(k:∀b u,h.get? b=some u->h'.get? b=some u):Un fs ex H H h h':=
 ⟨λb ob q _ _ _=>k b ob q,λb ob q _ _ _=>⟨ob.slots,k b ob q⟩,λ_ _ _ n _=>n,λb ob q _=>⟨ob,k b ob q⟩,λ_ _ q=>q,λ_ _ _ q=>q,λ_ ps q=>⟨#[],by rw[q];simp⟩⟩
theorem Un.refl:Un fs ex H H h h:=Un.kept λ_ _ q=>q
theorem Un.laid(k:∀b u,h.get? b=some u->h'.get? b=some u)(hp:h.objs.size<=a)(hn:H a=none):Un fs ex H (upd H a o) h h' where
 keep:=λb u q _ _ _=>k b u q
 slot:=λb u q _ _ _=>⟨u.slots,k b u q⟩
 free:=λb u q n _=>by rw[aj (JX (JZ (JP q) hp))];exact n
 there:=λb u q _=>⟨u,k b u q⟩
 pw:=λb xs q=>by rw[aj (aq q hn)];exact q
 nB:=λb u xs q=>by rw[aj (aq q hn)];exact q
 mi:=λb ps q=>⟨#[],by rw[aj (aq q hn),q];simp⟩
theorem Un.write(mu:Hz (H x))(he:e=x\/H e=some (.own x))(k:∀b u,b≠e->h.get? b=some u->h'.get? b=some u)(heo:∃u,h'.get? e=some u):Un fs ex H (upd H x o) h h':=by
 have hx:∀b,H b=none->b≠x:=λb n z=>by subst z;rw[n] at mu;exact mu
 have hb:∀b,H b=none->b≠e:=λb n z=>by
  subst z;rcases he with r|r
  ·exact hx b n r
  ·rw[n] at r;cases r
 have hm:∀b u,H b=some u->¬ Hz (some u)->b≠x:=λb u q nm z=>by subst z;rw[q] at mu;exact nm mu
 refine⟨λb u q n _ _=>k b u (hb b n) q,λb u q n _ _=>⟨u.slots,k b u (hb b n) q⟩,λb u q n _=>by rw[aj (hx b n)];exact n,λb u q _=>?_,
  λb xs q=>by rw[aj (hm b _ q λz=>z)];exact q,λb u xs q=>by rw[aj (hm b _ q λz=>z)];exact q,λb ps q=>⟨#[],by rw[aj (hm b _ q λz=>z),q];simp⟩⟩
 by_cases hbe:b=e
 ·subst hbe;exact heo
 ·exact⟨u,k b u hbe q⟩
end
noncomputable def GY(h:Heap)(H:Hp):List Addr:=(List.range h.objs.size).filter λa=>(H a).isSome
noncomputable def mm(h:Heap)(H:Hp):Heap:=W.hideAll h (GY h H)
theorem uX(h:Heap)(H:Hp):(mm h H).objs.size=h.objs.size:=W.hideAll_size _ _
theorem iw{o:Obj}(e:h.get? b=some o)(n:H b=none):(mm h H).get? b=some o:=
 W.hideAll_get _ e λhm=>by
  have q:(H b).isSome=true:=(List.mem_filter.mp hm).2;rw[n] at q;simp at q
theorem B9{o:Obj}(e:(mm h H).get? b=some o):h.get? b=some o/\H b=none:=by
 have e':h.get? b=some o:=W.of_hideAll (GY h H) e;refine⟨e',?_⟩
 cases q:H b with
 |none=>rfl
 |some x =>
  have hm:b∈GY h H:=List.mem_filter.mpr ⟨KJ.mpr (JP e'),by simp[q]⟩
  have z:(mm h H).get? b=none:=W.hideAll_none (GY h H) hm;rw[z] at e;cases e
noncomputable def Cb(g h:Heap)(L:Addr):List (Addr×Obj):=(List.range h.objs.size).filterMap λa=>if a=L\/(g.get? a).isSome=true then none else (h.get? a).map λo=>(a,o)
noncomputable def rest(g h:Heap)(L d:Addr):List (Addr×Obj):=(Cb g h L).filter λp=>decide (p.1≠d)
noncomputable def dU:List Str:=["by_worth","by_weight","code_of"]
noncomputable def cm(K:W.Frag):List (Addr×Addr×Str):=dU.filterMap λx=>(W.tabIn K x).map λp=>(p.1,p.2,(x++".<locals>.")++"<lambda>")
noncomputable def TabsOk(K:W.Frag)(H:Hp):Prop:=∀t∈cm K,∃more,H t.2.1=some (.zE (#[.str t.2.2 0]++more))
theorem TabsOk.un{fs ex:List Addr}{H1:Hp}{h1:Heap}(x:TabsOk K H)(u:Un fs ex H H1 h h1):TabsOk K H1:=λt ht=>by
 obtain⟨m,e⟩:=x t ht;obtain⟨m2,e2⟩:=u.mi _ _ e;exact⟨m++m2,by rw[e2,Array.append_assoc]⟩
noncomputable def DN(mg:Str->Option Value)(h:Heap):Prop:=∃bm ob,mg "__builtins__"=some (.ref bm)/\bm≠builtinsNs/\h.get? bm=some ob/\ob.cls=.type "module"/\ob.dict=some builtinsNs/\ob.data=.plain
structure Mod (K:W.Frag) (mg:Str->Option Value) (base:Heap):Prop where
 GW:K.In base
 glob:base.Ns mainGlobals mg
 blt:∃mb,base.Ns builtinsNs mb/\∀x:Str,x≠"__name__"->mb x=bootBuiltins x
 nolimit:base.NoLimit
 codes:∀t∈cm K,W.CodeHd base t.1 t.2.1
 bm:DN mg base
structure Cx where
 prog:Program
 w:World
 K:W.Frag
 mg:Str->Option Value
 base:Heap
 A:Around
 N:List Str
 s₀:Shared
 H₀:Hp
 env:Env
 outer:List Env
 stack:List Env
 ex:List Addr
 fn:Str->Bool
 calm:Bool
 pn:List (Addr×Obj)
 xe:Value->Shared->Prop
variable{X:Cx}
noncomputable def ya(l:List Env):List Addr:=l.filterMap (·.frame)
abbrev Cx.fs(X:Cx):List Addr:=ya X.outer
noncomputable def GS(sc:Scope)(x:Str):Prop:=sc.names.lookup x=some .local\/sc.names.lookup x=some .cell\/sc.names.lookup x=some .free
noncomputable def Loc(sc:Scope)(x:Str):Prop:=sc.names.lookup x=some .local\/sc.names.lookup x=some .cell
noncomputable def Look(env:Env)(h:Heap)(m:Str->Option Value)(x:Str)(u:Value):Prop:=
 (env.kindOf x=some .local/\m x=some u)\/((env.kindOf x=some .cell\/env.kindOf x=some .free)/\∃c,env.cells.lookup x=some c/\h.IsCell c (some u))
structure Cx.Ok (X:Cx):Prop where
 mod:Mod X.K X.mg X.base
 kind:X.env.scope.kind=.function
 glob:X.env.globals=mainGlobals
 blt:X.env.builtins=builtinsNs
 above:X.s₀.heap.objs.size<=X.env.locals
 inj:∀x y c,X.env.cells.lookup x=some c->X.env.cells.lookup y=some c->x=y
 has:∀x,(X.env.kindOf x=some .cell\/X.env.kindOf x=some .free)->∃c,X.env.cells.lookup x=some c
 GX:∀x c,X.fn x=true->X.env.cells.lookup x=some c->X.s₀.heap.objs.size<=c
 hd:X.calm=true->X.A.handled=none
 frames:X.A.frames=some X.stack
 HZ:X.stack=X.outer\/(X.stack=X.env::X.outer/\X.env.frame=some X.env.locals)
 Je:∀b∈X.ex,b≠X.env.locals/\∀x c,X.env.cells.lookup x=some c->c≠b
 bs:∀b o,X.base.get? b=some o->X.s₀.heap.get? b=some o/\X.H₀ b=none
 Am:X.base.objs.size<=X.s₀.heap.objs.size
 zv:∀b o,X.base.get? b=some o->b∉X.ex
 Cy:∀b∈X.ex,b∉X.fs
 jG:X.s₀.heap.FunFrames X.base X.outer
 Ds:∀b∈X.fs,X.H₀ b=none
 tabs:TabsOk X.K X.H₀
structure Inv (X:Cx) (pins:List (Addr×Obj)) (σ:List (Option V)) (H:Hp) (s:Shared):Prop where
 ok:X.Ok
 os:s.os=X.s₀.os
 bare:AllBare s.gens
 base:Un X.fs X.ex X.H₀ H X.s₀.heap s.heap
 loc:∃m,s.heap.Ns X.env.locals m/\∀(i:Nat) (x:Str) (v:V),X.N[i]?=some x->σ[i]?=some (some v)->GS X.env.scope x->∃u,RelV v u/\Look X.env s.heap m x u
 cell:∀x c,X.env.cells.lookup x=some c->∃v,s.heap.IsCell c v
 free:H X.env.locals=none
 fN:∀x c,X.env.cells.lookup x=some c->H c=none
 pin:∀p∈X.pn++pins,s.heap.get? p.1=some p.2/\H p.1=none/\p.1≠X.env.locals/\p.1∉X.fs/\∀v,p.2.data≠.cell v
 aQ:iq X.prog X.w H s.heap
 len:σ.length=X.N.length
section
variable {X:Cx} {pins:List (Addr×Obj)} {σ:List (Option V)} {H H':Hp} {s:Shared} {h':Heap}
theorem Cx.Ok.IF(ok:X.Ok){o:Obj}(e:X.base.get? b=some o):b∉X.fs:=λhb=>by
 have:=(ok.jG.mem hb).1;rw[e] at this;cases this
theorem Inv.bs(I:Inv X pins σ H s):∀b o,X.base.get? b=some o->s.heap.get? b=some o/\H b=none:=λb o e =>
 ⟨I.base.keep b o (I.ok.bs b o e).1 (I.ok.bs b o e).2 (I.ok.IF e) (I.ok.zv b o e),I.base.free b o (I.ok.bs b o e).1 (I.ok.bs b o e).2 (I.ok.zv b o e)⟩
theorem Inv.bk(I:Inv X pins σ H s):∀b o,X.base.get? b=some o->s.heap.get? b=some o:=λb o e=>(I.bs b o e).1
theorem Inv.mod(I:Inv X pins σ H s):Mod X.K X.mg X.base:=I.ok.mod
theorem Inv.iP(I:Inv X pins σ H s):X.K.In s.heap:=I.ok.mod.GW.keeps I.bk
theorem Inv.nolimit(I:Inv X pins σ H s):s.heap.NoLimit:=I.ok.mod.nolimit.keeps I.bk
theorem Inv.lt(I:Inv X pins σ H s):X.env.locals<s.heap.objs.size:=let ⟨_,hn,_⟩:=I.loc;hn.lt
theorem Inv.sz(I:Inv X pins σ H s):X.s₀.heap.objs.size<=s.heap.objs.size:=JF I.ok.above (Ll I.lt)
theorem Inv.Gn(I:Inv X pins σ H s)(h:s.heap.objs.size<=a):a∉X.fs:=λhb=>by
 obtain⟨_,o,ho,_⟩:=I.ok.jG.mem hb;exact absurd (JZ (JP ho) (JF I.sz h)) (KG _)
theorem Inv.FA(I:Inv X pins σ H s):∀x c,X.env.cells.lookup x=some c->c≠X.env.locals:=λx c e z=>by
 obtain⟨v,o,ho,hd⟩:=I.cell x c e;obtain⟨m,⟨o',es,ep,ho',hd',_⟩,_⟩:=I.loc;rw[z,ho'] at ho;cases ho;rw[hd'] at hd;cases hd
theorem Inv.jG(I:Inv X pins σ H s):s.heap.FunFrames X.base X.outer:=by
 have all:∀(l:List Env),(∀b∈ya l,b∈X.fs)->X.s₀.heap.FunFrames X.base l->s.heap.FunFrames X.base l:=by
  intro l
  induction l with
  |nil=>intro _ _;trivial
  |cons env r ih =>
   intro hs hl;obtain⟨hk,⟨L,o,hf,hn,ho,hd⟩,hr⟩:=hl;have hL:L∈X.fs:=hs L (by unfold ya;rw[Nj,hf];exact JH)
   obtain⟨sl,e⟩:=I.base.slot L o ho (I.ok.Ds L hL) hL λz=>I.ok.Cy L z hL;exact⟨hk,⟨L,_,hf,hn,e,hd⟩,ih (λb hb=>hs b (by unfold ya;rw[Nj,hf];exact JG _ hb)) hr⟩
 exact all X.outer (λ_ hb=>hb) I.ok.jG
theorem Inv.stack(I:Inv X pins σ H s):s.heap.FunFrames X.base X.stack:=by
 rcases I.ok.HZ with e|⟨e,hf⟩
 ·rw[e];exact I.jG
 ·rw[e];obtain⟨m,hn,_⟩:=I.loc;refine .cons (by rw[I.ok.kind];decide) hf hn ?_ I.jG
  exact Heap.get?_none_of_le (JF I.ok.Am I.ok.above)
theorem Inv.nJ(I:Inv X pins σ H s):∀b∈ya X.stack,b∈X.env.locals::X.fs:=λb hb=>by
 rcases I.ok.HZ with e|⟨e,hf⟩
 ·rw[e] at hb;exact JG _ hb
 ·rw[e] at hb;unfold ya at hb;rw[Nj,hf] at hb;exact hb
theorem Inv.oi(I:Inv X pins σ H s):∀b∈ya X.stack,H b=none:=λb hb=>by
 rcases J9.mp (I.nJ b hb) with e|hb
 ·rw[e];exact I.free
 ·obtain⟨_,o,ho,_⟩:=I.ok.jG.mem hb;exact I.base.free b o ho (I.ok.Ds b hb) λz=>I.ok.Cy b z hb
theorem Inv.step{t':Nat}{d':Drawn}(I:Inv X pins σ H s)
  (hch:∀b∈ch,(b∈X.ex\/X.s₀.heap.objs.size<=b)/\b≠X.env.locals/\(∀x c,X.env.cells.lookup x=some c->c≠b)/\∀p∈X.pn++pins,p.1≠b)
  (keep:∀b o,b≠X.env.locals->b∉X.fs->b∉ch->s.heap.get? b=some o->H b=none->h'.get? b=some o)
  (slot:∀b o,b≠X.env.locals->b∈X.fs->b∉ch->s.heap.get? b=some o->H b=none->∃sl,h'.get? b=some {o with slots:=sl}) (free:∀b o,b∉ch->s.heap.get? b=some o->H b=none->H' b=none)
  (there:∀b o,b∉ch->s.heap.get? b=some o->∃o',h'.get? b=some o')
  (pw:∀b xs,H b=some (.tup xs)->H' b=some (.tup xs)) (nB:∀b o u,H b=some (.jn o u)->H' b=some (.jn o u)) (mi:∀b ps,H b=some (.zE ps)->∃more,H' b=some (.zE (ps++more)))
  (ns:∀m,s.heap.Ns X.env.locals m->h'.Ns X.env.locals m) (aQ:iq X.prog X.w H' h') (hg:AllBare g') :
  Inv X pins σ H' {s with heap:=h',gens:=g',drawn:=d',toks:=t'}:=by
 have neL:∀b o,X.s₀.heap.get? b=some o->b≠X.env.locals:=λb o e=>JX (JZ (JP e) I.ok.above);have neC:∀b o,X.s₀.heap.get? b=some o->b∉X.ex->b∉ch:=λb o e hx hb=>by
  rcases (hch b hb).1 with z|z
  ·exact hx z
  ·exact absurd (JZ (JP e) z) (KG _)
 have cellK:∀x c,X.env.cells.lookup x=some c->∀v,s.heap.IsCell c v->h'.IsCell c v:=λx c e v ⟨o,ho,hd⟩=>by
  have nch:c∉ch:=λz=>(hch c z).2.2.1 x c e rfl;by_cases hc:c∈X.fs
  ·obtain⟨sl,q⟩:=slot c o (I.FA x c e) hc nch ho (I.fN x c e);exact⟨_,q,hd⟩
  ·exact⟨o,keep c o (I.FA x c e) hc nch ho (I.fN x c e),hd⟩
 refine⟨I.ok,I.os,hg,⟨λb o e n hb hx=>?_,λb o e n hb hx=>?_,λb o e n hx=>?_,λb o e hx=>?_,λb xs e=>pw b xs (I.base.pw b xs e),λb o xs e=>nB b o xs (I.base.nB b o xs e),λb ps e=>?_⟩,?_,λx c e=>?_,?_,λx c e=>?_,λp hp=>?_,aQ,I.len⟩
 ·exact keep b o (neL b o e) hb (neC b o e hx) (I.base.keep b o e n hb hx) (I.base.free b o e n hx)
 ·obtain⟨sl,e1⟩:=I.base.slot b o e n hb hx;obtain⟨sl',e2⟩:=slot b _ (neL b o e) hb (neC b o e hx) e1 (I.base.free b o e n hx);exact⟨sl',e2⟩
 ·obtain⟨o',e1⟩:=I.base.there b o e hx;exact free b o' (neC b o e hx) e1 (I.base.free b o e n hx)
 ·obtain⟨o',e1⟩:=I.base.there b o e hx;exact there b o' (neC b o e hx) e1
 ·obtain⟨m1,e1⟩:=I.base.mi b ps e;obtain⟨m2,e2⟩:=mi b _ e1;exact⟨m1++m2,by rw[e2,Array.append_assoc]⟩
 ·obtain⟨m,hn,hl⟩:=I.loc;refine⟨m,ns m hn,λi x v e1 e2 e3=>?_⟩;obtain⟨u,r,l⟩:=hl i x v e1 e2 e3;refine⟨u,r,?_⟩;rcases l with l|⟨k,c,e,z⟩
  ·exact .inl l
  ·exact .inr ⟨k,c,e,cellK x c e _ z⟩
 ·obtain⟨v,z⟩:=I.cell x c e;exact⟨v,cellK x c e v z⟩
 ·obtain⟨m,⟨o,_,_,ho,_⟩,_⟩:=I.loc;exact free _ o (λz=>(hch _ z).2.1 rfl) ho I.free
 ·obtain⟨v,o,ho,hd⟩:=I.cell x c e;exact free c o (λz=>(hch c z).2.2.1 x c e rfl) ho (I.fN x c e)
 ·obtain⟨e,n,ne,nf,d⟩:=I.pin p hp;have nch:p.1∉ch:=λz=>(hch p.1 z).2.2.2 p hp rfl;exact⟨keep p.1 p.2 ne nf nch e n,free p.1 p.2 nch e n,ne,nf,d⟩
theorem Inv.un{t':Nat}(I:Inv X pins σ H s)(u:Un X.fs [] H H' s.heap h')(aQ:iq X.prog X.w H' h'):Inv X pins σ H' {s with heap:=h',toks:=t'}:=by
 obtain⟨m,⟨o,es,ep,ho,r⟩,_⟩:=id I.loc;obtain⟨sl,hL⟩:=u.any ho I.free (by simp)
 exact I.step (g':=s.gens) (d':=s.drawn) (ch:=[]) (λ_ z=>nomatch z) (λb o _ hb _ e n=>u.keep b o e n hb (by simp)) (λb o _ hb _ e n=>u.slot b o e n hb (by simp)) (λb o _ e n=>u.free b o e n (by simp)) (λb o _ e=>u.there b o e (by simp)) u.pw u.nB u.mi (λm' hm=>by
  obtain⟨o',es',ep',ho',r'⟩:=hm;rw[ho] at ho';cases ho';exact⟨_,es',ep',hL,r'⟩) aQ I.bare
theorem Inv.call{t':Nat}{d':Drawn}{ch:List Addr}(I:Inv X pins σ H s)(u:Un (ya X.stack) ch H H' s.heap h')(aQ:iq X.prog X.w H' h')(hg:AllBare g')
  (hch:∀b∈ch,(b∈X.ex\/X.s₀.heap.objs.size<=b)/\b≠X.env.locals/\(∀x c,X.env.cells.lookup x=some c->c≠b)/\∀p∈X.pn++pins,p.1≠b) :
  Inv X pins σ H' {s with heap:=h',gens:=g',drawn:=d',toks:=t'}:=by
 obtain⟨m,⟨o,es,ep,ho,r⟩,_⟩:=id I.loc;obtain⟨sl,hL⟩:=u.any ho I.free λz=>(hch _ z).2.1 rfl;exact I.step (ch:=ch) hch (λb o hL hb hc e n=>u.keep b o e n (λz=>(J9.mp (I.nJ b z)).elim hL hb) hc) (λb o _ _ hc e n=>u.any e n hc) (λb o hc e n=>u.free b o e n hc) (λb o hc e=>u.there b o e hc) u.pw u.nB u.mi (λm' hm=>by
  obtain⟨o',es',ep',ho',r'⟩:=hm;rw[ho] at ho';cases ho';exact⟨_,es',ep',hL,r'⟩) aQ hg
theorem Inv.turned{t':Nat}{it:Addr}(I:Inv X pins σ H s)(k:∀b o,b≠it->s.heap.get? b=some o->h'.get? b=some o)(hn:H it=none)(hL:it≠X.env.locals)
  (h1:it∈X.ex\/X.s₀.heap.objs.size<=it) (h2:∀x c,X.env.cells.lookup x=some c->c≠it) (h3:∀p∈X.pn++pins,p.1≠it):Inv X pins σ H {s with heap:=h',toks:=t'}:=by
 have nit:∀b u,H b=some u->b≠it:=λb u e z=>by rw[z,hn] at e;cases e
 refine I.step (g':=s.gens) (d':=s.drawn) (ch:=[it]) (λb hb=>?_) (λb o _ _ hc e _=>k b o (λz=>hc (by simp[z])) e) (λb o _ _ hc e _=>⟨o.slots,k b o (λz=>hc (by simp[z])) e⟩) (λ_ _ _ _ n=>n)
  (λb o hc e=>⟨o,k b o (λz=>hc (by simp[z])) e⟩) (λ_ _ e=>e) (λ_ _ _ e=>e) (λb ps e=>⟨#[],by rw[e];simp⟩) (λm hm=>?_) (λb u e=>?_) I.bare
 ·have e:b=it:=by simpa using hb
  subst e;exact⟨h1,hL,h2,h3⟩
 ·obtain⟨o,es,ep,ho,r⟩:=hm;exact⟨o,es,ep,k _ o (KP hL) ho,r⟩
 ·refine (I.aQ b u e).n_ (λc v hc q=>k c v ?_ q) (λ_ q=>q) (λ_ _ q=>q) λ_ _ _ q=>q;rcases hc with z|z
  ·rw[z];exact nit b u e
  ·exact nit c _ z
theorem Inv.tok(I:Inv X pins σ H s)(t:Nat):Inv X pins σ H {s with toks:=t}:=I.un (h':=s.heap) (t':=t) Un.refl I.aQ
theorem Inv.kept{t':Nat}(I:Inv X pins σ H s)(k:∀b u,s.heap.get? b=some u->h'.get? b=some u):Inv X pins σ H {s with heap:=h',toks:=t'}:=I.un (Un.kept k) (I.aQ.kept k)
theorem Inv.laid{t':Nat}(I:Inv X pins σ H s)(k:∀b u,s.heap.get? b=some u->h'.get? b=some u)(hp:s.heap.objs.size<=a)(new:b9 X.prog X.w (upd H a o) h' a o):
  Inv X pins σ (upd H a o) {s with heap:=h',toks:=t'}:=I.un (Un.laid k hp (I.aQ.fresh hp)) (I.aQ.laid k hp new)
theorem Inv.write{x e:Addr}{t':Nat}(I:Inv X pins σ H s)(mu:Hz (H x))(he:e=x\/H e=some (.own x))(k:∀b u,b≠e->s.heap.get? b=some u->h'.get? b=some u)(heo:∃u,h'.get? e=some u)
  (new:b9 X.prog X.w (upd H x o) h' x o):Inv X pins σ (upd H x o) {s with heap:=h',toks:=t'}:=I.un (Un.write mu he k heo) (I.aQ.write mu he k heo new)
theorem Inv.oG{pins':List (Addr×Obj)}(I:Inv X pins σ H s)(h:∀p∈pins',s.heap.get? p.1=some p.2/\H p.1=none/\p.1≠X.env.locals/\p.1∉X.fs/\∀v,p.2.data≠.cell v):Inv X pins' σ H s:=
 ⟨I.ok,I.os,I.bare,I.base,I.loc,I.cell,I.free,I.fN,λp hp=>(K0.mp hp).elim (λz=>I.pin p (Lm _ z)) (h p),I.aQ,I.len⟩
theorem oW(hN:N.Nodup)(a:N[i]?=some x)(b:N[j]?=some x):i=j:=by
 obtain⟨h1,e1⟩:=J6.mp a;obtain⟨h2,e2⟩:=J6.mp b;exact (List.getElem_inj hN).mp (e1.trans e2.symm)
theorem mO{A:Around}{v:V}{Q:Unit->Shared->Prop}(I:Inv X pins σ H s)(hN:X.N.Nodup)(hi:X.N[i]?=some x)(hx:Loc X.env.scope x)(r:RelV v u)
  (h:∀s',Inv X pins (σ.set i (some v)) H s'->(∃a,Heap.SameBut a s.heap s'.heap/\(a=X.env.locals\/X.env.cells.lookup x=some a))->Q () s') (hf:autoParam (X.fn x=true\/X.env.scope.names.lookup x=some .local) ℜ2):wpAny M A (storeName X.env x u) Q E s:=by
 obtain⟨m,hn,hl⟩:=id I.loc;have hcls:(X.env.scope.kind == .class || (X.env.scope.kind == .module && X.env.locals != X.env.globals))=false:=by rw[I.ok.kind];rfl
 have hiσ:i<σ.length:=by rw[I.len];exact (J6.mp hi).1
 have FA:=I.FA;have tracked:∀{a:Addr} {h':Heap},(∃o,s.heap.get? a=some o/\H a=none)->Heap.SameBut a s.heap h'->iq X.prog X.w H h':=λ{a h'} ha hs b ob e=>by
  obtain⟨_,_,hfree⟩:=ha;refine (I.aQ b ob e).n_ (λc w' hc q=>(hs.2 c ?_).trans q) (λ_ q=>q) (λ_ _ q=>q) λ_ _ _ q=>q;rintro rfl;rcases hc with rfl|hc
  ·rw[hfree] at e;cases e
  ·rw[hfree] at hc;cases hc
 rcases hx with hk|hk
 ·refine wpAny_storeName_local hk hn (λh' hn' hs=>?_) hcls;obtain⟨oL,_,_,hoL,_⟩:=id hn;refine h _ ⟨I.ok,I.os,I.bare,⟨λb o e n hb hx=>?_,λb o e n hb hx=>?_,I.base.free,λb o e hx=>?_,I.base.pw,I.base.nB,I.base.mi⟩,⟨_,hn',λj y v' e1 e2 e3=>?_⟩,λy c e=>?_,I.free,I.fN,λp hp=>?_,tracked ⟨oL,hoL,I.free⟩ hs,by simpa using I.len⟩ ⟨_,hs,.inl rfl⟩
  ·exact (hs.2 b (JX (JZ (JP e) I.ok.above))).trans (I.base.keep b o e n hb hx)
  ·obtain⟨sl,e1⟩:=I.base.slot b o e n hb hx;exact⟨sl,(hs.2 b (JX (JZ (JP e) I.ok.above))).trans e1⟩
  ·obtain⟨o',e1⟩:=I.base.there b o e hx;exact⟨o',(hs.2 b (JX (JZ (JP e) I.ok.above))).trans e1⟩
  ·by_cases hj:j=i
   ·subst hj;rw[hi] at e1;cases e1;rw[LU hiσ] at e2;cases e2;exact⟨u,r,.inl ⟨hk,by simp⟩⟩
   ·rw[MX (KP hj)] at e2;obtain⟨u',r',q⟩:=hl j y v' e1 e2 e3;refine⟨u',r',?_⟩;rcases q with ⟨k,e⟩|⟨k,c,e,z⟩
    ·refine .inl ⟨k,?_⟩;have:y≠x:=λe=>hj (oW hN e1 (e ▸ hi));simp[this,e]
    ·exact .inr ⟨k,c,e,z.sameBut hs (FA y c e)⟩
  ·obtain⟨w',z⟩:=I.cell y c e;exact⟨w',z.sameBut hs (FA y c e)⟩
  ·obtain⟨e,n,ne,nf,d⟩:=I.pin p hp;exact⟨(hs.2 p.1 ne).trans e,n,ne,nf,d⟩
 ·have hfn:X.fn x=true:=by
   rcases hf with z|z
   ·exact z
   ·rw[z] at hk;cases hk
  obtain⟨c,hc⟩:=I.ok.has x (.inl hk);obtain⟨w',z⟩:=I.cell x c hc;refine wpAny_storeName_cell I.ok.kind hk hc z (λh' hc' hs=>?_);obtain⟨oc,hoc,hocd⟩:=id z;refine h {s with heap:=h'} ⟨I.ok,I.os,I.bare,⟨λb o e n hb hx=>?_,λb o e n hb hx=>?_,I.base.free,λb o e hx=>?_,I.base.pw,I.base.nB,I.base.mi⟩,⟨m,hn.sameBut hs (KP (FA x c hc)),λj y v' e1 e2 e3=>?_⟩,λy c' e=>?_,I.free,I.fN,λp hp=>?_,tracked ⟨oc,hoc,I.fN x c hc⟩ hs,by simpa using I.len⟩ ⟨c,hs,.inr hc⟩
  ·exact (hs.2 b (JX (JZ (JP e) (I.ok.GX x c hfn hc)))).trans (I.base.keep b o e n hb hx)
  ·obtain⟨sl,e1⟩:=I.base.slot b o e n hb hx;exact⟨sl,(hs.2 b (JX (JZ (JP e) (I.ok.GX x c hfn hc)))).trans e1⟩
  ·obtain⟨o',e1⟩:=I.base.there b o e hx;exact⟨o',(hs.2 b (JX (JZ (JP e) (I.ok.GX x c hfn hc)))).trans e1⟩
  ·by_cases hj:j=i
   ·subst hj;rw[hi] at e1;cases e1;rw[LU hiσ] at e2;cases e2;exact⟨u,r,.inr ⟨.inl hk,c,hc,hc'⟩⟩
   ·rw[MX (KP hj)] at e2;obtain⟨u',r',q⟩:=hl j y v' e1 e2 e3;refine⟨u',r',?_⟩;rcases q with q|⟨k,c',e,z'⟩
    ·exact .inl q
    ·refine .inr ⟨k,c',e,z'.sameBut hs ?_⟩;rintro rfl;exact hj (oW hN e1 (I.ok.inj _ _ _ e hc ▸ hi))
  ·by_cases hcc:c'=c
   ·subst hcc;exact⟨_,hc'⟩
   ·obtain⟨w2,z2⟩:=I.cell y c' e;exact⟨w2,z2.sameBut hs hcc⟩
  ·obtain⟨e,n,ne,nf,d⟩:=I.pin p hp;refine⟨(hs.2 p.1 ?_).trans e,n,ne,nf,d⟩;intro q;rw[q,hoc] at e;have q':oc=p.2:=Option.some.inj e;exact d w' (by rw[<- q'];exact hocd)
theorem oN{A:Around}{v:V}{Q:Unit->Shared->Prop}(I:Inv X pins σ H s)(hN:X.N.Nodup)(hi:X.N[i]?=some x)(hx:Loc X.env.scope x)(r:RelV v u)
  (h:∀s',Inv X pins (σ.set i (some v)) H s'->Q () s') (hf:autoParam (X.fn x=true\/X.env.scope.names.lookup x=some .local) ℜ2):wpAny M A (storeName X.env x u) Q E s:=
 mO I hN hi hx r (λs' I' _=>h s' I') hf
theorem Inv.Gi(I:Inv X pins σ H s)(ho:s'.os=s.os)(u:Un (ya X.stack) ch H H' s.heap s'.heap)(aQ:iq X.prog X.w H' s'.heap)(hg:AllBare s'.gens)
  (hch:∀b∈ch,(b∈X.ex\/X.s₀.heap.objs.size<=b)/\b≠X.env.locals/\(∀x c,X.env.cells.lookup x=some c->c≠b)/\∀p∈X.pn++pins,p.1≠b):Inv X pins σ H' s':=by
 obtain⟨h',g',d',t',o'⟩:=s';have e:o'=s.os:=ho;subst e;exact I.call (g':=g') (t':=t') (d':=d') u aQ hg hch
end
abbrev XK:=Value->Option Addr->Hp->Prop
abbrev St:=List (Option V)
variable{σ:St}
abbrev VK:=V->Hp->Prop
abbrev TE:=St->Hp->VK->Prop
abbrev TT:=St->Hp->(Bool->Hp->Prop)->Prop
abbrev TA:=St->Hp->(List V->Hp->Prop)->Prop
structure Ends where
 nx:St->Hp->Prop
 rt:VK
 bk:St->Hp->Prop:=λ_ _=>False
 ct:St->Hp->Prop:=λ_ _=>False
variable{D:Ends}
abbrev TS:=Ends->St->Hp->Prop
variable{tb:TS}
noncomputable def EP(X:Cx)(pins:List (Addr×Obj))(σ:St)(Q:VK)(u:Value)(s':Shared):Prop:=∃v H',Inv X pins σ H' s'/\RelV v u/\Q v H'
noncomputable def TP(X:Cx)(pins:List (Addr×Obj))(σ:St)(Q:Bool->Hp->Prop)(b:Bool)(s':Shared):Prop:=∃H',Inv X pins σ H' s'/\Q b H'
noncomputable def AP(X:Cx)(pins:List (Addr×Obj))(σ:St)(Q:List V->Hp->Prop)(us:List Value)(s':Shared):Prop:=∃vs H',Inv X pins σ H' s'/\Vals vs us/\Q vs H'
noncomputable def SP(X:Cx)(pins:List (Addr×Obj))(D:Ends)(f:Flow)(s':Shared):Prop:=
 match f with
 |.next=>∃σ' H',Inv X pins σ' H' s'/\D.nx σ' H'
 |.brk=>∃σ' H',Inv X pins σ' H' s'/\D.bk σ' H'
 |.cont=>∃σ' H',Inv X pins σ' H' s'/\D.ct σ' H'
 |.ret u=>∃v σ' H',Inv X pins σ' H' s'/\RelV v u/\D.rt v H'
noncomputable def PE(X:Cx)(e:Expr)(t:TE):Prop:=
 ∀(pins:List (Addr×Obj)) (s:Shared) (σ:St) (H:Hp) (Q:VK),Inv X pins σ H s->t σ H Q->wpAny (model X.prog X.w) X.A (eval e X.env) (EP X pins σ Q) X.xe s
noncomputable def PT(X:Cx)(e:Expr)(t:TT):Prop:=
 ∀(pins:List (Addr×Obj)) (s:Shared) (σ:St) (H:Hp) (Q:Bool->Hp->Prop),Inv X pins σ H s->t σ H Q->wpAny (model X.prog X.w) X.A (isTrue e X.env (eval e X.env)) (TP X pins σ Q) X.xe s
noncomputable def PW(X:Cx)(e:Expr)(t:TT):Prop:=
 ∀(whole:Sem Value) (pins:List (Addr×Obj)) (s:Shared) (σ:St) (H:Hp) (Q:Bool->Hp->Prop),Inv X pins σ H s->t σ H Q->wpAny (model X.prog X.w) X.A (isTrue e X.env whole) (TP X pins σ Q) X.xe s
theorem PW.pt{t:TT}(h:PW X e t):PT X e t:=h _
noncomputable def PA(X:Cx)(es:List Expr)(t:TA):Prop:=
 ∀(pos:Pos) (pins:List (Addr×Obj)) (s:Shared) (σ:St) (H:Hp) (Q:List V->Hp->Prop),Inv X pins σ H s->t σ H Q->wpAny (model X.prog X.w) X.A (spliced (backTo pos (starEach es X.env))) (AP X pins σ Q) X.xe s
noncomputable def PS(X:Cx)(st:Stmt)(t:TS):Prop:=
 ∀(pins:List (Addr×Obj)) (s:Shared) (σ:St) (H:Hp) (D:Ends),Inv X pins σ H s->t D σ H->wpAny (model X.prog X.w) X.A (exec st X.env) (SP X pins D) X.xe s
noncomputable def rK(X:Cx)(st:List Stmt)(t:TS):Prop:=
 ∀(pins:List (Addr×Obj)) (s:Shared) (σ:St) (H:Hp) (D:Ends),Inv X pins σ H s->t D σ H->wpAny (model X.prog X.w) X.A (execs st X.env) (SP X pins D) X.xe s
theorem cp{α:Type}{t:Sem α}{Q Q':α->Shared->Prop}{A:Around}{s:Shared}(h:wpAny M A t Q E s)(hQ:∀a s,Q a s->Q' a s):wpAny M A t Q' E s:=K5 h hQ λ_ _ x=>x
section
variable {X:Cx}
noncomputable def u_(i:Nat):TE:=λσ H Q=>∃v,σ[i]?=some (some v)/\Q v H
noncomputable def tC(v:V):TE:=λ_ H Q=>Q v H
theorem EG{pos:Pos}(hN:X.N[i]?=some x)(hv:GS X.env.scope x)(hd:autoParam ((x ==("__debug__":Str))=false) ℜ1)(fK:autoParam ((x ==("__classdict__":Str))=false) ℜ1):PE X (.Name x pos) (u_ i):=by
 intro pins s σ H Q I h;obtain⟨v,e,h⟩:=h;obtain⟨m,hn,hl⟩:=I.loc;obtain⟨u,r,l⟩:=hl i x v hN e hv;have fin:EP X pins σ Q u s:=⟨v,H,I,r,h⟩;rcases l with ⟨hk,hm⟩|⟨hk,c,hc,hcell⟩
 ·exact wpAny_Name (wpAny_loadName_local I.ok.kind hk hn hm fin) hd
 ·rcases hk with hk|hk
  ·exact wpAny_Name (wpAny_loadName_cell I.ok.kind hk hc hcell fin) hd
  ·exact wpAny_Name (wpAny_loadName_free I.ok.kind hk hc hcell fin fK) hd
theorem zq{i j pos}:PE X (.Constant (.int i) j pos) (tC (.int i)):=λ_ _ _ H _ I h=>wpAny_Constant_int ⟨.int i,H,I.tok _,⟨_,rfl⟩,h⟩
theorem CM{b j pos}:PE X (.Constant (.bool b) j pos) (tC (.bl b)):=λ_ _ _ H _ I h=>Constant_bool ⟨.bl b,H,I,rfl,h⟩
theorem yB{j pos}:PE X (.Constant .none j pos) (tC .aR):=λ_ _ _ H _ I h=>Constant_none ⟨.aR,H,I,rfl,h⟩
theorem zr{x j pos}:PE X (.Constant (.str x) j pos) (tC (.str x)):=λ_ _ _ H _ I h=>Calls.Constant_str ⟨.str x,H,I.tok _,⟨_,rfl⟩,h⟩
noncomputable def Gl(X:Cx)(x:Str):Prop:=X.env.kindOf x=some .globalImplicit
theorem nj{s:Shared}{pos:Pos}(I:Inv X pins σ H s)(hg:Gl X x)(hm:X.mg x=some u)(h:Q u s)
  (hd:autoParam ((x ==("__debug__":Str))=false) ℜ1):wpAny (model X.prog X.w) X.A (eval (.Name x pos) X.env) Q E s:=
 N2 I.ok.kind hg (Calls.loadGlobal_global (by rw[I.ok.glob];exact I.mod.glob.keeps I.bk) hm h) hd
theorem gj{s:Shared}{pos:Pos}(I:Inv X pins σ H s)(hg:Gl X x)(hm:X.mg x=none)(hv:bootBuiltins x=some u)(h:Q u s)
  (hn:autoParam (x≠"__name__") ℜ1) (hd:autoParam ((x ==("__debug__":Str))=false) ℜ1):wpAny (model X.prog X.w) X.A (eval (.Name x pos) X.env) Q E s:=by
 obtain⟨mb,h1,h2⟩:=I.mod.blt;exact N2 I.ok.kind hg (Calls.loadGlobal_builtin (by rw[I.ok.glob];exact I.mod.glob.keeps I.bk) hm (by rw[I.ok.blt];exact h1.keeps I.bk) ((h2 x hn).trans hv) h) hd
theorem sS{v:V}{pos:Pos}(hg:Gl X x)(hm:X.mg x=some u)(r:RelV v u)(hd:autoParam ((x ==("__debug__":Str))=false) ℜ1):PE X (.Name x pos) (tC v):=
 λ_ _ _ H _ I h=>nj I hg hm ⟨v,H,I,r,h⟩ hd
theorem Cv{v:V}{pos:Pos}(hg:Gl X x)(hm:X.mg x=none)(hv:bootBuiltins x=some u)(r:RelV v u)(hn:autoParam (x≠"__name__") ℜ1)(hd:autoParam ((x ==("__debug__":Str))=false) ℜ1):PE X (.Name x pos) (tC v):=
 λ_ _ _ H _ I h=>gj I hg hm hv ⟨v,H,I,r,h⟩ hn hd
variable {a b:Expr} {ta tb:TE} {pos:Pos}
variable {tA tB':TT} {rest:List Expr}
noncomputable def xy(t u:TT):TT:=λσ H Q=>t σ H λc H1=>if c=true then u σ H1 Q else Q false H1
noncomputable def FX(t u:TT):TT:=λσ H Q=>t σ H λc H1=>if c=true then Q true H1 else u σ H1 Q
noncomputable def x9(t:TT):TT:=λσ H Q=>t σ H λc H1=>Q (!c) H1
theorem C6(ha:PT X a tA):PW X (.BoolOp .And [a] pos) tA:=by
 intro wh pins s σ H Q I h;refine isTrue_and (cp (ha pins s σ H Q I h) λc s1 e=>?_)
 cases c with
 |true=>exact isTrue_and_nil e
 |false=>exact e
theorem Fe(ha:PT X a tA):PW X (.BoolOp .Or [a] pos) tA:=by
 intro wh pins s σ H Q I h;refine isTrue_or (cp (ha pins s σ H Q I h) λc s1 e=>?_)
 cases c with
 |false=>exact isTrue_or_nil e
 |true=>exact e
theorem Dl(ha:PT X a tA)(hb:PW X (.BoolOp .And (b::rest) pos) tB'):PW X (.BoolOp .And (a::b::rest) pos) (xy tA tB'):=by
 intro wh pins s σ H Q I h;refine isTrue_and (cp (ha pins s σ H _ I h) λc s1 hq7=>?_);obtain⟨H1,I1,q1⟩:=hq7
 cases c with
 |true=>exact hb wh pins s1 σ H1 Q I1 q1
 |false=>exact⟨H1,I1,q1⟩
theorem G5(ha:PT X a tA)(hb:PW X (.BoolOp .Or (b::rest) pos) tB'):PW X (.BoolOp .Or (a::b::rest) pos) (FX tA tB'):=by
 intro wh pins s σ H Q I h;refine isTrue_or (cp (ha pins s σ H _ I h) λc s1 hq8=>?_);obtain⟨H1,I1,q1⟩:=hq8
 cases c with
 |true=>exact⟨H1,I1,q1⟩
 |false=>exact hb wh pins s1 σ H1 Q I1 q1
theorem Es(ha:PT X a tA):PT X (.UnaryOp .Not a pos) (x9 tA):=by
 intro pins s σ H Q I h;exact isTrue_not (ha pins s σ H (λc H1=>Q (!c) H1) I h)
noncomputable def Gq(t:TT)(ta tb:TE):TE:=λσ H Q=>t σ H λc H1=>if c=true then ta σ H1 Q else tb σ H1 Q
theorem zk{c:Expr}(hc:PT X c tA)(ha:PE X a ta)(hb:PE X b tb):PE X (.IfExp c a b pos) (Gq tA ta tb):=by
 intro pins s σ H Q I h;refine wpAny_IfExp (cp (hc pins s σ H _ I h) λd s1 hq12=>?_);obtain⟨H1,I1,q1⟩:=hq12
 cases d with
 |true=>exact ha pins s1 σ H1 Q I1 q1
 |false=>exact hb pins s1 σ H1 Q I1 q1
end
noncomputable def bI(K:W.Frag)(H:Hp)(a:Addr)(xs:List V):Prop:=
 Rd H a (.lst xs) \/
  ∃(o:Obj) (its:Array Value) (n:Nat),K.lookup a=some o/\o.cls=.type "list"/\o.dict=none/\o.data=.seq its n/\its.size<=sizeLine/\Vals xs its.toList
noncomputable def bz(K:W.Frag)(H:Hp)(a:Addr)(xs:List V):Prop:=
 Rd H a (.tup xs) \/
  ∃(o:Obj) (its:Array Value) (n:Nat),K.lookup a=some o/\o.cls=.type "tuple"/\o.data=.seq its n/\its.size<=sizeLine/\Vals xs its.toList
noncomputable def IV:Value->Option V
 |.none=>some .aR
 |.bool b=>some (.bl b)
 |.int i _=>some (.int i)
 |.str x _=>some (.str x)
 |.bytes b _=>some (.qK b)
 |.float b _=>some (.Dh b)
 |.ref a=>some (.ref a)
 |.type n=>some (.ty n)
 |_=>none
theorem RelV.abs{x:V}(r:RelV x u):IV u=some x:=by
 cases x with
 |aR=>cases r;rfl
 |bl _=>cases r;rfl
 |int _=>obtain⟨t,rfl⟩:=r;rfl
 |str _=>obtain⟨t,rfl⟩:=r;rfl
 |qK _=>obtain⟨t,rfl⟩:=r;rfl
 |Dh _=>obtain⟨t,rfl⟩:=r;rfl
 |ref _=>cases r;rfl
 |ty _=>cases r;rfl
theorem RelV.inj{x y:V}(r:RelV x u)(q:RelV y u):x=y:=Option.some.inj (r.abs.symm.trans q.abs)
theorem Vals.inj:∀{xs ys:List V} {us:List Value},Vals xs us->Vals ys us->xs=ys
 |_,_,_,.nil,.nil=>rfl
 |_,_,_,.cons r t,.cons r' t'=>by rw[r.inj r',Vals.inj t t']
section
variable {X:Cx} {pins:List (Addr×Obj)} {σ:St} {H:Hp} {s:Shared} {a:Addr} {xs ys:List V}
theorem bI.of(h:H a=some (.lst xs)):bI K H a xs:=.inl (.inl h)
theorem bz.of(h:H a=some (.tup xs)):bz K H a xs:=.inl (.inl h)
theorem Inv.list(I:Inv X pins σ H s)(h:bI X.K H a xs):∃its:List Value,Vals xs its/\PlainL s.heap a its.toArray/\xs.length<=sizeLine:=by
 rcases h with h|⟨o,its,n,hk,hc,hd,hs,hz,r⟩
 ·obtain⟨z,its,n,r,e⟩:=h.ok I.aQ;exact⟨its,r,⟨_,n,e,rfl,rfl,rfl⟩,z⟩
 ·refine⟨its.toList,r,⟨o,n,I.iP a o hk,hc,hd,by simpa using hs⟩,?_⟩
  have e:=r.length;simp only[Km] at e;lia
theorem Inv.tuple(I:Inv X pins σ H s)(h:bz X.K H a xs):∃its:List Value,Vals xs its/\IsTup s.heap a its.toArray/\xs.length<=sizeLine:=by
 rcases h with h|⟨o,its,n,hk,hc,hs,hz,r⟩
 ·obtain⟨z,its,r,p⟩:=h.ok I.aQ;exact⟨its,r,p.to,z⟩
 ·refine⟨its.toList,r,⟨o,I.iP a o hk,hc,n,by simpa using hs⟩,?_⟩
  have e:=r.length;simp only[Km] at e;lia
theorem Inv.km(I:Inv X pins σ H s)(h:bI X.K H a xs)(h':bI X.K H a ys):xs=ys:=by
 obtain⟨its,r,⟨o,n,e,_,_,d⟩,_⟩:=I.list h;obtain⟨its',r',⟨o',n',e',_,_,d'⟩,_⟩:=I.list h';rw[e] at e';cases e';rw[d] at d'
 injection d' with d1 _
 have:its=its':=by simpa using Kt Array.toList d1
 subst this;exact r.inj r'
theorem Inv.jd(I:Inv X pins σ H s)(h:bz X.K H a xs)(h':bz X.K H a ys):xs=ys:=by
 obtain⟨its,r,⟨o,e,_,n,d⟩,_⟩:=I.tuple h;obtain⟨its',r',⟨o',e',_,n',d'⟩,_⟩:=I.tuple h';rw[e] at e';cases e';rw[d] at d'
 injection d' with d1 _
 have:its=its':=by simpa using Kt Array.toList d1
 subst this;exact r.inj r'
end
abbrev Cx.mq(X:Cx)(E:Value->Shared->Prop):Cx:={X with xe:=E}
abbrev Cx.qG(X:Cx):Cx:=X.mq λ_ _=>False
theorem Cx.Ok.mq(ok:X.Ok)(E:Value->Shared->Prop):(X.mq E).Ok:=
 ⟨ok.mod,ok.kind,ok.glob,ok.blt,ok.above,ok.inj,ok.has,ok.GX,ok.hd,ok.frames,ok.HZ,ok.Je,ok.bs,ok.Am,ok.zv,ok.Cy,ok.jG,ok.Ds,ok.tabs⟩
theorem Cx.Ok.fW(ok:(X.mq E).Ok):X.Ok:=
 ⟨ok.mod,ok.kind,ok.glob,ok.blt,ok.above,ok.inj,ok.has,ok.GX,ok.hd,ok.frames,ok.HZ,ok.Je,ok.bs,ok.Am,ok.zv,ok.Cy,ok.jG,ok.Ds,ok.tabs⟩
section
variable {X:Cx} {pins:List (Addr×Obj)} {σ:St} {H:Hp} {s:Shared} {E:Value->Shared->Prop}
theorem Inv.mq(I:Inv X pins σ H s)(E:Value->Shared->Prop):Inv (X.mq E) pins σ H s:=⟨I.ok.mq E,I.os,I.bare,I.base,I.loc,I.cell,I.free,I.fN,I.pin,I.aQ,I.len⟩
theorem Inv.fW(I:Inv (X.mq E) pins σ H s):Inv X pins σ H s:=⟨I.ok.fW,I.os,I.bare,I.base,I.loc,I.cell,I.free,I.fN,I.pin,I.aQ,I.len⟩
theorem SP.fW{f:Flow}(h:SP (X.mq E) pins D f s'):SP X pins D f s':=by
 cases f with
 |next=>obtain⟨σ',H',I,q⟩:=h;exact⟨σ',H',I.fW,q⟩
 |brk=>obtain⟨σ',H',I,q⟩:=h;exact⟨σ',H',I.fW,q⟩
 |cont=>obtain⟨σ',H',I,q⟩:=h;exact⟨σ',H',I.fW,q⟩
 |ret u=>obtain⟨v,σ',H',I,r,q⟩:=h;exact⟨v,σ',H',I.fW,r,q⟩
theorem rK.qG{st:List Stmt}{t:TS}(h:rK X.qG st t):rK X st t:=λpins s σ H D I hw =>
 K5 (h pins s σ H D (I.mq _) hw) (λ_ _ q=>q.fW) λ_ _ z=>False.elim z
end
section
variable {X:Cx} {st:Stmt} {rest:List Stmt} {t u:TS} {e:Expr} {te:TE} {pos:Pos}
noncomputable def oZ:TS:=λD σ H=>D.nx σ H
noncomputable def q_(t u:TS):TS:=λD σ H=>t {D with nx:=u D} σ H
theorem Ax:rK X [] oZ:=λ_ _ σ H _ I h=>MY ⟨σ,H,I,h⟩
theorem yV(h1:PS X st t)(h2:rK X rest u):rK X (st::rest) (q_ t u):=by
 intro pins s σ H D I h;refine wpAny_execs_cons (cp (h1 pins s σ H {D with nx:=u D} I h) λf s1 q=>?_)
 cases f with
 |next =>
  obtain⟨σ',H',I',q⟩:=q;exact h2 pins s1 σ' H' D I' q
 |ret v=>exact q
 |brk=>exact q
 |cont=>exact q
theorem AZ(h1:PS X st t):rK X [st] t:=by
 intro pins s σ H D I h;refine wpAny_execs_cons (cp (h1 pins s σ H D I h) λf s1 q=>?_)
 cases f with
 |next=>exact MY q
 |ret v=>exact q
 |brk=>exact q
 |cont=>exact q
theorem Inv.quiet{s:Shared}(I:Inv X pins σ H s):interactive X.env=false:=by simp[interactive,I.ok.kind]
noncomputable def qc(te:TE):TS:=λD σ H=>te σ H λ_ H1=>D.nx σ H1
theorem Bg(he:PE X e te)(hs:autoParam (swapsWith e none pos.line X.env=pure false) ℜ0):PS X (.Expr e pos) (qc te):=by
 intro pins s σ H D I h;exact wpAny_Expr_any (cp (he pins s σ H _ I h) λv s1 ⟨x,H1,I1,r1,q1⟩=>⟨σ,H1,I1,q1⟩) I.quiet hs
noncomputable def yP(te:TE):TS:=λD σ H=>te σ H D.rt
theorem Et(he:PE X e te):PS X (.Return (some e) pos) (yP te):=by
 intro pins s σ H D I h;exact wpAny_Return_some (cp (he pins s σ H _ I h) λv s1 ⟨x,H1,I1,r1,q1⟩=>⟨x,σ,H1,I1,r1,q1⟩)
noncomputable def nG(c:TT)(t u:TS):TS:=λD σ H=>c σ H λb H1=>if b=true then t D σ H1 else u D σ H1
theorem HM{c:Expr}{a b:List Stmt}{tc:TT}(hc:PT X c tc)(ha:rK X a t)(hb:rK X b u):PS X (.If c a b pos) (nG tc t u):=by
 intro pins s σ H D I h;refine wpAny_If (cp (hc pins s σ H _ I h) λd s1 hq13=>?_);obtain⟨H1,I1,q1⟩:=hq13
 cases d with
 |true=>exact ha pins s1 σ H1 D I1 q1
 |false=>exact hb pins s1 σ H1 D I1 q1
end
abbrev TG:=V->St->Hp->(St->Hp->Prop)->Prop
abbrev wF:=List V->St->Hp->(St->Hp->Prop)->Prop
noncomputable def PG(X:Cx)(target:Expr)(t:TG):Prop:=
 ∀(pins:List (Addr×Obj)) (s:Shared) (σ:St) (H:Hp) (v:V) (u:Value) (Q:St->Hp->Prop),Inv X pins σ H s->RelV v u->t v σ H Q ->
  wpAny (model X.prog X.w) X.A (assign target X.env u) (λ_ s'=>∃σ' H',Inv X pins σ' H' s'/\Q σ' H') X.xe s
noncomputable def GU(X:Cx)(ts:List Expr)(t:wF):Prop:=
 ∀(pins:List (Addr×Obj)) (s:Shared) (σ:St) (H:Hp) (vs:List V) (us:List Value) (Q:St->Hp->Prop),Inv X pins σ H s->Vals vs us->t vs σ H Q ->
  wpAny (model X.prog X.w) X.A (assignInOrder ((assignEach ts X.env).map (·.2)) us) (λ_ s'=>∃σ' H',Inv X pins σ' H' s'/\Q σ' H') X.xe s
abbrev B4:=V->V->V->Hp->(Hp->Prop)->Prop
noncomputable def EH(X:Cx)(t:B4):Prop:=
 ∀(pins:List (Addr×Obj)) (s:Shared) (σ:St) (H:Hp) (o i v:V) (ov iv u:Value) (Q:Hp->Prop),Inv X pins σ H s->RelV o ov->RelV i iv->RelV v u->t o i v H Q ->
  wpAny (model X.prog X.w) X.A (setItem ov iv u) (λ_ s'=>∃H',Inv X pins σ H' s'/\Q H') X.xe s
section
variable {X:Cx} {pos:Pos}
noncomputable def b6(i:Nat):TG:=λv σ H Q=>Q (σ.set i (some v)) H
theorem BR(hN:X.N.Nodup)(hi:X.N[i]?=some x)(hx:Loc X.env.scope x)(hf:autoParam (X.fn x=true\/X.env.scope.names.lookup x=some .local) ℜ2):PG X (.Name x pos) (b6 i):=by
 intro pins s σ H v u Q I r h;exact wpAny_assign_Name (oN I hN hi hx r (λs' I'=>⟨_,H,I',h⟩) hf)
noncomputable def nK:wF:=λvs σ H Q=>vs=[]/\Q σ H
noncomputable def fq(t:TG)(u:wF):wF:=λvs σ H Q=>∃v r,vs=v::r/\t v σ H λσ' H'=>u r σ' H' Q
theorem BL:GU X [] nK:=by
 intro pins s σ H vs us Q I r h;obtain⟨e,h⟩:=h;subst e;cases r;exact assignInOrder_nil ⟨σ,H,I,h⟩
theorem zA{t:TG}{u:wF}(h1:PG X e t)(h2:GU X es u)
  (hs:autoParam ((assignEach (e::es) X.env).map (·.2)=assign e X.env::(assignEach es X.env).map (·.2)) ℜ0):GU X (e::es) (fq t u):=by
 intro pins s σ H vs us Q I r h;obtain⟨v,vr,e1,h⟩:=h;subst e1
 cases r with
 |cons r rr =>
  rw[hs];refine assignInOrder_cons (cp (h1 pins s σ H _ _ _ I r h) λ_ s1 hq14=>?_);obtain⟨σ1,H1,I1,q1⟩:=hq14;exact h2 pins s1 σ1 H1 _ _ Q I1 rr q1
noncomputable def nM(K:W.Frag)(n:Nat)(t:wF):TG:=λv σ H Q=>∃a xs,v=.ref a/\bz K H a xs/\xs.length=n/\t xs σ H Q
theorem Dm{k:Nat}{t:wF}{n:Nat}(hc:X.calm=true)(h:GU X es t)
  (hn:autoParam ((assignEach es X.env).length=n) ℜ0) (hst:autoParam ((assignEach es X.env).findIdx? (·.1)=none) ℜ0):PG X (.Tuple es k pos) (nM X.K n t):=by
 intro pins s σ H v u Q I r hw;obtain⟨a,xs,e1,hq,hl,hw⟩:=hw;subst e1;cases r;obtain⟨its,rv,ht,hz⟩:=I.tuple hq;refine assign_Tuple_tuple (I.ok.hd hc) ht (by simp[hn,<- hl,rv.length]) hst λh' hx=>?_
 have I1:Inv X pins σ H {s with heap:=h'}:=I.kept (t':=s.toks) λb o e=>hx b o (JX (JP e)) e
 exact h pins _ σ H xs _ Q I1 (by simpa using rv) hw
noncomputable def xo(to ti:TE)(t:B4):TG:=λv σ H Q=>to σ H λo H1=>ti σ H1 λi H2=>t o i v H2 λH3=>Q σ H3
theorem Ff{o i:Expr}{to ti:TE}{t:B4}(ho:PE X o to)(hi:PE X i ti)(hs:EH X t)
  (ha:autoParam (∀v,assign (.Subscript o i pos) X.env v=(do
   let ov <- holding [v] (eval o X.env)
   let iv <- holding [v,ov] (eval i X.env)
   standAt pos
   holding [v,ov,iv] (setItem ov iv v)
   release [v,ov,iv] [])) ℜ3):PG X (.Subscript o i pos) (xo to ti t):=by
 intro pins s σ H v u Q I r h;rw[ha];refine Jy (KH (cp (ho pins s σ H _ I h) λov s1 hq15=>?_));obtain⟨x,H1,I1,r1,q1⟩:=hq15;refine Jy (KH (cp (hi pins s1 σ H1 _ I1 q1) λiv s2 hq16=>?_));obtain⟨y,H2,I2,r2,q2⟩:=hq16;refine Jy (N3 (Jy (KH (cp (hs pins s2 σ H2 x y v ov iv u _ I2 r1 r2 r q2) λ_ s3 hq17=>?_))));obtain⟨H3,I3,q3⟩:=hq17;exact wpAny_release ⟨σ,H3,I3,q3⟩
noncomputable def jD(te:TE)(g:TG):TS:=λD σ H=>te σ H λx H1=>g x σ H1 D.nx
theorem DH{te:TE}{g:TG}(he:PE X e te)(hg:PG X tg g)(hs:autoParam (swapsWithSole [tg] e pos.line X.env=pure false) ℜ0)(hw:autoParam (swappedStores [tg] e X.env=pure none) ℜ0)
  (h1:autoParam ((assignEach [tg] X.env).map (·.2)=[assign tg X.env]) ℜ0):PS X (.Assign [tg] e pos) (jD te g):=by
 intro pins s σ H D I h;refine wpAny_Assign_stores (cp (he pins s σ H _ I h) λv s1 hq18=>?_) hs hw;obtain⟨x,H1,I1,r1,q1⟩:=hq18;rw[h1];exact cp (hg pins s1 σ H1 x v _ I1 r1 q1) λ_ s2 q=>q
theorem Fi{te:TE}{pos':Pos}(hN:X.N.Nodup)(hi:X.N[i]?=some x)(hx:Loc X.env.scope x)(he:PE X e te)(hs:autoParam (swapsWith e (some (.Name x pos')) pos.line X.env=pure false) ℜ0)(hf:autoParam (X.fn x=true\/X.env.scope.names.lookup x=some .local) ℜ2):
  PS X (.Assign [.Name x pos'] e pos) (jD te (b6 i)):=by
 intro pins s σ H D I h;refine wpAny_Assign_Name (cp (he pins s σ H _ I h) λv s1 hq19=>?_) hs;obtain⟨y,H1,I1,r1,q1⟩:=hq19;exact oN I1 hN hi hx r1 (λs2 I2=>⟨_,H1,I2,q1⟩) hf
end
section
variable {X:Cx} {pos:Pos}
noncomputable def xE(c:TT)(tb:TS):TS:=λD σ H=>∃W:Nat->St->Hp->Prop,(∃m,W m σ H)/\∀m σ H,W m σ H ->
 c σ H λb H1=>if b=true then ∃N:St->Hp->Prop,(∀σ' H',N σ' H'->∃m',m'<m/\W m' σ' H')/\tb {D with nx:=N,ct:=N,bk:=D.nx} σ H1 else D.nx σ H1
theorem wM{c:Expr}{tc:TT}(hp:PassesOwn (model X.prog X.w) X.A X.env X.xe)(hc:PT X c tc)(hb:rK X body tb):PS X (.While c body [] pos) (xE tc tb):=by
 intro pins s σ H D I h;obtain⟨W,⟨m0,w0⟩,turn⟩:=h;refine wpAny_While (codeAny_whileLoop (λn s'=>∃σ' H',Inv X pins σ' H' s'/\W n σ' H') ?_ m0 ⟨σ,H,I,w0⟩);rintro n s1 ⟨σ1,H1,I1,w1⟩;refine L3 hp (cp (hc pins s1 σ1 H1 _ I1 (turn n σ1 H1 w1)) λb s2 hq28=>?_);obtain⟨H2,I2,q2⟩:=hq28
 cases b with
 |true =>
  obtain⟨N,hN,q2⟩:=q2;rw[JE rfl];refine L3 hp (cp (hb pins s2 σ1 H2 _ I2 q2) λf s3 q3=>?_)
  cases f with
  |next =>
   obtain⟨σ3,H3,I3,n3⟩:=q3;obtain⟨m',hm,w3⟩:=hN σ3 H3 n3;exact⟨m',hm,σ3,H3,I3,w3⟩
  |cont =>
   obtain⟨σ3,H3,I3,n3⟩:=q3;obtain⟨m',hm,w3⟩:=hN σ3 H3 n3;exact⟨m',hm,σ3,H3,I3,w3⟩
  |brk=>exact q3
  |ret v=>exact q3
 |false =>
  rw[JA JO];exact MY ⟨σ1,H2,I2,q2⟩
end
structure It where
 go:Nat->Hp->Prop
 CW:Nat->Hp->V->Hp->Prop
 stop:Nat->Hp->Prop
noncomputable def me(X:Cx)(pins:List (Addr×Obj))(H:Hp)(b:Addr):Prop:=
 H b=none/\b≠X.env.locals/\b∉X.fs/\(b∈X.ex\/X.s₀.heap.objs.size<=b)/\(∀x c,X.env.cells.lookup x=some c->c≠b)/\∀p∈X.pn++pins,p.1≠b
theorem Inv.qm{H':Hp}{s:Shared}(I:Inv X pins σ H s)(hb:s.heap.objs.size<=b)(hn:H' b=none):me X pins H' b:=by
 refine⟨hn,K_ (JZ I.lt hb),I.Gn hb,.inr (JF I.sz hb),λx c e z=>?_,λp hp z=>?_⟩
 ·obtain⟨v,q⟩:=I.cell x c e;exact absurd (JZ q.lt (by rw[z];exact hb)) (KG _)
 ·exact absurd (JZ (JP (I.pin p hp).1) (by rw[z];exact hb)) (KG _)
structure Turn (P:Program) (w:World) (K:W.Frag) (tg:Expr) (J:It) (fp:List Addr) (it:Addr) (tn:Nat->Heap->Prop):Prop where
 mem:it∈fp
 obj:∀i h,tn i h->∀b∈fp,∃o,h.get? b=some o/\∀v,o.data≠.cell v
 keep:∀i h h',tn i h->(∀b∈fp,∀o,h.get? b=some o->h'.get? b=some o)->tn i h'
 item:∀(X:Cx),X.prog=P->X.w=w->X.K=K->X.calm=true->∀(i:Nat) (pins:List (Addr×Obj)) (s:Shared) (σ:St) (H:Hp) (E:Value->Shared->Prop),Inv X pins σ H s->(∀b∈fp,me X pins H b)->tn i s.heap->J.go i H ->
  wpAny (model P w) X.A (pyNext (.ref it)) (λr s1=>∃u,r=some u /\
   wpAny (model P w) X.A (letOwnedTupleGo tg (.ref it) u) (λ_ s2=>∃x H',Inv X pins σ H' s2/\RelV x u/\J.CW i H x H'/\tn (i+1) s2.heap/\∀b∈fp,H' b=none) E s1) E s
 done:∀(X:Cx),X.prog=P->X.w=w->X.K=K->X.calm=true->∀(i:Nat) (pins:List (Addr×Obj)) (s:Shared) (σ:St) (H:Hp) (E:Value->Shared->Prop),Inv X pins σ H s->(∀b∈fp,me X pins H b)->tn i s.heap->J.stop i H ->
  wpAny (model P w) X.A (pyNext (.ref it)) (λr s1=>r=none/\Inv X pins σ H s1) E s
 self:∀(A:Around) (i:Nat) (s:Shared) (Q:Value->Shared->Prop) (E:Value->Shared->Prop),tn i s.heap->Q (.ref it) s->wpAny (model P w) A (pyIter (.ref it)) Q E s
abbrev TI:=St->Hp->(It->Hp->Prop)->Prop
noncomputable def Im(X:Cx)(pins:List (Addr×Obj))(σ:St)(tg:Expr)(R:It->Hp->Prop)(itv:Value)(s2:Shared):Prop:=
 ∃(it:Addr) (fp:List Addr) (tn:Nat->Heap->Prop) (J:It) (H':Hp),itv=.ref it/\Inv X pins σ H' s2/\Turn X.prog X.w X.K tg J fp it tn/\tn 0 s2.heap/\(∀b∈fp,me X pins H' b)/\R J H'
noncomputable def PI(X:Cx)(tg iter:Expr)(wi:TI):Prop:=
 ∀(pins:List (Addr×Obj)) (s:Shared) (σ:St) (H:Hp) (R:It->Hp->Prop),Inv X pins σ H s->wi σ H R ->
  wpAny (model X.prog X.w) X.A (eval iter X.env) (λv s1=>wpAny (model X.prog X.w) X.A (pyIter v) (Im X pins σ tg R) X.xe s1) X.xe s
theorem xF{A:Around}{s:Shared}{it:Addr}{o:Obj}{n:String}{vs:Array Value}{Q:Unit->Shared->Prop}(ho:s.heap.get? it=some o)(hc:o.cls=.type n)(hd:o.data=.fields vs)
    (hn:["enumerate","zip","dict_itemiterator","dict_reverseitemiterator","odict_iterator","itertools.zip_longest","itertools.pairwise"].contains n=false) (hQ:Q () s):wpAny M A (letOwnedTupleGo tg (.ref it) u) Q E s:=by
  unfold letOwnedTupleGo
  cases tg<;>first
    |exact JJ hQ
    | (cases u<;>first
        |exact JJ hQ
        | (refine Jy (wpAny_load ho ?_)
           rw[hc,hd];show wpAny M A (if (["enumerate","zip","dict_itemiterator","dict_reverseitemiterator","odict_iterator","itertools.zip_longest","itertools.pairwise"].contains n && vs[0]? == some (rawInt _))=true then _ else _) Q E s
           rw[JA (by intro h;rw[hn,Np] at h;cases h)]
           exact JJ hQ))
noncomputable def sT(K:W.Frag)(a:Addr):It:=
 ⟨λi H=>∃xs x,bI K H a xs/\xs[i]?=some x,λi H x H'=>H'=H/\∀xs,bI K H a xs->xs[i]?=some x,λi H=>∃xs,bI K H a xs/\xs.length<=i⟩
noncomputable def so(K:W.Frag)(a:Addr):It:=
 ⟨λi H=>∃xs x,bz K H a xs/\xs[i]?=some x,λi H x H'=>H'=H/\∀xs,bz K H a xs->xs[i]?=some x,λi H=>∃xs,bz K H a xs/\xs.length<=i⟩
noncomputable def Bo(lo:Int)(n:Nat):It:=⟨λi _=>i<n,λi H x H'=>H'=H/\x=.int (lo+i),λi _=>n<=i⟩
theorem mG(a it:Addr):Turn P w K tg (sT K a) [it] it (λi h=>h.IsListIter it a i) where
 mem:=by simp
 obj:=λi h st b hb=>by
  have e:b=it:=by simpa using hb
  subst e;obtain⟨o,e,c,d⟩:=st;exact⟨o,e,λv z=>by rw[d] at z;cases z⟩
 keep:=λi h h' st k=>st.at λo e=>k it (by simp) o e
 item:=by
  intro X hP hw hK hc i pins s σ H E I hf st hg;subst hP hw hK;obtain⟨xs,x,hq,hx⟩:=hg;obtain⟨its,rv,p,hz⟩:=I.list hq;obtain⟨u,hu,ru⟩:=rv.get hx;obtain⟨f0,f1,f2,f3,f4,f5⟩:=hf it (by simp)
  refine Ob st p.isList (x:=u) (by simpa using hu) λh' st' sb=>?_
  have I1:Inv X pins σ H {s with heap:=h'}:=I.turned (t':=s.toks) (λb o hb e=>(sb.2 b hb).trans e) f0 f1 f3 f4 f5
  obtain⟨o,e,c,d⟩:=id st';exact⟨u,rfl,xF (s:={s with heap:=h'}) e c d (by decide) ⟨x,H,I1,ru,⟨rfl,λys hy=>by rw[I.km hy hq];exact hx⟩,st',λb hb=>(hf b hb).1⟩⟩
 done:=by
  intro X hP hw hK hc i pins s σ H E I hf st hg;subst hP hw hK;obtain⟨xs,hq,hx⟩:=hg;obtain⟨its,rv,p,hz⟩:=I.list hq;obtain⟨f0,f1,f2,f3,f4,f5⟩:=hf it (by simp)
  have hl:=rv.length;exact wpAny_pyNext_list_end (I.ok.hd hc) st p.isList (by simp;lia) λh' eb=>⟨rfl,I.turned (t':=s.toks) (λb o hb e=>eb b o hb e) f0 f1 f3 f4 f5⟩
 self:=λ_ _ _ _ _ st h=>wpAny_pyIter_listiter st h
theorem kq(a it:Addr):Turn P w K tg (so K a) [it] it (λi h=>h.IsTupleIter it a i) where
 mem:=by simp
 obj:=λi h st b hb=>by
  have e:b=it:=by simpa using hb
  subst e;obtain⟨o,e,c,d⟩:=st;exact⟨o,e,λv z=>by rw[d] at z;cases z⟩
 keep:=λi h h' st k=>st.at λo e=>k it (by simp) o e
 item:=by
  intro X hP hw hK hc i pins s σ H E I hf st hg;subst hP hw hK;obtain⟨xs,x,hq,hx⟩:=hg;obtain⟨its,rv,p,hz⟩:=I.tuple hq;obtain⟨u,hu,ru⟩:=rv.get hx;obtain⟨f0,f1,f2,f3,f4,f5⟩:=hf it (by simp)
  refine wpAny_pyNext_tuple_item st (show s.heap.IsTuple a its.toArray from p) (x:=u) (by simpa using hu) λh' st' sb=>?_
  have I1:Inv X pins σ H {s with heap:=h'}:=I.turned (t':=s.toks) (λb o hb e=>(sb.2 b hb).trans e) f0 f1 f3 f4 f5
  obtain⟨o,e,c,d⟩:=id st';exact⟨u,rfl,xF (s:={s with heap:=h'}) e c d (by decide) ⟨x,H,I1,ru,⟨rfl,λys hy=>by rw[I.jd hy hq];exact hx⟩,st',λb hb=>(hf b hb).1⟩⟩
 done:=by
  intro X hP hw hK hc i pins s σ H E I hf st hg;subst hP hw hK;obtain⟨xs,hq,hx⟩:=hg;obtain⟨its,rv,p,hz⟩:=I.tuple hq;obtain⟨f0,f1,f2,f3,f4,f5⟩:=hf it (by simp)
  have hl:=rv.length;exact wpAny_pyNext_tuple_end (I.ok.hd hc) st (show s.heap.IsTuple a its.toArray from p) (by simp;lia) λh' eb=>⟨rfl,I.turned (t':=s.toks) (λb o hb e=>eb b o hb e) f0 f1 f3 f4 f5⟩
 self:=λ_ _ _ _ _ st h=>wpAny_pyIter_tupleiter st h
theorem rD{w:World}{K:PySem.W.Frag}(it:Addr)(lo:Int)(n:Nat):Turn P w K tg (Bo lo n) [it] it (λi h=>IsRangeIter h it (lo+(i:Nat)*1) ((n:Int)-(i:Nat)) 1) where
 mem:=by simp
 obj:=λi h st b hb=>by
  have e:b=it:=by simpa using hb
  subst e;exact⟨_,st,λv z=>by
   have z':Data.fields _=Data.cell v:=z
   cases z'⟩
 keep:=λi h h' st k=>k it (by simp) _ st
 item:=by
  intro X hP hw hK hc i pins s σ H E I hf st hg;subst hP hw hK;obtain⟨f0,f1,f2,f3,f4,f5⟩:=hf it (by simp)
  have W:=Walks.range (prog:=X.prog) (w:=X.w) (I.ok.hd hc) it lo 1 n;refine W.item i s _ _ hg st λv h' tk hv st' kk=>?_;obtain⟨t,rfl⟩:=hv;have I1:Inv X pins σ H {s with heap:=h',toks:=tk}:=I.turned (λb o hb e=>kk b o (by simpa using hb) e) f0 f1 f3 f4 f5
  refine⟨_,rfl,xF (s:={s with heap:=h',toks:=tk}) (n:="range_iterator") st' rfl rfl (by decide) ⟨.int (lo+i),H,I1,⟨t,?_⟩,⟨rfl,rfl⟩,st',λb hb=>(hf b hb).1⟩⟩
  rw[Int.mul_one]
 done:=by
  intro X hP hw hK hc i pins s σ H E I hf st hg;subst hP hw hK;obtain⟨f0,f1,f2,f3,f4,f5⟩:=hf it (by simp)
  exact wpAny_pyNext_range_end (I.ok.hd hc) st (by have:n<=i:=hg;lia) λh' eb=>⟨rfl,I.turned (t':=s.toks) (λb o hb e=>eb b o hb e) f0 f1 f3 f4 f5⟩
 self:=λ_ _ _ _ _ st h=>wpAny_pyIter_rangeiter st h
section
variable {X:Cx} {tg:Expr}
theorem zY{s:Shared}{R:It->Hp->Prop}{lo hi:Int}{t u v:Tok}{tk:Nat}(I:Inv X pins σ H s)(h1:-(2^62)<=lo)(h2:lo<2^62)(h3:-(2^62)<=hi)(h4:hi<2^62)
  (q:R (Bo lo (hi-lo).toNat) H):wpAny (model X.prog X.w) X.A (pyIter (.ref s.heap.objs.size)) (Im X pins σ tg R) E {s with heap:=s.heap.push {cls:=.type "range",data:=.fields #[.int lo t,.int hi u,.int 1 v]},toks:=tk}:=by
 refine wpAny_pyIter_range (IsRange.new ..) (small_one h1 h2 h3 h4) ?_;have I1:Inv X pins σ H {s with heap:=s.heap.push {cls:=.type "range",data:=.fields #[.int lo t,.int hi u,.int 1 v]},toks:=tk}:=I.kept λb o e=>J7 _ e
 refine⟨(s.heap.push {cls:=.type "range",data:=.fields #[.int lo t,.int hi u,.int 1 v]}).objs.size,[(s.heap.push {cls:=.type "range",data:=.fields #[.int lo t,.int hi u,.int 1 v]}).objs.size],_,_,H,rfl,
  I1.kept (t':=tk) λb o e=>J7 _ e,rD _ lo (hi-lo).toNat,?_,λb hb=>?_,q⟩
 ·have e1:lo+((0:Nat):Int)*1=lo:=by simp
  have e2:(((hi-lo).toNat:Nat):Int)-((0:Nat):Int)=Builtin.Range.rangeSize lo hi 1:=by rw[rangeSize_one];split<;>lia
  show IsRangeIter _ _ (lo+((0:Nat):Int)*1) ((((hi-lo).toNat:Nat):Int)-((0:Nat):Int)) 1;rw[e1,e2];exact JM _ rfl
 ·have e:b=(s.heap.push {cls:=.type "range",data:=.fields #[.int lo t,.int hi u,.int 1 v]}).objs.size:=by simpa using hb
  subst e;exact I1.qm (JD _) (I1.aQ.fresh (JD _))
noncomputable def mZ(ta:TA):TI:=λσ H R=>ta σ H λvs H1=>∃j:Int,vs=[.int j]/\-(2^62)<=j/\j<2^62/\R (Bo 0 j.toNat) H1
theorem vP{a:Expr}{ta:TA}{p pos:Pos}(hg:Gl X "range")(hm:X.mg "range"=none)(ha:PA X [a] ta)(hs:autoParam (starEach [a] X.env=[(false,eval a X.env)]) ℜ0):PI X tg (.Call (.Name "range" p) [a] [] pos) (mZ ta):=by
 intro pins s σ H R I h;refine Call_ (gj I hg hm boot_range (KW (cp (ha pos pins s σ H _ I h) λus s1 hq31=>?_) hs rfl));obtain⟨vs,H1,I1,r1,q1⟩:=hq31;obtain⟨j,e,q1,q2,q⟩:=q1;subst e
 cases r1 with
 |cons r rr =>
  cases rr;obtain⟨t,rfl⟩:=r;exact call_range_1 (zY I1 (by lia) (by lia) q1 q2 (by simpa using q))
noncomputable def Ez(wi:TI)(g:TG)(tb:TS):TS:=λD σ H=>wi σ H λJ H1=>∃W:Nat->Nat->St->Hp->Prop,(∃m,W 0 m σ H1)/\∀i m σ H,W i m σ H ->
 (J.stop i H/\D.nx σ H)\/(J.go i H/\∃N:St->Hp->Prop,(∀σ' H',N σ' H'->∃m',m'<m/\W (i+1) m' σ' H')/\∀x H',J.CW i H x H'->g x σ H' λσ2 H2=>tb {D with nx:=N,ct:=N,bk:=D.nx} σ2 H2)
noncomputable def jj(fp:List Addr)(h:Heap):List (Addr×Obj):=fp.filterMap λb=>(h.get? b).map λo=>(b,o)
theorem el{o:Obj}(hb:b∈fp)(e:h.get? b=some o):(b,o)∈jj fp h:=Mx.mpr ⟨b,hb,by rw[e];rfl⟩
theorem vG{p:Addr×Obj}(hp:p∈jj fp h):p.1∈fp/\h.get? p.1=some p.2:=by
 obtain⟨b,hb,e⟩:=Mx.mp hp
 cases q:h.get? b with
 |none=>rw[q] at e;cases e
 |some o =>
  rw[q] at e;have e':(b,o)=p:=Option.some.inj e;subst e';exact⟨hb,q⟩
theorem Inv.pinned{s:Shared}(I:Inv X pins σ H s)(hf:∀b∈fp,me X pins H b)(ho:∀b∈fp,∃o,s.heap.get? b=some o/\∀v,o.data≠.cell v):Inv X (pins++jj fp s.heap) σ H s:=
 I.oG λp hp=>(K0.mp hp).elim (λz=>I.pin p (JV _ z)) λz=>by
  obtain⟨hb,e⟩:=vG z;obtain⟨f0,f1,f2,_⟩:=hf p.1 hb;obtain⟨o,e',d⟩:=ho p.1 hb;rw[e] at e';cases e';exact⟨e,f0,f1,f2,d⟩
theorem Inv.fZ{pl:List (Addr×Obj)}{s:Shared}(I:Inv X (pins++pl) σ H s):Inv X pins σ H s:=I.oG λp hp=>I.pin p (JV _ (Lm _ hp))
theorem E7{iter:Expr}{wi:TI}{g:TG}{pos:Pos}(hp:PassesOwn (model X.prog X.w) X.A X.env X.xe)(hc:X.calm=true)(hi:PI X tg iter wi)(hg:PG X tg g)(hb:rK X body tb)
  (hs:autoParam (∀x,foldedSetIterable iter X.env x=pure x) ℜ3):PS X (.For tg iter body [] pos) (Ez wi g tb):=by
 intro pins s σ H D I h;refine wpAny_For (cp (hi pins s σ H _ I h) λv s1 h1=>cp h1 λitv s2 h2=>?_) hs;obtain⟨it,fp,tn,J,H2,e,I2,T,st2,f2,W,⟨m0,w0⟩,turn⟩:=h2;subst e;have stat:∀{H':Hp},(∀b∈fp,H' b=none)->∀b∈fp,me X pins H' b:=λhn b hb=>⟨hn b hb,(f2 b hb).2⟩;refine codeAny_forLoop_any (λn s'=>∃i σ' H',Inv X pins σ' H' s'/\tn i s'.heap/\(∀b∈fp,H' b=none)/\W i n σ' H') ?_ m0 ⟨0,σ,H2,I2,st2,λb hb=>(f2 b hb).1,w0⟩;rintro n s3 ⟨i,σ3,H3,I3,st3,fr3,w3⟩;rcases turn i n σ3 H3 w3 with ⟨stop,qn⟩|⟨go,N,hN,step⟩
 ·refine L3 hp (cp (T.done X rfl rfl rfl hc i pins s3 σ3 H3 X.xe I3 (stat fr3) st3 stop) λr s4 hq33=>?_);obtain⟨hr,I4⟩:=hq33;subst hr;exact MY ⟨σ3,H3,I4,qn⟩
 ·refine L3 hp (cp (T.item X rfl rfl rfl hc i pins s3 σ3 H3 X.xe I3 (stat fr3) st3 go) λr s4 hq34=>?_);obtain⟨u,hr,h4⟩:=hq34;subst hr;refine L3 hp (cp h4 λ_ s5 hq35=>?_);obtain⟨x,H5,I5,r5,y5,st5,fr5⟩:=hq35;have I5':=I5.pinned (stat fr5) (T.obj _ _ st5);refine L3 hp (cp (hg _ s5 σ3 H5 x u _ I5' r5 (step x H5 y5)) λ_ s6 hq36=>?_);obtain⟨σ6,H6,I6,q6⟩:=hq36;refine L3 hp (cp (hb _ s6 σ6 H6 _ I6 q6) λf s7 q7=>?_);have again:∀{σ7:St} {H7:Hp},Inv X (pins++jj fp s5.heap) σ7 H7 s7->N σ7 H7->∃m,m<n/\∃i σ' H',Inv X pins σ' H' s7/\tn i s7.heap/\(∀b∈fp,H' b=none)/\W i m σ' H':=λ{σ7 H7} I7 n7=>by
   obtain⟨m',hm,w7⟩:=hN σ7 H7 n7;refine⟨m',hm,i+1,σ7,H7,I7.fZ,T.keep _ _ _ st5 λb hb o e=>(I7.pin (b,o) (JV _ (JV _ (el hb e)))).1,λb hb=>?_,w7⟩;obtain⟨o,e,d⟩:=T.obj _ _ st5 b hb;exact (I7.pin (b,o) (JV _ (JV _ (el hb e)))).2.1
  cases f with
  |next=>obtain⟨σ7,H7,I7,n7⟩:=q7;exact again I7 n7
  |cont=>obtain⟨σ7,H7,I7,n7⟩:=q7;exact again I7 n7
  |brk=>obtain⟨σ7,H7,I7,q7⟩:=q7;exact⟨σ7,H7,I7.fZ,q7⟩
  |ret v=>obtain⟨x7,σ7,H7,I7,r7,q7⟩:=q7;exact⟨x7,σ7,H7,I7.fZ,r7,q7⟩
end
theorem yA{K:PySem.W.Frag}{g:TG}(Pv:Nat->St->Hp->Prop)(h0:Pv 0 σ H)(hl:∀i σ H,i<=xs.length->Pv i σ H->bI K H a xs)
  (hs:∀i x σ H,xs[i]?=some x->Pv i σ H->g x σ H λσ2 H2=>tb {D with nx:=Pv (i+1),ct:=Pv (i+1),bk:=D.nx} σ2 H2) (hd:∀σ H,Pv xs.length σ H->D.nx σ H) :
  ∃W:Nat->Nat->St->Hp->Prop,(∃m,W 0 m σ H)/\∀i m σ H,W i m σ H ->
   ((sT K a).stop i H/\D.nx σ H)\/((sT K a).go i H/\∃N:St->Hp->Prop,(∀σ' H',N σ' H'->∃m',m'<m/\W (i+1) m' σ' H')/\∀x H',(sT K a).CW i H x H'->g x σ H' λσ2 H2=>tb {D with nx:=N,ct:=N,bk:=D.nx} σ2 H2):=by
 refine⟨λi m σ H=>m=xs.length-i/\i<=xs.length/\Pv i σ H,⟨xs.length,by simp,JL _,h0⟩,?_⟩
 rintro i m σ H ⟨rfl,hi,p⟩;have q:=hl i σ H hi p;by_cases hlt:i<xs.length
 ·refine .inr ⟨⟨xs,xs[i],q,by simp[hlt]⟩,Pv (i+1),λσ' H' p'=>⟨xs.length-(i+1),by lia,rfl,hlt,p'⟩,λx H' y=>?_⟩
  obtain⟨e,y⟩:=y;subst e;exact hs i x σ _ (y xs q) p
 ·have e:i=xs.length:=by lia
  subst e;exact .inl ⟨⟨xs,q,JD _⟩,hd σ H p⟩
theorem A1{K:PySem.W.Frag}{g:TG}(Pv:Nat->St->Hp->Prop)(h0:Pv 0 σ H)(hl:∀i σ H,i<=xs.length->Pv i σ H->bz K H a xs)
  (hs:∀i x σ H,xs[i]?=some x->Pv i σ H->g x σ H λσ2 H2=>tb {D with nx:=Pv (i+1),ct:=Pv (i+1),bk:=D.nx} σ2 H2) (hd:∀σ H,Pv xs.length σ H->D.nx σ H) :
  ∃W:Nat->Nat->St->Hp->Prop,(∃m,W 0 m σ H)/\∀i m σ H,W i m σ H ->
   ((so K a).stop i H/\D.nx σ H)\/((so K a).go i H/\∃N:St->Hp->Prop,(∀σ' H',N σ' H'->∃m',m'<m/\W (i+1) m' σ' H')/\∀x H',(so K a).CW i H x H'->g x σ H' λσ2 H2=>tb {D with nx:=N,ct:=N,bk:=D.nx} σ2 H2):=by
 refine⟨λi m σ H=>m=xs.length-i/\i<=xs.length/\Pv i σ H,⟨xs.length,by simp,JL _,h0⟩,?_⟩
 rintro i m σ H ⟨rfl,hi,p⟩;have q:=hl i σ H hi p;by_cases hlt:i<xs.length
 ·refine .inr ⟨⟨xs,xs[i],q,by simp[hlt]⟩,Pv (i+1),λσ' H' p'=>⟨xs.length-(i+1),by lia,rfl,hlt,p'⟩,λx H' y=>?_⟩
  obtain⟨e,y⟩:=y;subst e;exact hs i x σ _ (y xs q) p
 ·have e:i=xs.length:=by lia
  subst e;exact .inl ⟨⟨xs,q,JD _⟩,hd σ H p⟩
theorem vV{lo:Int}{n:Nat}{g:TG}(Pv:Nat->St->Hp->Prop)(h0:Pv 0 σ H)
  (hs:∀i σ H,i<n->Pv i σ H->g (.int (lo+i)) σ H λσ2 H2=>tb {D with nx:=Pv (i+1),ct:=Pv (i+1),bk:=D.nx} σ2 H2) (hd:∀σ H,Pv n σ H->D.nx σ H) :
  ∃W:Nat->Nat->St->Hp->Prop,(∃m,W 0 m σ H)/\∀i m σ H,W i m σ H ->
   ((Bo lo n).stop i H/\D.nx σ H)\/((Bo lo n).go i H/\∃N:St->Hp->Prop,(∀σ' H',N σ' H'->∃m',m'<m/\W (i+1) m' σ' H')/\∀x H',(Bo lo n).CW i H x H'->g x σ H' λσ2 H2=>tb {D with nx:=N,ct:=N,bk:=D.nx} σ2 H2):=by
 refine⟨λi m σ H=>m=n-i/\i<=n/\Pv i σ H,⟨n,by simp,JL _,h0⟩,?_⟩
 rintro i m σ H ⟨rfl,hi,p⟩;by_cases hlt:i<n
 ·refine .inr ⟨hlt,Pv (i+1),λσ' H' p'=>⟨n-(i+1),by lia,rfl,hlt,p'⟩,λx H' y=>?_⟩
  obtain⟨e,y⟩:=y;subst e y;exact hs i σ _ hlt p
 ·have e:i=n:=by lia
  subst e;exact .inl ⟨JD _,hd σ H p⟩
abbrev R2:=V->V->Hp->VK->Prop
variable{r:R2}
noncomputable def dc(X:Cx)(f:Value->Value->Sem Value)(r:R2):Prop:=
 ∀(pins:List (Addr×Obj)) (s:Shared) (σ:St) (H:Hp) (x y:V) (v u:Value) (Q:VK),Inv X pins σ H s->RelV x v->RelV y u->r x y H Q ->
  wpAny (model X.prog X.w) X.A (f v u) (EP X pins σ Q) X.xe s
noncomputable def HU(X:Cx)(f:Value->Sem Value)(r:V->Hp->VK->Prop):Prop:=
 ∀(pins:List (Addr×Obj)) (s:Shared) (σ:St) (H:Hp) (x:V) (v:Value) (Q:VK),Inv X pins σ H s->RelV x v->r x H Q ->
  wpAny (model X.prog X.w) X.A (f v) (EP X pins σ Q) X.xe s
noncomputable def bu(X:Cx)(f:Value)(r:List V->Hp->VK->Prop):Prop:=
 ∀(pins:List (Addr×Obj)) (s:Shared) (σ:St) (H:Hp) (xs:List V) (us:List Value) (Q:VK),Inv X pins σ H s->Vals xs us->r xs H Q ->
  wpAny (model X.prog X.w) X.A (call f us) (EP X pins σ Q) X.xe s
noncomputable def Ir(X:Cx)(r:V->Hp->(Bool->Hp->Prop)->Prop):Prop:=
 ∀(pins:List (Addr×Obj)) (s:Shared) (σ:St) (H:Hp) (x:V) (v:Value) (Q:Bool->Hp->Prop),Inv X pins σ H s->RelV x v->r x H Q ->
  wpAny (model X.prog X.w) X.A (truthy v) (TP X pins σ Q) X.xe s
noncomputable def yK(r:R2)(ta tb:TE):TE:=λσ H Q=>ta σ H λx H1=>tb σ H1 λy H2=>r x y H2 Q
noncomputable def Ht(r:V->Hp->VK->Prop)(ta:TE):TE:=λσ H Q=>ta σ H λx H1=>r x H1 Q
noncomputable def rI(C:Int->Int->Prop)(g:Int->Int->V):R2:=λx y H Q=>∃i j,x=.int i/\y=.int j/\C i j/\Q (g i j) H
noncomputable def v_(g:Int->Int->V):R2:=λx y H Q=>∃i j,x=.int i/\y=.int j/\Q (g i j) H
noncomputable def rU(g:Int->V):V->Hp->VK->Prop:=λx H Q=>∃i,x=.int i/\Q (g i) H
section
variable {X:Cx} {a b c:Expr} {ta tb tc:TE} {pos:Pos}
theorem DE(ha:PE X a ta)(hb:PE X b tb){s:Shared}{R:V->V->Hp->Prop}(I:Inv X pins σ H s)
  (h:ta σ H λx H1=>tb σ H1 λy H2=>R x y H2)  
  (hf:∀v u s2 x y H2,Inv X pins σ H2 s2->RelV x v->RelV y u->R x y H2->wpAny (model X.prog X.w) X.A (f v u) Q X.xe s2) :
  wpAny (model X.prog X.w) X.A (eval a X.env) (λv s₁=>wpAny (model X.prog X.w) X.A (eval b X.env) (λu s₂=>wpAny (model X.prog X.w) X.A (f v u) Q X.xe s₂) X.xe s₁) X.xe s:=by
 refine cp (ha pins s σ H _ I h) λv s1 hq37=>?_;obtain⟨x,H1,I1,r1,q1⟩:=hq37;refine cp (hb pins s1 σ H1 _ I1 q1) λu s2 hq38=>?_;obtain⟨y,H2,I2,r2,q2⟩:=hq38;exact hf v u s2 x y H2 I2 r1 r2 q2
theorem He{op:Operator}(ho:dc X (binaryOp op) r)(ha:PE X a ta)(hb:PE X b tb):PE X (.BinOp a op b pos) (yK r ta tb):=by
 intro pins s σ H Q I h;exact wpAny_BinOp (DE ha hb I h λv u s2 x y H2 I2 rx ry q=>ho pins s2 σ H2 x y v u Q I2 rx ry q)
theorem GD{op:UnaryOp}{r:V->Hp->VK->Prop}(ho:HU X (unaryOp op) r)(ha:PE X a ta):PE X (.UnaryOp op a pos) (Ht r ta):=by
 intro pins s σ H Q I h;exact UnaryOp_ (cp (ha pins s σ H _ I h) λv s1 ⟨x,H1,I1,r1,q1⟩=>ho pins s1 σ H1 x v Q I1 r1 q1)
theorem Hb{C:Int->Int->Prop}
  (rule:∀(i j:Int) (t u:Tok) (s:Shared) (Q:Value->Shared->Prop) (E:Value->Shared->Prop),C i j->Q (.int (g i j) s.toks) {s with toks:=s.toks+1}->wpAny (model X.prog X.w) X.A (f (.int i t) (.int j u)) Q E s) :
  dc X f (rI C λi j=>.int (g i j)):=by
 intro pins s σ H x y v u Q I rx ry h;obtain⟨i,j,rfl,rfl,hc,q⟩:=h;obtain⟨t,rfl⟩:=rx;obtain⟨t',rfl⟩:=ry;exact rule i j t t' s _ _ hc ⟨.int (g i j),H,I.tok _,⟨_,rfl⟩,q⟩
theorem Gv
  (rule:∀(i j:Int) (t u:Tok) (s:Shared) (Q:Value->Shared->Prop) (E:Value->Shared->Prop),Q (.int (g i j) s.toks) {s with toks:=s.toks+1}->wpAny (model X.prog X.w) X.A (f (.int i t) (.int j u)) Q E s) :
  dc X f (v_ λi j=>.int (g i j)):=by
 intro pins s σ H x y v u Q I rx ry h;obtain⟨i,j,rfl,rfl,q⟩:=h;obtain⟨t,rfl⟩:=rx;obtain⟨t',rfl⟩:=ry;exact rule i j t t' s _ _ ⟨.int (g i j),H,I.tok _,⟨_,rfl⟩,q⟩
theorem A0{g:Int->Int->Bool}
  (rule:∀(i j:Int) (t u:Tok) (s:Shared) (Q:Value->Shared->Prop) (E:Value->Shared->Prop),Q (.bool (g i j)) s->wpAny (model X.prog X.w) X.A (f (.int i t) (.int j u)) Q E s) :
  dc X f (v_ λi j=>.bl (g i j)):=by
 intro pins s σ H x y v u Q I rx ry h;obtain⟨i,j,rfl,rfl,q⟩:=h;obtain⟨t,rfl⟩:=rx;obtain⟨t',rfl⟩:=ry;exact rule i j t t' s _ _ ⟨.bl (g i j),H,I,rfl,q⟩
noncomputable def Iq(i j:Int):Prop:=0<j/\j<1073741824
noncomputable def GH(i j:Int):Prop:=0<=j/\j<=1000000/\i.natAbs<2^64
noncomputable def wY(i j:Int):Prop:=(-(2^64)<i/\i<2^64)\/(-(2^64)<j/\j<2^64)
theorem wY.ok{i j:Int}(h:wY i j):IntMulOk i j:=by
 rcases h with ⟨h1,h2⟩|⟨h1,h2⟩
 ·exact .of_left (intBits_le_64 h1 h2)
 ·exact .of_right (intBits_le_64 h1 h2)
theorem Eu:dc X (binaryOp .Add) (v_ λi j=>.int (i+j)):=Gv λ_ _ _ _ _ _ _ q=>add_int q
theorem cK:dc X (binaryOp .Sub) (v_ λi j=>.int (i-j)):=Gv λ_ _ _ _ _ _ _ q=>sub_int q
theorem Dw:dc X (binaryOp .Mult) (rI wY λi j=>.int (i*j)):=Hb λ_ _ _ _ _ _ _ hc q=>mul_int q hc.ok
theorem jY:dc X (binaryOp .FloorDiv) (rI Iq λi j=>.int (i / j)):=Hb λi j _ _ _ _ _ hc q=>by
 have h1:(0:Int)<j:=hc.1;have h2:j<1073741824:=hc.2;exact floordiv_int (by lia) (by rw[Int.fdiv_eq_ediv_of_nonneg i (by lia)];exact q) (.inl (PyProof.noPylong_small (by lia)))
theorem e8:dc X (binaryOp .Mod) (rI (λ_ j=>0<j) λi j=>.int (i % j)):=Hb λi j _ _ _ _ _ hc q=>by
 have h1:(0:Int)<j:=hc;exact mod_int' (by lia) (by rw[Int.fmod_eq_emod_of_nonneg i (by lia)];exact q)
theorem DT:dc X (binaryOp .Pow) (rI GH λi j=>.int (i^j.toNat)):=Hb λ_ _ _ _ _ _ _ hc q=>pow_int_small hc.1 hc.2.1 hc.2.2 q
theorem Ey:dc X (binaryOp .LShift) (rI GH λi j=>.int (i*2^j.toNat)):=Hb λ_ _ _ _ _ _ _ hc q=>lshift_int_small hc.1 hc.2.1 hc.2.2 q
theorem Ju{f:Value->Sem Value}{g:Int->Int}
  (rule:∀(i:Int) (t:Tok) (s:Shared) (Q:Value->Shared->Prop) (E:Value->Shared->Prop),Q (.int (g i) s.toks) {s with toks:=s.toks+1}->wpAny (model X.prog X.w) X.A (f (.int i t)) Q E s) :
  HU X f (rU λi=>.int (g i)):=by
 intro pins s σ H x v Q I rx h;obtain⟨i,rfl,q⟩:=h;obtain⟨t,rfl⟩:=rx;exact rule i t s _ _ ⟨.int (g i),H,I.tok _,⟨_,rfl⟩,q⟩
theorem dC:HU X (unaryOp .USub) (rU λi=>.int (-i)):=Ju λ_ _ _ _ _ q=>neg_int q
end
noncomputable def HQ:V->V->Bool
 |.aR,.aR=>true|.aR,.int _=>true|.int _,.aR=>true|.aR,.bl _=>true|.bl _,.aR=>true|.aR,.str _=>true|.str _,.aR=>true
 |.int _,.int _=>true|.bl _,.bl _=>true|.str _,.str _=>true|.qK _,.qK _=>true
 |.int _,.str _=>true|.str _,.int _=>true|.bl _,.str _=>true|.str _,.bl _=>true
 |_,_=>false
noncomputable def CB:R2:=λx y H Q=>HQ x y=true/\Q (.bl (decide (x=y))) H
noncomputable def GV:R2:=λx y H Q=>HQ x y=true/\Q (.bl (!decide (x=y))) H
theorem uM{i j:Int}:decide (V.int i=V.int j)=(i == j):=by
 rw[LL];simp
theorem xW{i j:Bool}:decide (V.bl i=V.bl j)=(i == j):=by
 rw[LL];simp
theorem tQ{i j:Str}:decide (V.str i=V.str j)=(i == j):=by
 rw[LL];simp
theorem uP{i j:Array UInt8}:decide (V.qK i=V.qK j)=(i.toList == j.toList):=by
 rw[LL];cases i;cases j;simp
section
variable {X:Cx} {a b c:Expr} {ta tb tc:TE} {pos:Pos}
theorem bc{s:Shared}{Q:VK}{k k':Bool}(I:Inv X pins σ H s)(q:Q (.bl k) H)(e:k=k'):EP X pins σ Q (.bool k') s:=by
 subst e;exact⟨.bl k,H,I,rfl,q⟩
theorem CI:dc X (compareOp .Eq) CB:=by
 intro pins s σ H x y v u Q I rx ry h;obtain⟨hs,q⟩:=h
 cases x with
 |aR =>
  cases rx
  cases y with
  |aR=>cases ry;exact PySem.EqNone.eq_none_none (bc I q (by simp))
  |bl j=>cases ry;exact PySem.EqNone.eq_none_bool (bc I q (by simp))
  |int j=>obtain⟨t',rfl⟩:=ry;exact PySem.EqNone.eq_none_int (bc I q (by simp))
  |str j=>obtain⟨t',rfl⟩:=ry;exact PySem.EqNone.eq_none_str (bc I q (by simp))
  |_=>exact absurd (show false=true from hs) JO
 |bl i =>
  cases rx
  cases y with
  |aR=>cases ry;exact PySem.EqNone.eq_bool_none (bc I q (by simp))
  |bl j=>cases ry;exact eq_bool (bc I q xW)
  |str j=>obtain⟨t',rfl⟩:=ry;exact PySem.EqMixed.eq_bool_str (bc I q (by simp))
  |_=>exact absurd (show false=true from hs) JO
 |int i =>
  obtain⟨t,rfl⟩:=rx
  cases y with
  |aR=>cases ry;exact PySem.EqNone.eq_int_none (bc I q (by simp))
  |int j=>obtain⟨t',rfl⟩:=ry;exact eq_int (bc I q uM)
  |str j=>obtain⟨t',rfl⟩:=ry;exact PySem.EqMixed.eq_int_str (bc I q (by simp))
  |_=>exact absurd (show false=true from hs) JO
 |str i =>
  obtain⟨t,rfl⟩:=rx
  cases y with
  |aR=>cases ry;exact PySem.EqNone.eq_str_none (bc I q (by simp))
  |bl j=>cases ry;exact PySem.EqMixed.eq_str_bool (bc I q (by simp))
  |int j=>obtain⟨t',rfl⟩:=ry;exact PySem.EqMixed.eq_str_int (bc I q (by simp))
  |str j=>obtain⟨t',rfl⟩:=ry;exact eq_str (bc I q tQ)
  |_=>exact absurd (show false=true from hs) JO
 |qK i =>
  obtain⟨t,rfl⟩:=rx
  cases y with
  |qK j=>obtain⟨t',rfl⟩:=ry;exact W.eq_bytes (bc I q uP)
  |_=>exact absurd (show false=true from hs) JO
 |_=>cases y<;>exact absurd (show false=true from hs) JO
theorem Dd:dc X (compareOp .NotEq) GV:=by
 intro pins s σ H x y v u Q I rx ry h;obtain⟨hs,q⟩:=h
 cases x with
 |aR =>
  cases rx
  cases y with
  |aR=>cases ry;exact PySem.EqNone.ne_none_none (bc I q (by simp))
  |bl j=>cases ry;exact PySem.EqNone.ne_none_bool (bc I q (by simp))
  |int j=>obtain⟨t',rfl⟩:=ry;exact PySem.EqNone.ne_none_int (bc I q (by simp))
  |str j=>obtain⟨t',rfl⟩:=ry;exact PySem.EqNone.ne_none_str (bc I q (by simp))
  |_=>exact absurd (show false=true from hs) JO
 |bl i =>
  cases rx
  cases y with
  |aR=>cases ry;exact PySem.EqNone.ne_bool_none (bc I q (by simp))
  |bl j=>cases ry;exact ne_bool (bc I q (Kt not xW))
  |str j=>obtain⟨t',rfl⟩:=ry;exact PySem.EqMixed.ne_bool_str (bc I q (by simp))
  |_=>exact absurd (show false=true from hs) JO
 |int i =>
  obtain⟨t,rfl⟩:=rx
  cases y with
  |aR=>cases ry;exact PySem.EqNone.ne_int_none (bc I q (by simp))
  |int j=>obtain⟨t',rfl⟩:=ry;exact ne_int (bc I q (Kt not uM))
  |str j=>obtain⟨t',rfl⟩:=ry;exact PySem.EqMixed.ne_int_str (bc I q (by simp))
  |_=>exact absurd (show false=true from hs) JO
 |str i =>
  obtain⟨t,rfl⟩:=rx
  cases y with
  |aR=>cases ry;exact PySem.EqNone.ne_str_none (bc I q (by simp))
  |bl j=>cases ry;exact PySem.EqMixed.ne_str_bool (bc I q (by simp))
  |int j=>obtain⟨t',rfl⟩:=ry;exact PySem.EqMixed.ne_str_int (bc I q (by simp))
  |str j=>obtain⟨t',rfl⟩:=ry;exact ne_str (bc I q (Kt not tQ))
  |_=>exact absurd (show false=true from hs) JO
 |qK i =>
  obtain⟨t,rfl⟩:=rx
  cases y with
  |qK j=>obtain⟨t',rfl⟩:=ry;exact W.ne_bytes (bc I q (Kt not uP))
  |_=>exact absurd (show false=true from hs) JO
 |_=>cases y<;>exact absurd (show false=true from hs) JO
theorem eF:dc X (compareOp .Lt) (v_ λi j=>.bl (decide (i<j))):=A0 λ_ _ _ _ _ _ _ q=>lt_int q
theorem G7:dc X (compareOp .LtE) (v_ λi j=>.bl (decide (i<=j))):=A0 λ_ _ _ _ _ _ _ q=>le_int q
theorem um:dc X (compareOp .Gt) (v_ λi j=>.bl (decide (j<i))):=A0 λ_ _ _ _ _ _ _ q=>gt_int q
theorem p9:dc X (compareOp .GtE) (v_ λi j=>.bl (decide (j<=i))):=A0 λ_ _ _ _ _ _ _ q=>ge_int q
theorem vj:dc X (compareOp .In) (λx y H Q=>∃i j,x=.str i/\y=.str j/\Q (.bl (!(Builtin.Str.occurrences j i 0 j.length 1).isEmpty)) H):=by
 intro pins s σ H x y v u Q I rx ry h;obtain⟨i,j,rfl,rfl,q⟩:=h;obtain⟨t,rfl⟩:=rx;obtain⟨t',rfl⟩:=ry;exact in_str (bc I q rfl)
theorem cZ:dc X (compareOp .Is) (λx y H Q=>y=.aR/\Q (.bl (decide (x=.aR))) H):=by
 intro pins s σ H x y v u Q I rx ry h;obtain⟨rfl,q⟩:=h;cases ry;refine is_none_gen (bc I q ?_)
 cases x<;>first
  | (cases rx;rfl)
  | (obtain⟨t,rfl⟩:=rx;rfl)
theorem jU:dc X (compareOp .IsNot) (λx y H Q=>y=.aR/\Q (.bl (!decide (x=.aR))) H):=by
 intro pins s σ H x y v u Q I rx ry h;obtain⟨rfl,q⟩:=h;cases ry;refine isnot_none_gen (bc I q ?_)
 cases x<;>first
  | (cases rx;rfl)
  | (obtain⟨t,rfl⟩:=rx;rfl)
theorem dc.or{r':R2}(h:dc X f r)(h':dc X f r'):dc X f (λx y H Q=>r x y H Q\/r' x y H Q):=by
 intro pins s σ H x y v u Q I rx ry q;rcases q with q|q
 ·exact h pins s σ H x y v u Q I rx ry q
 ·exact h' pins s σ H x y v u Q I rx ry q
theorem A8{op:CmpOp}(ho:dc X (compareOp op) r)(ha:PE X a ta)(hb:PE X b tb)(hm:behindInMarks op b=false):PE X (.Compare a [op] [b] pos) (yK r ta tb):=by
 intro pins s σ H Q I h;exact wpAny_Compare1 (DE ha hb I h λv u s2 x y H2 I2 rx ry q=>ho pins s2 σ H2 x y v u Q I2 rx ry q) hm
noncomputable def oQ(t:TE):TT:=λσ H Q=>t σ H λx H'=>∃k,x=.bl k/\Q k H'
theorem A_{op:CmpOp}(ho:dc X (compareOp op) r)(ha:PE X a ta)(hb:PE X b tb)(hm:behindInMarks op b=false):PT X (.Compare a [op] [b] pos) (oQ (yK r ta tb)):=by
 intro pins s σ H Q I h;refine wpAny_isTrue_Compare1 (cp (ha pins s σ H _ I h) λv s1 ⟨x,H1,I1,r1,q1⟩=>cp (hb pins s1 σ H1 _ I1 q1) λu s2 ⟨y,H2,I2,r2,q2⟩=>
  cp (ho pins s2 σ H2 x y v u _ I2 r1 r2 q2) λc s3 ⟨z,H3,I3,r3,k,e,q3⟩=>?_) hm
 subst e;cases r3;exact N9 ⟨H3,I3,q3⟩
noncomputable def kT(r r':R2)(ta tb tc:TE):TE:=λσ H Q=>ta σ H λx H1=>tb σ H1 λy H2=>r x y H2 λz H3=>∃k,z=.bl k /\
 (if k=true then tc σ H3 λw' H4=>r' y w' H4 Q else Q (.bl false) H3)
theorem xT{op op':CmpOp}{r':R2}(ho:dc X (compareOp op) r)(ho':dc X (compareOp op') r')(ha:PE X a ta)(hb:PE X b tb)(hc:PE X c tc)
  (hm:autoParam (lastMarks [op,op'] [b,c]=false) ℜ5):PE X (.Compare a [op,op'] [b,c] pos) (kT r r' ta tb tc):=by
 intro pins s σ H Q I h;refine Compare_chain (cp (ha pins s σ H _ I h) λv s1 ⟨x,H1,I1,r1,q1⟩=>chain_link (cp (hb pins s1 σ H1 _ I1 q1) λu s2 ⟨y,H2,I2,r2,q2⟩=>
  cp (ho pins s2 σ H2 x y v u _ I2 r1 r2 q2) λd s3 ⟨z,H3,I3,r3,k,e,q3⟩=>?_)) hm
 subst e;cases r3;refine N9 ?_
 cases k with
 |false=>exact ite_ff ⟨.bl false,H3,I3,rfl,q3⟩
 |true=>exact ite_tt (chain_last (cp (hc pins s3 σ H3 _ I3 q3) λw' s4 ⟨z',H4,I4,r4,q4⟩=>ho' pins s4 σ H4 y z' u w' Q I4 r2 r4 q4))
noncomputable def y6(K:W.Frag)(x:V)(H:Hp)(k:Bool):Prop:=
 match x with
 |.aR=>k=false
 |.bl b=>k=b
 |.int i=>k=(i != 0)
 |.str y=>y.length<=sizeLine/\k=((y.length:Int) != 0)
 |.qK y=>y.size<=sizeLine/\k=((y.size:Int) != 0)
 |.ref p=>(∃xs,bI K H p xs/\k=!xs.isEmpty)\/(∃xs,bz K H p xs/\k=!xs.isEmpty)\/∃kvs,H p=some (.dK kvs)/\k=!kvs.isEmpty
 |_=>False
theorem rG{κ:Type}{kvs:List (κ×V)}{vs:List (κ×Value)}(r:KV kvs vs):(!vs.isEmpty)=!kvs.isEmpty:=by
 cases r<;>rfl
theorem lR{its:List Value}(r:Vals xs its):(!its.toArray.isEmpty)=!xs.isEmpty:=by
 cases r<;>simp
theorem iS:(sizeLine:Nat)<2^63:=by rw[La];decide
theorem Fd:Ir X (λx H Q=>∃k,y6 X.K x H k/\Q k H):=by
 intro pins s σ H x v Q I rx h;obtain⟨k,e,q⟩:=h;have hl:=iS;have hs:sizeLine=16777216:=La
 cases x with
 |aR =>
  cases rx;have e':k=false:=e;subst e';exact truthy_none ⟨H,I,q⟩
 |bl b =>
  cases rx;have e':k=b:=e;subst e';exact N9 ⟨H,I,q⟩
 |int i =>
  obtain⟨t,rfl⟩:=rx;have e':k=(i != 0):=e;subst e';exact PySem.P.truthy_int ⟨H,I,q⟩
 |str y =>
  obtain⟨t,rfl⟩:=rx;obtain⟨hy,e'⟩:y.length<=sizeLine/\k=((y.length:Int) != 0):=e;subst e';exact PySem.P.truthy_str (by lia) ⟨H,I.tok _,q⟩
 |qK y =>
  obtain⟨t,rfl⟩:=rx;obtain⟨hy,e'⟩:y.size<=sizeLine/\k=((y.size:Int) != 0):=e;subst e';exact W.truthy_bytes (by lia) ⟨H,I.tok _,q⟩
 |ref p =>
  cases rx;have e':(∃xs,bI X.K H p xs/\k=!xs.isEmpty)\/(∃xs,bz X.K H p xs/\k=!xs.isEmpty)\/∃kvs,H p=some (.dK kvs)/\k=!kvs.isEmpty:=e;rcases e' with ⟨xs,hx,e'⟩|⟨xs,hx,e'⟩|⟨kvs,hx,e'⟩
  ·subst e';obtain⟨its,r,pl,hz⟩:=I.list hx;have hlen:=r.length;exact wpAny_truthy_list pl.isList (by simp only[J8];lia) ⟨H,I.tok _,by rw[lR r];exact q⟩
  ·subst e';obtain⟨its,r,pl,hz⟩:=I.tuple hx;have hlen:=r.length;exact truthy_tuple pl (by simp only[J8];lia) ⟨H,I.tok _,by rw[lR r];exact q⟩
  ·subst e';obtain⟨hz,hS,vs,r,m⟩:kvs.length<=sizeLine/\(p == sysModules)=false/\∃vs,KV kvs vs/\s.heap.DictOf (cg X.prog X.w) p vs:=I.aQ p _ hx;have hlen:kvs.length=vs.length:=Paired.length r;exact wpAny_truthy_dict hS m (by lia) ⟨H,I.tok _,by rw[rG r];exact q⟩
 |_=>exact (show False from e).elim
theorem yJ(ha:PE X a ta)(he:∀whole,isTrue a X.env whole=(do let v <- whole;standAt a.pos;holding [v] (truthy v))):
  PT X a (λσ H Q=>ta σ H λx H'=>∃k,y6 X.K x H' k/\Q k H'):=by
 intro pins s σ H Q I h;exact isTrue_plain (cp (ha pins s σ H _ I h) λv s1 ⟨x,H1,I1,r1,q1⟩=>Fd pins s1 σ H1 x v Q I1 r1 q1) (he _)
theorem rP:dc X (binaryOp .Add) (λx y H Q=>∃i j,x=.str i/\y=.str j/\i.length+j.length<=sizeLine/\Q (.str (i++j)) H):=by
 intro pins s σ H x y v u Q I rx ry h;obtain⟨i,j,rfl,rfl,hz,q⟩:=h;obtain⟨t,rfl⟩:=rx;obtain⟨t',rfl⟩:=ry;exact add_str (λt' tk=>⟨.str (i++j),H,I.tok _,⟨_,rfl⟩,q⟩) hz
theorem vals1{x:V}(r:Vals [x] us):∃u,us=[u]/\RelV x u:=by
 cases r with
 |cons r1 r2=>cases r2;exact⟨_,rfl,r1⟩
theorem vals2{x y:V}(r:Vals [x,y] us):∃u w',us=[u,w']/\RelV x u/\RelV y w':=by
 cases r with
 |cons r1 r2 =>
  cases r2 with
  |cons r3 r4=>cases r4;exact⟨_,_,rfl,r1,r3⟩
theorem vX(hc:X.calm=true):bu X (.builtin "max") (λxs H Q=>∃i j,xs=[.int i,.int j]/\Q (.int (if j > i then j else i)) H):=by
 intro pins s σ H xs us Q I r h;obtain⟨i,j,rfl,q⟩:=h;obtain⟨u,w',rfl,⟨t,rfl⟩,⟨t',rfl⟩⟩:=vals2 r;refine max_two_ints (I.ok.hd hc) λh' tk k=>⟨_,H,I.kept k,?_,q⟩;by_cases hj:j > i
 ·rw[JE hj,JE hj];exact⟨_,rfl⟩
 ·rw[JA hj,JA hj];exact⟨_,rfl⟩
theorem v7(hc:X.calm=true):bu X (.builtin "min") (λxs H Q=>∃i j,xs=[.int i,.int j]/\Q (.int (if j<i then j else i)) H):=by
 intro pins s σ H xs us Q I r h;obtain⟨i,j,rfl,q⟩:=h;obtain⟨u,w',rfl,⟨t,rfl⟩,⟨t',rfl⟩⟩:=vals2 r;refine min_two_ints (I.ok.hd hc) λh' tk k=>⟨_,H,I.kept k,?_,q⟩;by_cases hj:j<i
 ·rw[JE hj,JE hj];exact⟨_,rfl⟩
 ·rw[JA hj,JA hj];exact⟨_,rfl⟩
theorem mT:bu X (.type "int") (λxs H Q=>(∃i,xs=[.int i]/\Q (.int i) H)\/∃k,xs=[.bl k]/\Q (.int (if k then 1 else 0)) H):=by
 intro pins s σ H xs us Q I r h;rcases h with ⟨i,rfl,q⟩|⟨k,rfl,q⟩
 ·obtain⟨u,rfl,t,rfl⟩:=vals1 r;exact call_int_int ⟨.int i,H,I,⟨_,rfl⟩,q⟩
 ·obtain⟨u,rfl,r1⟩:=vals1 r;cases r1;exact call_int_bool ⟨.int (if k then 1 else 0),H,I.tok _,⟨_,rfl⟩,q⟩
theorem nX:bu X (.type "str") (λxs H Q=>∃i,xs=[.int i]/\i.natAbs.log2<1920/\Q (.str (toString i)) H):=by
 intro pins s σ H xs us Q I r h;obtain⟨i,rfl,hz,q⟩:=h;obtain⟨u,rfl,t,rfl⟩:=vals1 r;exact PySem.P.str_of_int hz ⟨.str _,H,I.tok _,⟨_,rfl⟩,q⟩
noncomputable def Gw(K:W.Frag)(x:V)(H:Hp)(n:Nat):Prop:=
 match x with
 |.str y=>y.length<=sizeLine/\n=y.length
 |.qK y=>y.size<=sizeLine/\n=y.size
 |.ref p=>(∃xs,bI K H p xs/\n=xs.length)\/∃xs,bz K H p xs/\n=xs.length
 |_=>False
theorem i9:bu X (.builtin "len") (λxs H Q=>∃x n,xs=[x]/\Gw X.K x H n/\Q (.int n) H):=by
 intro pins s σ H xs us Q I r h;obtain⟨x,n,rfl,e,q⟩:=h;obtain⟨u,rfl,rx⟩:=vals1 r;have hl:=iS;have hs:sizeLine=16777216:=La
 cases x with
 |str y =>
  obtain⟨t,rfl⟩:=rx;obtain⟨hy,e'⟩:y.length<=sizeLine/\n=y.length:=e;subst e';exact len_str (by lia) ⟨.int _,H,I.tok _,⟨_,rfl⟩,q⟩
 |qK y =>
  obtain⟨t,rfl⟩:=rx;obtain⟨hy,e'⟩:y.size<=sizeLine/\n=y.size:=e;subst e';exact W.len_bytes (by lia) ⟨.int _,H,I.tok _,⟨_,rfl⟩,q⟩
 |ref p =>
  cases rx;have e':(∃xs,bI X.K H p xs/\n=xs.length)\/∃xs,bz X.K H p xs/\n=xs.length:=e;rcases e' with ⟨xs,hx,e'⟩|⟨xs,hx,e'⟩
  ·subst e';obtain⟨its,r',pl,hz⟩:=I.list hx;have hlen:=r'.length;exact Calls.call_len_list pl.isList (by simp only[J8];lia) ⟨.int xs.length,H,I.tok _,⟨_,by simp only[J8];rw[hlen]⟩,q⟩
  ·subst e';obtain⟨its,r',pl,hz⟩:=I.tuple hx;have hlen:=r'.length;exact len_tuple pl (by simp only[J8];lia) ⟨.int xs.length,H,I.tok _,⟨_,by simp only[J8];rw[hlen]⟩,q⟩
 |_=>exact (show False from e).elim
end
structure qO (h:Heap) (x dx C:Addr) (mA:Str->Option Value):Prop where
 obj:h.get? x=some (W.instObj C dx)
 ns:h.Ns1 dx mA
 ne:dx≠x
theorem we{dx:Addr}(n:h.Ns1 dx mA):∃od,h.get? dx=some od/\∀name,W.lookIn name od=some (mA name):=by
 obtain⟨o,es,ep,ho,hd,hk,_,hm⟩:=n;refine⟨o,ho,λname=>?_⟩;have e:=hm name;unfold nsFind findBy at e;rw[<- Array.find?_toList] at e;unfold W.lookIn;rw[hd];dsimp only;split
 ·rename_i y q;rw[q] at e;exact Kt some e
 ·rename_i q;rw[q] at e;have a:es.toList.any (·.refKey)=false:=by
   rw[List.any_eq_false];intro y hy;obtain⟨z,t,hkey⟩:=hk y (Array.mem_toList_iff.mp hy);simp[DictEntry.refKey,hkey]
  have a':¬ es.toList.any (·.refKey)=true:=by rw[a];exact JO
  rw[JA a'];exact Kt some e
theorem qO.look{x dx:Addr}(I:qO h x dx C mA):∃od,W.InstAt h x (W.instObj C dx) C (some od)/\∀name,W.lookIn name od=some (mA name):=
 let ⟨od,ho,hl⟩:=we I.ns
 ⟨od,⟨I.obj,rfl,rfl,ho⟩,hl⟩
section
variable {prog:Program} {w:World} {A:Around} {E:Value->Shared->Prop} {s:Shared} {K:W.Frag} {x dx C f:Addr} {mA:Str->Option Value} {name:Str} {v:Value}
theorem get_map{expr:Bool}(X:K.In s.heap)(I:qO s.heap x dx C mA)(hg:W.plainGet K C name=true)(hh:W.hasDictIn K C=true)
  (ha:W.findIn K (.ref C) name=some none) (hv:mA name=some v) (hv':W.handedIn v=true) (h:Q v {s with toks:=s.toks+1}) :
  wpAny (model prog w) A (getAttr (.ref x) name expr) Q E s:=by
 obtain⟨od,J,hl⟩:=I.look;exact W.get_value X J (O4 hg).1 (W.findObj_own hh ha rfl (by rw[hl,hv])) hv' h
theorem yh{Q:Value×List Value->Shared->Prop}(X:K.In s.heap)(I:qO s.heap x dx C mA)(hg:W.plainGet K C name=true)
  (hf:W.findIn K (.ref C) name=some (some (.ref f))) (ht:W.isFn K (.ref f)=true) (hv:mA name=none) (h:Q (.ref f,[.ref x]) s) :
  wpAny (model prog w) A (getMethod (.ref x) name pl) Q E s:=by
 obtain⟨od,J,hl⟩:=I.look;exact W.method_fn X J (O4 hg).1 (O4 hg).2 hf (Me.mp ht) (by show (W.lookIn name od).map (·.isSome)=some false;rw[hl,hv];rfl) h
theorem Bm{ns:List Str}{Q:Unit->Shared->Prop}(X:K.In s.heap)(I:qO s.heap x dx C mA)
  (hs:W.findIn K (.ref C) "__setattr__"=some (some (.builtin "object.__setattr__"))) (hp:W.plainOver K C=true) (ht:W.takerIn K C name=some none) (hh:W.hasDictIn K C=true)
  (hw:PySem.Within mA ns) (hsz:ns.length<=sizeLine)
  (h:∀h',qO h' x dx C (λy=>if y=name then some v else mA y)->Heap.SameBut dx s.heap h'->Q () {s with heap:=h',toks:=s.toks+2}) :
  wpAny (model prog w) A (setAttr (.ref x) name v) Q E s:=by
 obtain⟨od,J,hl⟩:=I.look;refine W.set_plain X J hs (W.osa_open (s:={s with toks:=s.toks+1}) (r:=none) X J hp ht λb=>?_)
 obtain⟨cd,hc,hd'⟩:=W.any_some hh;have hx:s.heap.get? x=some ⟨.ref C,some dx,.plain,#[]⟩:=I.obj;refine Jy (JJ (Jy (Jy (wpAny_loadPart hx (Jy (W.Looks.here (s:={s with toks:=s.toks+1}) (W.looks_clsIn X hc) ?_))))))
 rw[hd'];refine JJ (a:=some dx) (Jy (JJ (Jy ?_)));refine wpAny_nsSet1 (s:={s with toks:=s.toks+1}) I.ns λh' hn2 hs2=>?_
 obtain⟨oD,esD,epD,hoD,hdD,hcD⟩:=hn2.count (PySem.Within.cons name v hw);refine Jy (wpAny_lookBehind hoD (by rw[hdD];exact pastItsLine_dict (JF hcD (by rw[JK];lia))) ?_)
 exact JJ (h _ ⟨(hs2.2 _ (KP I.ne)).trans I.obj,hn2,I.ne⟩ hs2)
theorem zM{R:Result->Shared->Prop}{vs:List Value}(X:K.In s.heap)(hm:W.makesIn K C=true)
  (hi:W.findIn K (.ref C) "__init__"=some (some (.ref f))) (hf:W.typeIn K (.ref f)=some (.type "function"))
  (h:codeAny (model prog w) (A.under (.builtin "type.__call__" ⟨.ref C::vs,kw⟩)) (.call (.ref f) ⟨.ref (s.heap.objs.size+1)::vs,kw⟩) (W.InitBack (s.heap.objs.size+1) R)
   {s with heap:=(s.heap.push W.emptyDict).push (W.instObj C s.heap.objs.size)}) :
  codeAny (model prog w) A (.call (.ref C) ⟨vs,kw⟩) R s:=by
 obtain⟨hh,g,d,t,os⟩:=s;exact W.make_core (W.makes_of X hm) (W.looks_findIn X hi) (λself=>W.bind_fn X self hf) (.inl rfl) h
end
noncomputable def dD(f:Str)(v:V):List (Str×V)->List (Str×V)
 |[]=>[(f,v)]
 | (g,x)::r=>if g=f then (g,v)::r else (g,x)::dD f v r
theorem jx(f g:Str)(v:V):∀fs:List (Str×V),(dD f v fs).lookup g=if g=f then some v else fs.lookup g
 |[]=>by
  show List.lookup g [(f,v)]=_;by_cases h:g=f
  ·have hb:(g == f)=true:=Me.mpr h;simp only[List.lookup,hb,JE h]
  ·have hb:(g == f)=false:=Ka.mpr h;simp only[List.lookup,hb,JA h]
 | (k,x)::r=>by
  have ih:=jx f g v r;rw[show dD f v ((k,x)::r)=(if k=f then (k,v)::r else (k,x)::dD f v r) from rfl]
  by_cases hk:k=f
  ·rw[JE hk];by_cases h:g=k
   ·have hb:(g == k)=true:=Me.mpr h;simp only[List.lookup,hb,JE (h.trans hk)]
   ·have hb:(g == k)=false:=Ka.mpr h;simp only[List.lookup,hb,JA (λe:g=f=>h (e.trans hk.symm))]
  ·rw[JA hk];by_cases h:g=k
   ·have hb:(g == k)=true:=Me.mpr h;simp only[List.lookup,hb,JA (λe:g=f=>hk (h.symm.trans e))]
   ·have hb:(g == k)=false:=Ka.mpr h;simp only[List.lookup,hb];exact ih
theorem i_(f:Str)(v:V):∀fs:List (Str×V),f∈(dD f v fs).map (·.1)/\∀g,g∈fs.map (·.1)->g∈(dD f v fs).map (·.1)
 |[]=>⟨by simp[dD],λg h=>by simp at h⟩
 | (k,x)::r=>by
  obtain⟨i1,i2⟩:=i_ f v r;rw[show dD f v ((k,x)::r)=(if k=f then (k,v)::r else (k,x)::dD f v r) from rfl]
  by_cases hk:k=f
  ·rw[JE hk];subst hk;exact⟨by simp,λg h=>by simpa using h⟩
  ·rw[JA hk];refine⟨?_,λg h=>?_⟩
   ·rw[Kg];exact JG _ i1
   ·rw[Kg] at h ⊢;rcases J9.mp h with e|e
    ·exact J9.mpr (.inl e)
    ·exact JG _ (i2 g e)
theorem jv(f:Str)(v:V):∀fs:List (Str×V),(dD f v fs).length<=fs.length+1
 |[]=>by simp[dD]
 | (k,x)::r=>by
  have ih:=jv f v r;rw[show dD f v ((k,x)::r)=(if k=f then (k,v)::r else (k,x)::dD f v r) from rfl]
  by_cases hk:k=f
  ·rw[JE hk,JK,JK];lia
  ·rw[JA hk,JK,JK];lia
theorem gU.some_of{v:V}{o:Option Value}(r:gU (some v) o):∃u,o=some u/\RelV v u:=by
 cases o with
 |none=>exact (show False from r).elim
 |some u=>exact⟨u,rfl,r⟩
theorem gU.none_of{o:Option Value}(r:gU none o):o=none:=by
 cases o with
 |none=>rfl
 |some u=>exact (show False from r).elim
theorem vc{v:V}(r:RelV v u):W.handedIn u=true:=by
 cases v with
 |aR=>cases (show u=Value.none from r);rfl
 |bl b=>cases (show u=Value.bool b from r);rfl
 |int i=>obtain⟨t,e⟩:=(show ∃t,u=Value.int i t from r);cases e;rfl
 |str x=>obtain⟨t,e⟩:=(show ∃t,u=Value.str x t from r);cases e;rfl
 |qK b=>obtain⟨t,e⟩:=(show ∃t,u=Value.bytes b t from r);cases e;rfl
 |Dh b=>obtain⟨t,e⟩:=(show ∃t,u=Value.float b t from r);cases e;rfl
 |ref a=>cases (show u=Value.ref a from r);rfl
 |ty n=>cases (show u=Value.type n from r);rfl
section
variable {P:Program} {w:World} {H H':Hp} {h h':Heap} {a C dx:Addr} {fs fs':List (Str×V)}
theorem jT(aQ:iq P w H h)(e:H a=some (.ins C dx fs)):∃mA,qO h a dx C mA/\(∀f,gU (fs.lookup f) (mA f))/\PySem.Within mA (fs.map (·.1))/\fs.length<=1000/\H dx=some (.own a):=by
 obtain⟨d,z,ne,ob,mA,n,r,q⟩:=(show b9 P w H h a (.ins C dx fs) from aQ a _ e);exact⟨mA,⟨ob,n,ne⟩,r,q,z,d⟩
end
structure lV (K:W.Frag) (C:Addr):Prop where
 pg:W.plainGet K C Str.empty=true
 hd:W.hasDictIn K C=true
 po:W.plainOver K C=true
 sa:W.findIn K (.ref C) "__setattr__"=some (some (.builtin "object.__setattr__"))
theorem lV.get(c:lV K C)(f:Str):W.plainGet K C f=true:=c.pg
noncomputable def bK(K:W.Frag)(C:Addr)(f:Str):Prop:=W.findIn K (.ref C) f=some none
theorem bK.Gj{f:Str}(n:bK K C f):W.takerIn K C f=some none:=by
 unfold W.takerIn;rw[show W.findIn K (.ref C) f=some none from n];rfl
structure Meth (K:W.Frag) (C:Addr) (m:Str) (f:Addr):Prop where
 at_:W.findIn K (.ref C) m=some (some (.ref f))
 fn:W.isFn K (.ref f)=true
 kp:W.keepIn K (.ref f)=true
section
variable {X:Cx} {pins:List (Addr×Obj)} {σ:St} {H:Hp} {s:Shared} {a C dx:Addr} {fs:List (Str×V)} {f:Str} {v:V} {A:Around} {E:Value->Shared->Prop}
theorem rk{b:Bool}(I:Inv X pins σ H s)(e:H a=some (.ins C dx fs))(c:lV X.K C)(n:bK X.K C f)(l:fs.lookup f=some v)
  (h:∀u s',Inv X pins σ H s'->RelV v u->Q u s'):wpAny (model X.prog X.w) A (getAttr (.ref a) f b) Q E s:=by
 obtain⟨mA,O,r,_,_,_⟩:=jT I.aQ e;obtain⟨u,hu,ru⟩:=gU.some_of (v:=v) (o:=mA f) (by rw[<- l];exact r f)
 exact get_map I.iP O (c.get f) c.hd n hu (vc ru) (h u _ (I.tok _) ru)
theorem lK{m:Str}{g:Addr}{Q:Value×List Value->Shared->Prop}(I:Inv X pins σ H s)(e:H a=some (.ins C dx fs))(c:lV X.K C)(k:Meth X.K C m g)(l:fs.lookup m=none)
  (h:Q (.ref g,[.ref a]) s):wpAny (model X.prog X.w) A (getMethod (.ref a) m pl) Q E s:=by
 obtain⟨mA,O,r,_,_,_⟩:=jT I.aQ e;have hn:mA m=none:=gU.none_of (by rw[<- l];exact r m)
 exact yh I.iP O (c.get m) k.at_ k.fn hn h
theorem qV{y:V}{Q:Unit->Shared->Prop}(I:Inv X pins σ H s)(e:H a=some (.ins C dx fs))(c:lV X.K C)(n:bK X.K C f)(hl:fs.length<1000)(ry:RelV y u)
  (h:∀s',Inv X pins σ (upd H a (.ins C dx (dD f y fs))) s'->Q () s'):wpAny (model X.prog X.w) A (setAttr (.ref a) f u) Q E s:=by
 obtain⟨mA,O,r,wi,_,ho⟩:=jT I.aQ e;have hz:(fs.map (·.1)).length<=sizeLine:=by rw[Jz,La];lia
 refine Bm I.iP O c.sa c.po n.Gj c.hd wi hz λh' O' sb=>h _ ?_;have hd:∃o,h'.get? dx=some o:=let ⟨o,_,_,e',_⟩:=O'.ns;⟨o,e'⟩
 refine I.write (x:=a) (e:=dx) (by rw[e];exact True.intro) (.inr ho) (λb q hb z=>(sb.2 b hb).trans z) hd ?_
 refine⟨by rw[aj O.ne];exact ho,?_,O.ne,O'.obj,_,O'.ns,λg=>?_,λg hg=>?_⟩
 ·have:=jv f y fs;lia
 ·show gU ((dD f y fs).lookup g) (if g=f then some u else mA g)
  rw[jx];by_cases q:g=f
  ·rw[JE q,JE q];exact ry
  ·rw[JA q,JA q];exact r g
 ·by_cases q:g=f
  ·rw[q];exact (i_ f y fs).1
  ·refine (i_ f y fs).2 g (wi g λz=>hg ?_);show (if g=f then some u else mA g)=none
   rw[JA q];exact z
theorem Inv.made(I:Inv X pins σ H s):Inv X pins σ (upd (upd H s.heap.objs.size (.own (s.heap.objs.size+1))) (s.heap.objs.size+1) (.ins C s.heap.objs.size []))
  {s with heap:=(s.heap.push W.emptyDict).push (W.instObj C s.heap.objs.size)}:=by
 have e1:(s.heap.push W.emptyDict).get? s.heap.objs.size=some W.emptyDict:=JM s.heap rfl;have e2:((s.heap.push W.emptyDict).push (W.instObj C s.heap.objs.size)).get? (s.heap.objs.size+1)=some (W.instObj C s.heap.objs.size):=by
  have:=JM (s.heap.push W.emptyDict) (o:=W.instObj C s.heap.objs.size) rfl
  rwa [K7] at this
 have e3:(s.heap.push W.emptyDict).Ns s.heap.objs.size (λ_=>none):=⟨W.emptyDict,#[],_,e1,rfl,(λe he=>absurd he (by simp)),λ_=>rfl⟩
 have I1:=I.laid (a:=s.heap.objs.size) (o:=.own (s.heap.objs.size+1)) (h':=s.heap.push W.emptyDict) (t':=s.toks) (λb u q=>J7 _ q) (JD _) ⟨_,e1⟩;refine I1.laid (a:=s.heap.objs.size+1) (o:=.ins C s.heap.objs.size []) (t':=s.toks) (λb u q=>J7 _ q) (O8 (K7 _ _)) ?_;have ne:s.heap.objs.size≠s.heap.objs.size+1:=JX (Ly _);refine⟨by rw[aj ne,ae],JL _,ne,e2,λ_=>none,(Heap.Ns1.of_empty e3).at λo q=>J7 _ q,λ_=>True.intro,λy hy=>absurd rfl hy⟩
theorem Bd{prog:Program}{env:Env}{f:Str}{pos:Pos}{s:Shared}(hb:attributeBase e f env (eval e env)=eval e env)
  (h:wpAny (model prog w) A (eval e env) (λo s₁=>wpAny (model prog w) A (getAttr o f true) Q E s₁) E s):wpAny (model prog w) A (eval (.Attribute e f pos) env) Q E s:=
 Attribute_any_ h (by rw[arm_eval_Attribute,hb])
end
noncomputable def yi(K:W.Frag)(ta:TE)(f:Str):TE:=λσ H Q=>ta σ H λx H1=>∃a C dx fs v,x=.ref a/\H1 a=some (.ins C dx fs)/\lV K C/\bK K C f/\fs.lookup f=some v/\Q v H1
noncomputable def yd(K:W.Frag)(ta tv:TE)(f:Str):TS:=λD σ H=>tv σ H λy H1=>ta σ H1 λx H2=>∃a C dx fs,x=.ref a/\H2 a=some (.ins C dx fs)/\lV K C/\bK K C f/\fs.length<1000 /\
 D.nx σ (upd H2 a (.ins C dx (dD f y fs)))
section
variable {X:Cx} {o e value:Expr} {f:Str} {pos pos' tpos:Pos} {ta tv:TE}
theorem Fc(he:PE X e ta)(hb:attributeBase e f X.env (eval e X.env)=eval e X.env):PE X (.Attribute e f pos) (yi X.K ta f):=by
 intro pins s σ H Q I h;refine Bd hb (cp (he pins s σ H _ I h) λu s1 hq40=>?_);obtain⟨x,H1,I1,rx,a,C,dx,fs,v,ex,ea,c,n,l,q⟩:=hq40;subst ex;obtain rfl:u=Value.ref a:=rx;exact rk I1 ea c n l λu' s2 I2 ru=>⟨v,H1,I2,ru,q⟩
theorem DZ(ha:PE X o ta)(hv:PE X value tv)(hs:swapsWith value (some (.Attribute o f pos')) pos.line X.env=pure false):PS X (.Assign [.Attribute o f pos'] value pos) (yd X.K ta tv f):=by
 intro pins s σ H D I h;refine plainObj_wpAny_Assign_Attribute (cp (hv pins s σ H _ I h) λu s1 ⟨y,H1,I1,ry,q⟩=>cp (ha pins s1 σ H1 _ I1 q) λov s2 hq42=>?_) hs;obtain⟨x,H2,I2,rx,a,C,dx,fs,ex,ea,c,n,l,q2⟩:=hq42;subst ex;obtain rfl:ov=Value.ref a:=rx;exact qV I2 ea c n l ry λs3 I3=>⟨σ,_,I3,q2⟩
end
section
variable {X:Cx} {pins:List (Addr×Obj)} {σ:St} {H:Hp} {s:Shared} {A:Around} {E:Value->Shared->Prop} {Q:Value->Shared->Prop} {c:Value} {b:Bool}
inductive ic (K:W.Frag) (H:Hp):V->Value->Prop where
 |aR:ic K H .aR (.type "NoneType")
 |bl (x:Bool):ic K H (.bl x) (.type "bool")
 |int (i:Int):ic K H (.int i) (.type "int")
 |str (x:Str):ic K H (.str x) (.type "str")
 |Dh (x:UInt64):ic K H (.Dh x) (.type "float")
 |lst {a:Addr} {xs:List V} (e:H a=some (.lst xs)):ic K H (.ref a) (.type "list")
 |jn {a:Addr} {o:Obj} {xs:List V} (e:H a=some (.jn o (.lst xs))):ic K H (.ref a) (.type "list")
 |tup {a:Addr} {xs:List V} (e:H a=some (.tup xs)):ic K H (.ref a) (.type "tuple")
 |dK {a:Addr} {kvs:List (Key×V)} (e:H a=some (.dK kvs)):ic K H (.ref a) (.type "dict")
 |dT {a:Addr} {kvs:List (List Key×V)} (e:H a=some (.dT kvs)):ic K H (.ref a) (.type "dict")
 |ins {a C dx:Addr} {fs:List (Str×V)} (e:H a=some (.ins C dx fs)) (cl:lV K C) (ha:W.findIn K (.ref C) "__class__"=some (some (.builtin "object.__class__")))
   (hn:W.specialIn K (.builtin "object.__class__") "__get__"=some (some (.builtin "getset_descriptor.__get__"))) (htk:W.takesIn K (.builtin "object.__class__")=some true)
   (hm:W.mroIn K C (.type "object")=some true):ic K H (.ref a) (.ref C)
theorem m9{x:V}{t:Value}(I:Inv X pins σ H s)(rx:RelV x u)(ty:ic X.K H x t)(e:W.kitOne X.K t c=some b)(h:∀tk,Q (.bool b) {s with toks:=tk}):
  wpAny (model X.prog X.w) A (call (.builtin "isinstance") [u,c]) Q E s:=by
 cases ty with
 |aR=>cases (show u=Value.none from rx);exact L7 W.kitx_none I.iP True.intro e (λz=>nomatch z) h
 |bl y=>cases (show u=Value.bool y from rx);exact L7 W.kitx_bool I.iP True.intro e (λz=>nomatch z) h
 |int i=>obtain⟨t,q⟩:=(show ∃t,u=Value.int i t from rx);cases q;exact L7 W.kitx_int I.iP True.intro e (λz=>nomatch z) h
 |str y=>obtain⟨t,q⟩:=(show ∃t,u=Value.str y t from rx);cases q;exact L7 W.kitx_str I.iP True.intro e (λz=>nomatch z) h
 |Dh y=>obtain⟨t,q⟩:=(show ∃t,u=Value.float y t from rx);cases q;exact L7 W.kitx_float I.iP True.intro e (λz=>nomatch z) h
 |@lst a xs ea =>
  cases (show u=Value.ref a from rx)
  obtain⟨_,_,n,_,h1⟩:=(show b9 X.prog X.w H s.heap a (.lst xs) from I.aQ a _ ea);exact L7 W.kitx_list I.iP ⟨_,h1,rfl⟩ e (λz=>nomatch z) h
 |@jn a ob xs ea =>
  cases (show u=Value.ref a from rx)
  obtain⟨_,_,_,n,_,h1⟩:=(show b9 X.prog X.w H s.heap a (.jn ob (.lst xs)) from I.aQ a _ ea);exact L7 W.kitx_list I.iP ⟨_,h1,rfl⟩ e (λz=>nomatch z) h
 |@tup a xs ea =>
  cases (show u=Value.ref a from rx)
  obtain⟨_,_,_,p⟩:=(show b9 X.prog X.w H s.heap a (.tup xs) from I.aQ a _ ea);obtain⟨o,h1,h2,_⟩:=p;exact L7 W.kitx_tuple I.iP ⟨o,h1,h2⟩ e (λz=>nomatch z) h
 |@dK a kvs ea =>
  cases (show u=Value.ref a from rx)
  obtain⟨_,_,vs,_,p⟩:=(show b9 X.prog X.w H s.heap a (.dK kvs) from I.aQ a _ ea);obtain⟨o,es,ep,h1,h2,_⟩:=p;exact L7 W.kitx_dict I.iP ⟨o,h1,h2.1⟩ e (λz=>nomatch z) h
 |@dT a kvs ea =>
  cases (show u=Value.ref a from rx)
  obtain⟨_,_,xs,_,o,es,ep,h1,h2,_⟩:=(show b9 X.prog X.w H s.heap a (.dT kvs) from I.aQ a _ ea);exact L7 W.kitx_dict I.iP ⟨o,h1,h2.1⟩ e (λz=>nomatch z) h
 |@ins a C dx fs ea cl ha hn htk hm =>
  cases (show u=Value.ref a from rx)
  obtain⟨mA,O,_⟩:=jT I.aQ ea;obtain⟨od,J,_⟩:=O.look;exact L7 (W.kitx_own (cl.get _) cl.hd ha hn htk hm) I.iP J e (λz=>nomatch z) h
end
structure bM (k:Nat) (A:Around):Prop where
 hd:A.handled=none
 dp:A.depth+3*k+5<recursionLimit
 un:A.units+16*k+200<cLine
 gd:A.guards=some []
theorem bM.mono{k:Nat}{A:Around}(r:bM k A)(h:j<=k):bM j A:=⟨r.hd,by have:=r.dp;lia,by have:=r.un;lia,r.gd⟩
theorem bM.deeper{k:Nat}{A:Around}(r:bM (k+1) A)(env:Env):bM k (A.deeper env):=
 ⟨r.hd,by have:=r.dp;show A.depth+1+3*k+5<_;lia,by have:=r.un;show A.units+3+16*k+200<_;lia,r.gd⟩
theorem bM.in1{k:Nat}{A:Around}(r:bM (k+1) A):bM k A.in1:=
 ⟨r.hd,by have:=r.dp;show A.depth+3*k+5<_;lia,by have:=r.un;show A.units+1+16*k+200<_;lia,r.gd⟩
theorem qU{A:Around}:(A.under (.builtin "type.__call__" ⟨.ref C::us,kw⟩)).depth=A.depth+1:=by
 first|rfl|simp[Around.under,Code.weight,Code.isCreation,Code.isGuard,Code.isCaller,Code.frames,Code.isFrame,guardIds]
theorem rF{A:Around}:(A.under (.builtin "type.__call__" ⟨.ref C::us,kw⟩)).units=A.units+1:=by
 first|rfl|simp[Around.under,Code.cUnits,Code.frames,Code.isFrame]
theorem bM.make{k:Nat}{A:Around}(r:bM (k+1) A)(C:Addr)(us:List Value)(kw:List (Str×Value)):bM k (A.under (.builtin "type.__call__" ⟨.ref C::us,kw⟩)):=
 ⟨r.hd,by have:=r.dp;rw[qU];lia,by have:=r.un;rw[rF];lia,by have h:=r.gd;first|exact h | (simp[Around.under,Code.guards,Code.isGuard,guardIds];exact h)⟩
theorem bM.depth{k:Nat}{A:Around}(r:bM k A):A.depth<recursionLimit:=by have:=r.dp;lia
theorem bM.units{k:Nat}{A:Around}(r:bM k A):A.units+64<cLine:=by have:=r.un;lia
noncomputable def oz:TA:=λ_ H Q=>Q [] H
noncomputable def jz(ta:TE)(tr:TA):TA:=λσ H Q=>ta σ H λx H1=>tr σ H1 λxs H2=>Q (x::xs) H2
section
variable {X:Cx} {e:Expr} {es:List Expr} {te:TE} {t:TA} {pos:Pos}
theorem yW:PA X [] oz:=λ_ _ _ _ H Q I h=>Calls.spliced_nil ⟨[],H,I,.nil,h⟩
theorem ud(ha:PE X e te)(hr:PA X es t)(hs:autoParam (starEach (e::es) X.env=(false,eval e X.env)::starEach es X.env) ℜ0):PA X (e::es) (jz te t):=by
 intro pos pins s σ H Q I h;rw[hs];show wpAny _ _ (spliced ((false,eval e X.env)::backTo pos (starEach es X.env))) _ _ s;refine Calls.spliced_cons (cp (ha pins s σ H _ I h) λu s1 hq46=>?_);obtain⟨x,H1,I1,r1,q1⟩:=hq46;exact cp (hr pos pins s1 σ H1 _ I1 q1) λus s2 ⟨xs,H2,I2,r2,q2⟩=>⟨x::xs,H2,I2,.cons r1 r2,q2⟩
noncomputable def xC(t:TA):TE:=λσ H Q=>t σ H λxs H1=>xs.length<=sizeLine/\∀p,H1 p=none->Q (.ref p) (upd H1 p (.tup xs))
noncomputable def zL(t:TA):TE:=λσ H Q=>t σ H λxs H1=>xs.length<=sizeLine/\∀p,H1 p=none->Q (.ref p) (upd H1 p (.lst xs))
theorem EI{x1}(h:PA X es t):PE X (.Tuple es x1 pos) (xC t):=by
 intro pins s σ H Q I hq;refine wpAny_Tuple_spliced (cp (h pos pins s σ H _ I hq) λus s1 ⟨xs,H1,I1,r,z,q⟩=>⟨by rw[<- r.length];exact z,?_⟩)
 have hf:H1 s1.heap.objs.size=none:=I1.aQ.fresh (JD _);refine⟨.ref s1.heap.objs.size,upd H1 s1.heap.objs.size (.tup xs),I1.laid (t':=s1.toks) (λb u e=>J7 _ e) (JD _) ?_,rfl,q _ hf⟩;exact⟨z,us,r,⟨_,JM _ rfl,rfl,_,rfl,rfl⟩⟩
theorem DL(h:PA X es t):PE X (.List es pos) (zL t):=by
 intro pins s σ H Q I hq;refine wpAny_List_spliced (cp (h pos pins s σ H _ I hq) λus s1 ⟨xs,H1,I1,r,z,q⟩=>⟨by rw[<- r.length];exact z,?_⟩)
 have hf:H1 s1.heap.objs.size=none:=I1.aQ.fresh (JD _);refine⟨.ref s1.heap.objs.size,upd H1 s1.heap.objs.size (.lst xs),I1.laid (t':=s1.toks) (λb u e=>J7 _ e) (JD _) ?_,rfl,q _ hf⟩;exact⟨z,us,0,r,JM _ rfl⟩
end
abbrev Sp:=List V->Hp->VK->XK->Prop
abbrev pJ:=List Env->Hp->Shared->XK->Value->Shared->Prop
variable{CX:pJ}
structure qS (P:Program) (w:World) (K:W.Frag) (mg:Str->Option Value) (base:Heap) (A:Around) (outer:List Env) (s:Shared) (H:Hp):Prop where
 frames:A.frames=some outer
 mod:Mod K mg base
 bs:∀b o,base.get? b=some o->s.heap.get? b=some o/\H b=none
 Am:base.objs.size<=s.heap.objs.size
 jG:s.heap.FunFrames base outer
 Ds:∀b∈ya outer,H b=none
 aQ:iq P w H s.heap
 bare:AllBare s.gens
 tabs:TabsOk K H
noncomputable def CE(outer:List Env)(P:Program)(w:World)(H:Hp)(s:Shared)(Q:VK)(u:Value)(s':Shared):Prop:=
 ∃v H',s'.os=s.os/\AllBare s'.gens/\Un (ya outer) [] H H' s.heap s'.heap/\iq P w H' s'.heap/\RelV v u/\Q v H'
noncomputable def CR(CX:pJ)(outer:List Env)(P:Program)(w:World)(H:Hp)(s:Shared)(Q:VK)(E:XK)(r:Result)(s':Shared):Prop:=
 match r with
 |.ok (.ret u)=>CE outer P w H s Q u s'
 |.ok _=>False
 |.error e=>CX outer H s E e s'
structure cN (P:Program) (w:World) (K:W.Frag) (mg:Str->Option Value) (base:Heap) (CX:pJ) (k:Nat) (f:Addr) (fd:FuncData) (ps:List Str) (sp:Sp):Prop where
 len:∀vs H Q E,sp vs H Q E->vs.length=ps.length
 run:∀(A:Around) (outer:List Env) (s:Shared) (H:Hp) (args:Args) (us:List Value) (vs:List V) (Q:VK) (E:XK),bM k A->qS P w K mg base A outer s H->BindsTo s fd args (ps.zip us)->Vals vs us->sp vs H Q E ->
  codeAny (model P w) A (.call (.ref f) args) (CR CX outer P w H s Q E) s
theorem cN.mono{k:Nat}{f:Addr}{ps:List Str}{sp:Sp}(F:cN P w K mg base CX j f fd ps sp)(h:j<=k):
  cN P w K mg base CX k f fd ps sp:=⟨F.len,λA outer s H args us vs Q E hr=>F.run A outer s H args us vs Q E (hr.mono h)⟩
theorem qS.make{A:Around}{s:Shared}(e:qS P w K mg base A outer s H)(C:Addr)(us:List Value)(kw:List (Str×Value)):
  qS P w K mg base (A.under (.builtin "type.__call__" ⟨.ref C::us,kw⟩)) outer s H:=⟨by first|exact e.frames | (simpa[Around.under,Code.envs,Code.isFrame,pushEnvs] using e.frames),e.mod,e.bs,e.Am,e.jG,e.Ds,e.aQ,e.bare,e.tabs⟩
section
variable {X:Cx} {pins:List (Addr×Obj)} {σ:St} {H:Hp} {s s':Shared}
theorem Inv.GG(I:Inv X pins σ H s):qS X.prog X.w X.K X.mg X.base X.A X.stack s H:=
 ⟨I.ok.frames,I.ok.mod,I.bs,JF I.ok.Am I.sz,I.stack,I.oi,I.aQ,I.bare,I.ok.tabs.un I.base⟩
theorem Inv.after{Q:VK}(I:Inv X pins σ H s)(h:CE X.stack X.prog X.w H s Q u s'):EP X pins σ Q u s':=by
 obtain⟨v,H',os,bare,un,aQ,r,q⟩:=h;obtain⟨hh,g,d,t,os'⟩:=s';obtain rfl:os'=s.os:=os;exact⟨v,H',I.call (h':=hh) (g':=g) (d':=d) (t':=t) (ch:=[]) un aQ bare (λb z=>absurd z (by simp)),r,q⟩
end
noncomputable def jt(sp:Sp)(dvs:List V)(E:XK)(t:TA):TE:=λσ H Q=>t σ H λvs H1=>sp (vs++dvs) H1 Q E
noncomputable def kE(C:Addr)(m:Str)(sp:Sp)(dvs:List V)(E:XK)(ta:TE)(t:TA):TE:=λσ H Q=>ta σ H λx H1=>∃a dx fs,x=.ref a/\H1 a=some (.ins C dx fs)/\fs.lookup m=none /\
 t σ H1 λvs H2=>sp (x::(vs++dvs)) H2 Q E
noncomputable def pH(C:Addr)(sp:Sp)(dvs:List V)(E:XK)(t:TA):TE:=λσ H Q=>t σ H λvs H1=>∀x dx,H1 x=none->H1 dx=none->dx≠x ->
 sp (.ref x::(vs++dvs)) (upd (upd H1 dx (.own x)) x (.ins C dx [])) (λv H2=>v=.aR/\Q (.ref x) H2) E
noncomputable def Binds(K:W.Frag)(fd:FuncData)(ps:List Str)(ds:List Value):Prop:=
 ∀(s:Shared) (us:List Value),K.In s.heap->(us++ds).length=ps.length->BindsTo s fd ⟨us,[]⟩ (ps.zip (us++ds))
theorem Binds.all{ps:List Str}(h:∀us:List Value,us.length=ps.length->bindArgs fd ⟨us,[]⟩=pure (ps.zip us)):Binds K fd ps []:=λs us _ hl=>by
 rw[Kp] at hl ⊢;exact .of_eq (h us hl)
noncomputable def Passes(CX:pJ)(X:Cx)(E:XK):Prop:=∀(pins:List (Addr×Obj)) (σ:St) (H:Hp) (s:Shared) (e:Value) (s':Shared),Inv X pins σ H s->CX X.stack H s E e s'->X.xe e s'
section
variable {X:Cx} {CX:pJ} {k:Nat} {f C:Addr} {fd:FuncData} {ps:List Str} {sp:Sp} {dvs:List V} {ds:List Value} {E:XK} {x m:Str} {p pos apos:Pos} {e o:Expr} {es:List Expr} {ta:TE} {t:TA}
theorem rV{s:Shared}{Q:VK}{vs:List V}(F:cN X.prog X.w X.K X.mg X.base CX k f fd ps sp)(hr:bM k X.A)(hb:Binds X.K fd ps ds)(hd:Vals dvs ds)(hx:Passes CX X E)
  (I:Inv X pins σ H s) (r:Vals vs us) (h:sp (vs++dvs) H Q E):wpAny (model X.prog X.w) X.A (call (.ref f) us) (EP X pins σ Q) X.xe s:=by
 have r2:Vals (vs++dvs) (us++ds):=r.append hd;have hl:(us++ds).length=ps.length:=by rw[<- r2.length];exact F.len _ _ _ _ h
 refine wpAny_call (O9 (F.run X.A X.stack s H ⟨us,[]⟩ (us++ds) (vs++dvs) Q E hr I.GG (hb s us I.iP hl) r2 h) λr s' hq=>?_)
 cases r with
 |error e=>exact hx pins σ H s e s' I hq
 |ok fl =>
  cases fl with
  |ret u=>exact I.after hq
  |next=>exact False.elim hq
  |brk=>exact False.elim hq
  |cont=>exact False.elim hq
theorem Cf(F:cN X.prog X.w X.K X.mg X.base CX k f fd ps sp)(hr:bM k X.A)(hg:Gl X x)(hm:X.mg x=some (.ref f))(hk:W.keepIn X.K (.ref f)=true)(hb:Binds X.K fd ps ds)(hd:Vals dvs ds)(hx:Passes CX X E)
  (ha:PA X (e::es) t) (hdb:autoParam ((x ==("__debug__":Str))=false) ℜ1) (he:autoParam (starEach (e::es) X.env=(false,eval e X.env)::starEach es X.env) ℜ0) (hpl:autoParam ((backTo pos (starEach es X.env)).any (·.1)=false) ℜ0) :
  PE X (.Call (.Name x p) (e::es) [] pos) (jt sp dvs E t):=by
 intro pins s σ H Q I h;refine LM (nj I hg hm ?_ hdb);refine OA (h₀:=X.base) I.ok.mod.GW hk (cp (ha pos pins s σ H _ I h) λus s1 ⟨vs,H1,I1,r,q⟩=>⟨I1.iP,?_⟩) he hpl;exact rV F hr hb hd hx I1 r q
theorem Bw{pl:Sem Bool}(he:PE X o ta)(c:lV X.K C)(hm:Meth X.K C m f)(F:cN X.prog X.w X.K X.mg X.base CX k f fd ps sp)(hr:bM k X.A)(hb:Binds X.K fd ps ds)(hd:Vals dvs ds)(hx:Passes CX X E)(ha:PA X (e::es) t)
  (hst:autoParam (starEach (e::es) X.env=(false,eval e X.env)::starEach es X.env) ℜ0) (hpl:autoParam ((backTo pos (starEach es X.env)).any (·.1)=false) ℜ0)
  (ht:autoParam (eval (.Call (.Attribute o m apos) (e::es) [] pos) X.env=(do
   let ov <- eval o X.env
   standAt apos.atName
   let (f,first) <- holding [ov] (getMethod ov m pl)
   callWith pos f first (backTo pos (starEach (e::es) X.env)) (backToKw pos (keywordEach [] X.env)))) ℜ0) :
  PE X (.Call (.Attribute o m apos) (e::es) [] pos) (kE C m sp dvs E ta t):=by
 intro pins s σ H Q I h;refine W.methodCall_KW (pl:=pl) (cp (he pins s σ H _ I h) λu s1 hq47=>?_) ht;obtain⟨x,H1,I1,rx,a,dx,fs,ex,ea,l,q⟩:=hq47;subst ex;obtain rfl:u=Value.ref a:=rx;refine lK I1 ea c hm l ?_;refine OA (first:=[.ref a]) (h₀:=X.base) I.ok.mod.GW hm.kp (cp (ha pos pins s1 σ H1 _ I1 q) λus s2 ⟨vs,H2,I2,r,q2⟩=>⟨I2.iP,?_⟩) hst hpl
 exact rV (us:=.ref a::us) (vs:=.ref a::vs) F hr hb hd hx I2 (.cons rfl r) q2
theorem Ac{pl:Sem Bool}(he:PE X o ta)(c:lV X.K C)(hm:Meth X.K C m f)(F:cN X.prog X.w X.K X.mg X.base CX k f fd ps sp)(hr:bM k X.A)(hb:Binds X.K fd ps ds)(hd:Vals dvs ds)(hx:Passes CX X E)
  (ht:autoParam (eval (.Call (.Attribute o m apos) [] [] pos) X.env=(do
   let ov <- eval o X.env
   standAt apos.atName
   let (f,first) <- holding [ov] (getMethod ov m pl)
   callWith pos f first (backTo pos (starEach [] X.env)) (backToKw pos (keywordEach [] X.env)))) ℜ0) :
  PE X (.Call (.Attribute o m apos) [] [] pos) (kE C m sp dvs E ta oz):=by
 intro pins s σ H Q I h;refine W.methodCall_KW (pl:=pl) (cp (he pins s σ H _ I h) λu s1 hq48=>?_) ht;obtain⟨x,H1,I1,rx,a,dx,fs,ex,ea,l,q⟩:=hq48;subst ex;obtain rfl:u=Value.ref a:=rx;refine lK I1 ea c hm l ?_;exact W.callWith_K0 (first:=[.ref a]) I1.iP hm.kp (rV (us:=[.ref a]) (vs:=[.ref a]) F hr hb hd hx I1 (.cons rfl .nil) q)
structure Mk (K:W.Frag) (C f:Addr):Prop where
 makes:W.makesIn K C=true
 init:W.findIn K (.ref C) "__init__"=some (some (.ref f))
 fn:W.isFn K (.ref f)=true
 kp:W.keepIn K (.ref C)=true
theorem yY{s:Shared}{Q:VK}{vs:List V}(M:Mk X.K C f)(F:cN X.prog X.w X.K X.mg X.base CX k f fd ps sp)(hr:bM (k+1) X.A)(hb:Binds X.K fd ps ds)(hd:Vals dvs ds)
  (hx:Passes CX X E) (I:Inv X pins σ H s) (r:Vals vs us)
  (h:∀x dx,H x=none->H dx=none->dx≠x->sp (.ref x::(vs++dvs)) (upd (upd H dx (.own x)) x (.ins C dx [])) (λv H2=>v=.aR/\Q (.ref x) H2) E) :
  wpAny (model X.prog X.w) X.A (call (.ref C) us) (EP X pins σ Q) X.xe s:=by
 have hq:=h (s.heap.objs.size+1) s.heap.objs.size (I.aQ.fresh (K8 _)) (I.aQ.fresh (JD _)) (JX (Ly _));have I2:=Inv.made (C:=C) I;have r2:Vals (V.ref (s.heap.objs.size+1)::(vs++dvs)) (Value.ref (s.heap.objs.size+1)::(us++ds)):=.cons rfl (r.append hd);have hl:(Value.ref (s.heap.objs.size+1)::us++ds).length=ps.length:=by
  have e:=r2.length;rw[F.len _ _ _ _ hq] at e;exact e.symm
 refine wpAny_call (zM (f:=f) I.iP M.makes M.init (Me.mp M.fn) (O9 (F.run _ X.stack _ _ ⟨Value.ref (s.heap.objs.size+1)::us,[]⟩ (Value.ref (s.heap.objs.size+1)::(us++ds)) _ _ E (hr.make C us [])
  (I2.GG.make C us []) (hb _ (Value.ref (s.heap.objs.size+1)::us) I2.iP hl) r2 hq) λr s' hq'=>?_))
 cases r with
 |error e=>exact hx pins σ _ _ e s' I2 hq'
 |ok fl =>
  cases fl with
  |ret u =>
   obtain⟨v,H',I3,rv,ev,q3⟩:=I2.after hq';subst ev;exact⟨rv,⟨V.ref (s.heap.objs.size+1),H',I3,rfl,q3⟩⟩
  |next=>exact False.elim hq'
  |brk=>exact False.elim hq'
  |cont=>exact False.elim hq'
theorem Bh(M:Mk X.K C f)(F:cN X.prog X.w X.K X.mg X.base CX k f fd ps sp)(hr:bM (k+1) X.A)(hg:Gl X x)(hm:X.mg x=some (.ref C))(hb:Binds X.K fd ps ds)(hd:Vals dvs ds)(hx:Passes CX X E)
  (ha:PA X (e::es) t) (hdb:autoParam ((x ==("__debug__":Str))=false) ℜ1) (he:autoParam (starEach (e::es) X.env=(false,eval e X.env)::starEach es X.env) ℜ0) (hpl:autoParam ((backTo pos (starEach es X.env)).any (·.1)=false) ℜ0) :
  PE X (.Call (.Name x p) (e::es) [] pos) (pH C sp dvs E t):=by
 intro pins s σ H Q I h;refine LM (nj I hg hm ?_ hdb);refine OA (h₀:=X.base) I.ok.mod.GW M.kp (cp (ha pos pins s σ H _ I h) λus s1 ⟨vs,H1,I1,r,q⟩=>⟨I1.iP,?_⟩) he hpl;exact yY M F hr hb hd hx I1 r q
end
noncomputable def PK(X:Cx)(kws:List Keyword)(t:TA):Prop:=
 ∀(pos:Pos) (pins:List (Addr×Obj)) (s:Shared) (σ:St) (H:Hp) (Q:List V->Hp->Prop),Inv X pins σ H s->t σ H Q->wpAny (model X.prog X.w) X.A (evalAll ((backToKw pos (keywordEach kws X.env)).map (·.2))) (AP X pins σ Q) X.xe s
section
variable {X:Cx} {CX:pJ} {k:Nat} {f C:Addr} {fd:FuncData} {ps ks:List Str} {sp:Sp} {E:XK} {x m:Str} {p pos apos kpos:Pos} {e o:Expr} {es:List Expr} {kws:List Keyword} {te ta:TE} {t tk:TA} {nm:Option Str}
theorem Eo:PK X [] oz:=λ_ _ _ _ H Q I h=>wpAny_evalAll_nil ⟨[],H,I,.nil,h⟩
theorem BW(ha:PE X e te)(hr:PK X kws t):PK X (⟨nm,e,kpos⟩::kws) (jz te t):=by
 intro pos pins s σ H Q I h;show wpAny _ _ (evalAll ((do let v <- eval e X.env;standAt pos;pure v)::(backToKw pos (keywordEach kws X.env)).map (·.2))) _ _ s
 refine wpAny_evalAll_cons (Jy (cp (ha pins s σ H _ I h) λu s1 ⟨x,H1,I1,r1,q1⟩=>Jy (N3 (JJ ?_))));exact cp (hr pos pins s1 σ H1 _ I1 q1) λus s2 ⟨xs,H2,I2,r2,q2⟩=>⟨x::xs,H2,I2,.cons r1 r2,q2⟩
variable {g:List Value->List Value->List Value} {gV:List V->List V->List V}
end
structure ay (N P:List Str) (sc:Scope):Prop where
 kind:sc.kind=.function
 co:sc.isCoroutine=false
 gen:sc.isGenerator=false
 nd:N.Nodup
 pre:N.take P.length=P
 par:∀x∈P,sc.names.lookup x=some .local\/sc.names.lookup x=some .cell
 E6:∀y∈sc.names,y.2≠.free
theorem mM:∀{binds:List (Str×Value)} {m:Str->Option Value},(∀v,(x,v)∉binds)->bindL kindOf binds m x=m x
 |[],_,_=>rfl
 | (n,v)::r,m,h=>by
  unfold bindL;rw[mM λw hw=>h w (JG _ hw)];split
  ·have:x≠n:=by rintro rfl;exact h v JH
   simp[this]
  ·rfl
theorem mB:∀{binds:List (Str×Value)} {m:Str->Option Value},(∀v,(x,v)∉binds)->bindC kindOf binds m x=m x
 |[],_,_=>rfl
 | (n,v)::r,m,h=>by
  unfold bindC;rw[mB λw hw=>h w (JG _ hw)];split
  ·rfl
  ·have:x≠n:=by rintro rfl;exact h v JH
   simp[this]
theorem mH{v:Value}:∀{P:List Str} {vs:List Value} {i:Nat} {m:Str->Option Value},P.Nodup->P[i]?=some x->vs[i]?=some v->kindOf x=some .local ->
  bindL kindOf (P.zip vs) m x=some v
 |[],_,_,_,_,h,_,_=>by simp at h
 |_::_,[],_,_,_,_,h,_=>by simp at h
 |p::P,w::vs,0,m,nd,h1,h2,hk=>by
  simp at h1 h2;subst h1;subst h2;show bindL kindOf ((p,w)::P.zip vs) m p=_;unfold bindL;rw[mM λv hv=>(KY.mp nd).1 (NW hv).1,JE hk];simp
 |p::P,w::vs,i+1,m,nd,h1,h2,hk=>by
  show bindL kindOf ((p,w)::P.zip vs) m x=_;unfold bindL;exact mH (i:=i) (KY.mp nd).2 (by simpa using h1) (by simpa using h2) hk
theorem mY{v:Value}:∀{P:List Str} {vs:List Value} {i:Nat} {m:Str->Option Value},P.Nodup->P[i]?=some x->vs[i]?=some v->kindOf x≠some .local ->
  bindC kindOf (P.zip vs) m x=some v
 |[],_,_,_,_,h,_,_=>by simp at h
 |_::_,[],_,_,_,_,h,_=>by simp at h
 |p::P,w::vs,0,m,nd,h1,h2,hk=>by
  simp at h1 h2;subst h1;subst h2;show bindC kindOf ((p,w)::P.zip vs) m p=_;unfold bindC;rw[mB λv hv=>(KY.mp nd).1 (NW hv).1,JA hk];simp
 |p::P,w::vs,i+1,m,nd,h1,h2,hk=>by
  show bindC kindOf ((p,w)::P.zip vs) m x=_;unfold bindC;exact mY (i:=i) (KY.mp nd).2 (by simpa using h1) (by simpa using h2) hk
noncomputable def start(N:List Str)(vs:List V):St:=vs.map some++List.replicate (N.length-vs.length) none
noncomputable def fS(CX:pJ)(P:Program)(w:World)(K:W.Frag)(mg:Str->Option Value)(base:Heap)(N:List Str)(qual:Str)(scope:Scope)(f:Addr)(cd:Value)(A:Around)(outer:List Env)(s:Shared)(H:Hp)(E:XK):Cx where
 prog:=P
 w:=w
 K:=K
 mg:=mg
 base:=base
 A:=A.deeper (envOfC qual scope s.heap.objs.size f cd)
 N:=N
 s₀:=s
 H₀:=H
 env:=envOfC qual scope s.heap.objs.size f cd
 outer:=outer
 stack:=envOfC qual scope s.heap.objs.size f cd::outer
 ex:=[]
 calm:=true
 fn:=λ_=>true
 pn:=[]
 xe:=λe s'=>wpAny (model P w) (A.deeper (envOfC qual scope s.heap.objs.size f cd)) (leaving (envOfC qual scope s.heap.objs.size f cd) e) (λ_ s''=>CX outer H s E e s'') (λe' s''=>CX outer H s E e' s'') s'
theorem pW{sc:Scope}{n:Nat}(h:sc.names.lookup x=some .cell):∃c,(cellsFrom n sc.names []).lookup x=some c:=by
 have q:=W.cellsFrom_some sc.names n [] (.inl h);exact NJ.mp q
theorem v9{ps:List Str}{qual:Str}{f:Addr}{cd:Value}{A:Around}{s s1:Shared}{E:XK}{vs:List V}
  (S:ay N ps scope) (hd:A.handled=none) (e0:qS P w K mg base A outer s H) (hl:vs.length=ps.length) (r:Vals vs us)
  (x:InCallC s s.heap.objs.size (bindL (envOfC qual scope s.heap.objs.size f cd).kindOf (ps.zip us) λ_=>none) (cellsFrom (s.heap.objs.size+1) scope.names []) (bindC (envOfC qual scope s.heap.objs.size f cd).kindOf (ps.zip us) λ_=>none) s1) :
  Inv (fS CX P w K mg base N qual scope f cd A outer s H E) [] (start N vs) H s1:=by
 have hpl:ps.length<=N.length:=by have:=Kt List.length S.pre;rw[JT] at this;lia
 obtain⟨h1,tk,rfl,hk⟩:=x.done;have noA:∀b:Addr,b∉(fS CX P w K mg base N qual scope f cd A outer s H E).ex:=λb z=>absurd (show b∈([]:List Addr) from z) (by simp)
 refine⟨⟨e0.mod,S.kind,rfl,rfl,JD _,λy z c h1 h2=>?_,λy hy=>?_,λy c _ h=>?_,λ_=>hd,Around.frames_deeper e0.frames,.inr ⟨rfl,rfl⟩,λb z=>absurd z (noA b),e0.bs,e0.Am,λb _ _=>noA b,λb z=>absurd z (noA b),e0.jG,e0.Ds,e0.tabs⟩,
  rfl,e0.bare,Un.kept hk,⟨_,x.toInCall.ns,λi y v h1 h2 h3=>?_⟩,λy c h=>⟨_,x.cell y c h⟩,e0.aQ.fresh (JD _),λy c h=>?_,λp hp=>absurd (show p∈([]:List (Addr×Obj)) from hp) (by simp),e0.aQ.kept hk,?_⟩
 ·exact name_of_addr x.apart (PySem.mem_of_lookup h1) (PySem.mem_of_lookup h2)
 ·have hy:scope.names.lookup y=some .cell\/scope.names.lookup y=some .free:=hy;rcases hy with hy|hy
  ·exact pW hy
  ·exact absurd rfl (S.E6 _ (PySem.mem_of_lookup hy))
 ·exact Ll (x.above y c (PySem.mem_of_lookup h))
 ·have hi:i<vs.length:=by
   unfold start at h2;by_cases hi:i<vs.length
   ·exact hi
   ·rw[JY (by simpa using hi)] at h2
    rw[NP] at h2
    split at h2<;>cases h2
  have ha:vs[i]?=some v:=by
   unfold start at h2;rw[Kf (by simpa using hi),JC] at h2
   cases e:vs[i]? with
   |none=>rw[e] at h2;cases h2
   |some a=>rw[e] at h2;cases h2;rfl
  obtain⟨u,hu,rv⟩:=r.get ha;have hp:ps[i]?=some y:=by
   rw[<- S.pre,My (by lia)];exact h1
  have ndP:ps.Nodup:=by rw[<- S.pre];exact S.nd.sublist (List.take_sublist _ _)
  refine⟨u,rv,?_⟩;rcases S.par y (K1 hp) with k|k
  ·exact .inl ⟨k,mH ndP hp hu k⟩
  ·obtain⟨c,e⟩:=pW (n:=s.heap.objs.size+1) k;refine .inr ⟨.inl k,c,e,?_⟩;have q:=x.cell y c e;rw[mY ndP hp hu (by show scope.names.lookup y≠_;rw[k];decide)] at q
   exact q
 ·exact e0.aQ.fresh (Ll (x.above y c (PySem.mem_of_lookup h)))
 ·unfold start;show _=N.length;rw[J5,Jz,JS];lia
theorem CL{k:Nat}{f:Addr}{name qual:Str}{params:Arguments}{dV kV doc pm cdv ct oc:Value}{an od:Option Addr}
  {osl:Array (Option Value)} {ps:List Str} {sp:Sp} (lk:K.lookup f=some ⟨oc,od,.func (W.fnOf name qual params body scope dV kV doc pm an cdv ct),osl⟩) (fK:W.codeIn K cdv qual=true) (S:ay N ps scope)
  (len:∀vs H Q E,sp vs H Q E->vs.length=ps.length)
  (hbody:∀(A:Around) (outer:List Env) (s:Shared) (H:Hp) (vs:List V) (Q:VK) (E:XK),bM k (A.deeper (envOfC qual scope s.heap.objs.size f cdv))->sp vs H Q E ->
   ∃t,rK (fS CX P w K mg base N qual scope f cdv A outer s H E) body t/\t {nx:=λ_ H'=>Q .aR H',rt:=Q} (start N vs) H) :
  cN P w K mg base CX (k+1) f (W.fnOf name qual params body scope dV kV doc pm an cdv ct) ps sp:=by
 refine⟨len,λA outer s H args us vs Q E hr e0 hb r mJ=>?_⟩;have hl:=len _ _ _ _ mJ;have KX:K.In s.heap:=e0.mod.GW.keeps λb o e=>(e0.bs b o e).1;have lim:s.heap.NoLimit:=e0.mod.nolimit.keeps λb o e=>(e0.bs b o e).1;have hkind:∀y∈ps.zip us,scope.names.lookup y.1=some .local\/(scope.names.lookup y.1=some .cell/\((cellsFrom (s.heap.objs.size+1) scope.names []).lookup y.1).isSome=true):=λ⟨n,v⟩ hy=>by
  rcases S.par n (NW hy).1 with q|q
  ·exact .inl q
  ·exact .inr ⟨q,W.cellsFrom_some _ _ _ (.inl q)⟩
 refine codeAny_call_function hr.depth (KX _ _ lk) rfl S.co S.gen rfl (W.codeRec_of KX fK) (hb _ _ _ _ ?_);refine wpAny_newFunctionEnv_cells S.kind hkind λenv he s1 x=>?_;subst he;refine⟨lim.keeps x.toInCall.keep,codeAny_func ?_⟩;obtain⟨t,ht,hq⟩:=hbody A outer s H vs Q E (hr.deeper _) mJ;have I:Inv (fS CX P w K mg base N qual scope f cdv A outer s H E) [] (start N vs) H s1:=v9 S hr.hd e0 hl r x;refine K5 (ht [] s1 (start N vs) H _ I hq) (λfl s' hs=>?_) λe s' hs=>hs;have fin:∀{σ':St} {H':Hp} {v:V} {u:Value},Inv (fS CX P w K mg base N qual scope f cdv A outer s H E) [] σ' H' s'->RelV v u->Q v H'->CE outer P w H s Q u s':=
  λ{σ' H' v u} J rv q=>⟨v,H',J.os,J.bare,J.base,J.aQ,rv,q⟩
 cases fl with
 |ret u =>
  obtain⟨v,σ',H',J,rv,q⟩:=hs;exact fin J rv q
 |next =>
  obtain⟨σ',H',J,q⟩:=hs;exact fin (v:=V.aR) (u:=Value.none) J rfl q
 |brk =>
  obtain⟨_,_,_,q⟩:=hs;exact False.elim q
 |cont =>
  obtain⟨_,_,_,q⟩:=hs;exact False.elim q
section
variable {X:Cx} {x:Str} {p pos:Pos} {e:Expr} {es:List Expr} {t:TA} {id T:String} {r:List V->Hp->VK->Prop}
noncomputable def Cc(r:List V->Hp->VK->Prop)(t:TA):TE:=λσ H Q=>t σ H λvs H1=>r vs H1 Q
theorem zx(hc:bu X (.builtin id) r)(hg:Gl X x)(hm:X.mg x=none)(hv:bootBuiltins x=some (.builtin id))(ha:PA X (e::es) t)(hn:autoParam (x≠"__name__") ℜ1)(hdb:autoParam ((x ==("__debug__":Str))=false) ℜ1)
  (he:autoParam (starEach (e::es) X.env=(false,eval e X.env)::starEach es X.env) ℜ0) (hpl:autoParam ((backTo pos (starEach es X.env)).any (·.1)=false) ℜ0):PE X (.Call (.Name x p) (e::es) [] pos) (Cc r t):=by
 intro pins s σ H Q I h;refine LM (gj I hg hm hv ?_ hn hdb);exact PyProof.Rows.callWith_builtin1 (cp (ha pos pins s σ H _ I h) λus s1 ⟨vs,H1,I1,r1,q1⟩=>hc pins s1 σ H1 vs us Q I1 r1 q1) he hpl
theorem vU(hc:bu X (.type T) r)(hg:Gl X x)(hm:X.mg x=none)(hv:bootBuiltins x=some (.type T))(ha:PA X (e::es) t)(hn:autoParam (x≠"__name__") ℜ1)(hdb:autoParam ((x ==("__debug__":Str))=false) ℜ1)
  (he:autoParam (starEach (e::es) X.env=(false,eval e X.env)::starEach es X.env) ℜ0) (hpl:autoParam ((backTo pos (starEach es X.env)).any (·.1)=false) ℜ0):PE X (.Call (.Name x p) (e::es) [] pos) (Cc r t):=by
 intro pins s σ H Q I h;refine LM (gj I hg hm hv ?_ hn hdb);exact KW (cp (ha pos pins s σ H _ I h) λus s1 ⟨vs,H1,I1,r1,q1⟩=>hc pins s1 σ H1 vs us Q I1 r1 q1) he hpl
end
end L2
namespace HT
open PySem PyProof.Rows
section
variable {prog:Program} {w:World} {A:Around} {E:Value->Shared->Prop} {s:Shared}
theorem Cq{t b:Addr}{vs ws:List Value}{Q:Value->Shared->Prop}(ht:IsTup s.heap t vs.toArray)(hb:IsTup s.heap b ws.toArray)(hv:vs≠[])
  (h1:ws=[]->Q (.ref t) s) (h2:ws≠[]->Q (.ref s.heap.objs.size) {s with heap:=s.heap.push {cls:=.type "tuple",data:=.seq (vs++ws).toArray}})
  (hsz:vs.length+ws.length<=sizeLine):wpAny (model prog w) A (binaryOp .Add (.ref t) (.ref b)) Q E s:=by
 obtain⟨⟨cls,dd,data,sl⟩,ho,hc,n,hd⟩:=id ht;obtain⟨⟨cls2,dd2,data2,sl2⟩,ho2,hc2,n2,hd2⟩:=id hb;simp only at hc hd hc2 hd2;subst hc hd hc2 hd2;have e:vs.toArray++ws.toArray=(vs++ws).toArray:=by simp
 by_cases hw:ws=[]
 ·exact concat_meets ⟨_,ho,rfl⟩ ⟨_,ho2,rfl⟩ noFill_tuple_add seq_tuple_add PySem.F.slot_tuple_add PySem.F.entry_tuple_add (PySem.F.args_tuple_add_2 _ _)
   (tuple_addW1 t b vs.toArray ws.toArray n n2 dd dd2 sl sl2 (by simpa using hv) (by simp[hw])) ⟨ho,ho2,h1 hw⟩
 ·refine concat_meets ⟨_,ho,rfl⟩ ⟨_,ho2,rfl⟩ noFill_tuple_add seq_tuple_add PySem.F.slot_tuple_add PySem.F.entry_tuple_add (PySem.F.args_tuple_add_2 _ _)
   (tuple_addW2 t b vs.toArray ws.toArray n n2 dd dd2 sl sl2 (by simpa using hv) (by simpa using hw) (by rw[List.size_toArray,List.size_toArray];exact hsz)) ⟨ho,ho2,?_⟩
  rw[e];exact h2 hw
noncomputable def bW(n d:Nat):Option Int->Nat
 |none=>d
 |some v=>if v<0 then (v+(n:Int)).toNat else min v.toNat n
theorem dP(n d:Nat):bW n d none=d:=rfl
theorem eE(n d k:Nat):bW n d (some (k:Int))=min k n:=by
 show (if (k:Int)<0 then ((k:Int)+(n:Int)).toNat else min (k:Int).toNat n)=min k n
 rw[if_neg (by lia),Int.toNat_natCast]
theorem r9(n d:Nat)(hd:d<=n)(o:Option Int):bW n d o<=n:=by
 cases o with
 |none=>exact hd
 |some v =>
  show (if v<0 then (v+(n:Int)).toNat else min v.toNat n)<=n
  by_cases hv:v<0
  ·rw[if_pos hv];lia
  ·rw[if_neg hv];exact Nat.min_le_right _ _
theorem u6(v:Int)(n d:Nat):(if v<0 then max (v+(n:Int)) 0 else min v (n:Int))=((bW n d (some v):Nat):Int):=by
 show (if v<0 then max (v+(n:Int)) 0 else min v (n:Int))=(((if v<0 then (v+(n:Int)).toNat else min v.toNat n):Nat):Int)
 by_cases hv:v<0
 ·simp only[if_pos hv];lia
 ·simp only[if_neg hv];lia
theorem r_(lo hi:Option Int)(n:Nat):Builtin.Slice.sliceAdjust lo hi 1 (n:Int)=(((bW n 0 lo:Nat):Int),((bW n n hi:Nat):Int)):=by
 have h1:¬ ((1:Int)<0):=by lia
 unfold Builtin.Slice.sliceAdjust;simp only[h1,if_false];refine Prod.ext ?_ ?_
 ·cases lo with
  |none=>rfl
  |some v=>exact u6 v n 0
 ·cases hi with
  |none=>rfl
  |some v=>exact u6 v n n
theorem rB(i j:Nat):Builtin.Slice.slicePlaces (i:Int) (j:Int) 1=j-i:=by
 unfold Builtin.Slice.slicePlaces;have h1:(1:Int) > 0:=by lia
 simp only[h1,if_true,Int.ediv_one]
 split<;>lia
theorem lP{v:Value}{o:Option Int}{Q:Option Int->Shared->Prop}(p:IsPart v o)(h:Q o s):wpAny (model prog w) A (Builtin.Slice.slicePartIndex v) Q E s:=by
 cases p with
 |none=>exact slicePart_none h
 |int i t=>exact slicePart_int h
theorem eX{sl:Addr}{vl vu:Value}{lo hi:Option Int}{n:Nat}{Q:Int×Int×Nat->Shared->Prop}(hs:s.heap.IsSliceOf sl vl vu .none)(pl:IsPart vl lo)(pu:IsPart vu hi)
  (h:Q (((bW n 0 lo:Nat):Int),1,bW n n hi-bW n 0 lo) s):wpAny (model prog w) A (Builtin.Slice.sliceApplied (.ref sl) (pure (n:Int))) Q E s:=by
 obtain⟨os,hos,hcs,uR⟩:=id hs;unfold Builtin.Slice.sliceApplied Builtin.Slice.sliceFields;refine wpAny_bind (wpAny_bind (wpAny_field hos uR (x:=vl) rfl (wpAny_bind (wpAny_field hos uR (x:=vu) rfl (wpAny_bind (wpAny_field hos uR (x:=.none) rfl (wpAny_pure ?_)))))));refine wpAny_bind (slicePart_none ?_);show wpAny _ _ (if ((1:Int) == 0)=true then _ else _) _ _ s
 rw[if_neg (by decide)]
 refine wpAny_bind (lP pl (wpAny_bind (lP pu (wpAny_bind (wpAny_pure ?_)))));show wpAny _ _ (match Builtin.Slice.sliceAdjust lo hi 1 (n:Int) with | (lo,hi)=>pure (lo,(1:Int),Builtin.Slice.slicePlaces lo hi 1)) _ _ s
 rw[r_ lo hi n];show wpAny _ _ (pure (((bW n 0 lo:Nat):Int),(1:Int),Builtin.Slice.slicePlaces ((bW n 0 lo:Nat):Int) ((bW n n hi:Nat):Int) 1)) _ _ s;rw[rB];exact wpAny_pure h
theorem xJ(xs:Array Value)(i k:Nat):((List.range k).filterMap λ(m:Nat)=>xs[((i:Int)+(m:Int)*1).toNat]?).toArray=((xs.toList.drop i).take k).toArray:=by
 have e:(λ(m:Nat)=>xs[((i:Int)+(m:Int)*1).toNat]?)=λm=>xs[i+m]?:=by
  funext m
  have:((i:Int)+(m:Int)*1).toNat=i+m:=by lia
  rw[this]
 rw[e];have:=pick_run xs i k;rw[List.filterMap_map] at this;have e2:((λx=>xs[x]?) ∘ λx=>i+x)=λm=>xs[i+m]?:=rfl;rw[e2] at this;rw[this]
theorem i5{t sl:Addr}{items:Array Value}{vl vu:Value}{lo hi:Option Int}{Q:Value->Shared->Prop}(ht:IsTup s.heap t items)(hs:s.heap.IsSliceOf sl vl vu .none)(pl:IsPart vl lo)(pu:IsPart vu hi)
  (hw:¬ (bW items.size 0 lo=0/\bW items.size items.size hi=items.size))
  (h:Q (.ref s.heap.objs.size) {s with heap:=s.heap.push {cls:=.type "tuple",data:=.seq ((items.toList.drop (bW items.size 0 lo)).take (bW items.size items.size hi-bW items.size 0 lo)).toArray}})
  (hsz:items.size<=sizeLine):wpAny (model prog w) A (getItem (.ref t) (.ref sl)) Q E s:=by
 have htake:sizeOk (.seq ((items.toList.drop (bW items.size 0 lo)).take (bW items.size items.size hi-bW items.size 0 lo)).toArray):=by
  show ((items.toList.drop (bW items.size 0 lo)).take (bW items.size items.size hi-bW items.size 0 lo)).toArray.size<=sizeLine;rw[List.size_toArray,List.length_take,List.length_drop,Array.length_toList];exact Nat.le_trans (Nat.min_le_right _ _) (Nat.le_trans (Nat.sub_le _ _) hsz)
 have hj:bW items.size items.size hi<=items.size:=r9 _ _ (Nat.le_refl _) hi;obtain⟨os,hos,hcs,uR⟩:=id hs;have hTs:s.TypeIs (.ref sl) "slice":=⟨os,hos,hcs⟩;unfold getItem
 try with_reducible refine wpAny_holding ?_
 first|refine wpAny_bind (wpAny_pure ?_)|skip
 refine wpAny_bind (wpAny_sequenceKey ht.typeIs (by decide) ?_)
 refine wpAny_bind (wpAny_callSpecial?_slot (name:=Str.ofString "__getitem__") ht.typeIs PyProof.Rows.slot_tuple_getitem
  (wpAny_call_entry PyProof.Rows.slot_tuple_getitem ht.typeIs entry_tuple_getitem ?_ (args_tuple_getitem _ _)))
 show wpAny _ _ (Builtin.Tuple.tupleItemsOf (.ref t) >>= _) _ _ s;refine wpAny_bind (tupleItemsOf_ ht ?_);refine wpAny_bind (wpAny_typeOf hTs ?_);rw[if_pos (by decide)]
 refine wpAny_bind (eX hs pl pu ?_);have hno:¬ ((((bW items.size 0 lo:Nat):Int) == 0 && (1:Int) == 1 && (bW items.size items.size hi-bW items.size 0 lo) == items.size)=true):=by
  intro q;rw[Bool.and_eq_true,Bool.and_eq_true] at q;have q1:((bW items.size 0 lo:Nat):Int)=0:=eq_of_beq q.1.1;have q2:bW items.size items.size hi-bW items.size 0 lo=items.size:=eq_of_beq q.2;exact hw ⟨by lia,by lia⟩
 show wpAny _ _ (if (((bW items.size 0 lo:Nat):Int) == 0 && (1:Int) == 1 && (bW items.size items.size hi-bW items.size 0 lo) == items.size)=true then _ else _) _ _ s
 rw[if_neg hno,xJ]
 first
  |exact wpAny_bind (m:=Builtin.Tuple.tupleExact _) (wpAny_newObj_type (wpAny_pure ⟨_,rfl,wpAny_pure h⟩) htake)
  |exact wpAny_bind (m:=Builtin.Tuple.tupleExact _) (wpAny_newObj_type (wpAny_bind (wpAny_pure (wpAny_pure ⟨_,rfl,wpAny_pure h⟩))) htake)
  |exact wpAny_bind (wpAny_bind (m:=Builtin.Tuple.tupleExact _) (wpAny_newObj_type (wpAny_pure (wpAny_pure ⟨_,rfl,wpAny_pure h⟩)) htake))
  |exact wpAny_bind (wpAny_bind (m:=Builtin.Tuple.tupleExact _) (wpAny_newObj_type (wpAny_pure ⟨_,rfl,wpAny_pure h⟩) htake))
end
end HT
namespace L2
open PySem PySem.Spec PyProof.Rows
variable{r:V->Option Int->Option Int->Hp->VK->Prop}{xs:List (List Key×Addr×Value)}{its its' us:List Value}{α:Type}{pins:List (Addr×Obj)}{σ:St}{H H':Hp}{x y:V}{u:Value}{o:Option V}{P:Program}{w:World}{kvs:List (List Key×V)}{Q:Value->Shared->Prop}
abbrev TO:=St->Hp->(Option Int->Hp->Prop)->Prop
noncomputable def PO(X:Cx)(e:Option Expr)(t:TO):Prop:=
 ∀(pins:List (Addr×Obj)) (s:Shared) (σ:St) (H:Hp) (Q:Option Int->Hp->Prop),Inv X pins σ H s->t σ H Q ->
  wpAny (model X.prog X.w) X.A (evalPart e X.env) (λu s'=>∃o H',Inv X pins σ H' s'/\IsPart u o/\Q o H') X.xe s
noncomputable def iA:TO:=λ_ H Q=>Q none H
noncomputable def qz(t:TE):TO:=λσ H Q=>t σ H λx H1=>∃i,x=.int i/\Q (some i) H1
theorem intsAre_of{ns:List Int}:∀{us:List Value},Vals (ns.map V.int) us->IntsAre us ns:=by
 induction ns with
 |nil=>intro us r;rw[L_] at r;cases r;exact .nil
 |cons n ns ih =>
  intro us r;rw[Kg] at r
  cases r with
  |cons r1 r2 =>
   obtain⟨t,e⟩:=r1;subst e;exact .cons n t (ih r2)
section
variable {X:Cx} {e:Expr} {te:TE} {lo hi:Option Expr} {tl th:TO} {pos p2:Pos}
theorem An:PO X none iA:=by
 intro pins s σ H Q I h;rw[evalPart_none];exact JJ ⟨none,H,I,.none,h⟩
theorem BY(h:PE X e te):PO X (some e) (qz te):=by
 intro pins s σ H Q I hw;rw[evalPart_some];refine cp (h pins s σ H _ I hw) λu s1 hq50=>?_;obtain⟨x,H1,I1,r1,q1⟩:=hq50;obtain⟨i,rfl,q⟩:=q1;obtain⟨t,rfl⟩:=r1;exact⟨some i,H1,I1,.int i t,q⟩
noncomputable def vL(X:Cx)(r:V->Option Int->Option Int->Hp->VK->Prop):Prop:=
 ∀(pins:List (Addr×Obj)) (s:Shared) (σ:St) (H:Hp) (x:V) (v vl vu:Value) (lo hi:Option Int) (sl:Addr) (Q:VK),Inv X pins σ H s->RelV x v->s.heap.IsSliceOf sl vl vu .none->IsPart vl lo->IsPart vu hi->r x lo hi H Q ->
  ∃T id,typeLookup (.type T) "__getitem__"=pure (some (.builtin id))/\s.TypeIs v T/\wpAny (model X.prog X.w) X.A (getItem v (.ref sl)) (EP X pins σ Q) X.xe s
theorem vL.or{r':V->Option Int->Option Int->Hp->VK->Prop}(h:vL X r)(h':vL X r'):vL X (λx lo hi H Q=>r x lo hi H Q\/r' x lo hi H Q):=by
 intro pins s σ H x v vl vu lo hi sl Q I rx hs pl pu q;rcases q with q|q
 ·exact h pins s σ H x v vl vu lo hi sl Q I rx hs pl pu q
 ·exact h' pins s σ H x v vl vu lo hi sl Q I rx hs pl pu q
noncomputable def FW(r:V->Option Int->Option Int->Hp->VK->Prop)(te:TE)(tl th:TO):TE:=λσ H Q=>te σ H λx H1=>tl σ H1 λl H2=>th σ H2 λu H3=>r x l u H3 Q
theorem zc(hr:vL X r)(he:PE X e te)(hl:PO X lo tl)(hu:PO X hi th):PE X (.Subscript e (.Slice lo hi none p2) pos) (FW r te tl th):=by
 intro pins s σ H Q I h;refine Subscript_ (cp (he pins s σ H _ I h) λv s1 hq51=>?_);obtain⟨x,H1,I1,r1,q1⟩:=hq51;refine wpAny_Slice (cp (hl pins s1 σ H1 _ I1 q1) λvl s2 ⟨l,H2,I2,pl,q2⟩=>cp (hu pins s2 σ H2 _ I2 q2) λvu s3 hq52=>?_);obtain⟨u,H3,I3,pu,q3⟩:=hq52;rw[evalPart_none];refine JJ ?_;have I4:Inv X pins σ H3 {s3 with heap:=s3.heap.push {cls:=.type "slice",data:=.fields #[vl,vu,.none]}}:=I3.kept (t':=s3.toks) λb ob q=>J7 _ q
 obtain⟨T,id,hT,ht,hg⟩:=hr pins {s3 with heap:=s3.heap.push {cls:=.type "slice",data:=.fields #[vl,vu,.none]}} σ H3 x v vl vu l u s3.heap.objs.size Q I4 r1 (Heap.IsSliceOf.new ..) pl pu q3
 show wpAny (model X.prog X.w) X.A (subscriptTail e (.Slice lo hi none p2) v (.ref s3.heap.objs.size)) (EP X pins σ Q) X.xe {s3 with heap:=s3.heap.push {cls:=.type "slice",data:=.fields #[vl,vu,.none]}}
 exact tail_any (ops:=[.ref s3.heap.objs.size,v]) ht hT hg (by with_unfolding_all rfl)
noncomputable def dJ(xs:List V)(lo hi:Option Int):List V:=(xs.drop (HT.bW xs.length 0 lo)).take (HT.bW xs.length xs.length hi-HT.bW xs.length 0 lo)
theorem j6(xs:List V)(lo hi:Option Int):(dJ xs lo hi).length<=xs.length:=by
 unfold dJ;rw[JT,Ks];exact JF (Nat.min_le_right _ _) (Nat.sub_le _ _)
noncomputable def qT(K:W.Frag):V->Option Int->Option Int->Hp->VK->Prop:=λx lo hi H Q=>∃a xs,x=.ref a/\bz K H a xs /\
 ¬ (HT.bW xs.length 0 lo=0/\HT.bW xs.length xs.length hi=xs.length)/\∀p,H p=none->Q (.ref p) (upd H p (.tup (dJ xs lo hi)))
theorem rM:vL X (qT X.K):=by
 intro pins s σ H x v vl vu lo hi sl Q I rx hs pl pu h;obtain⟨a,xs,rfl,hx,hw,q⟩:=h;cases rx;obtain⟨its,r,ht,hz⟩:=I.tuple hx;have hlen:its.toArray.size=xs.length:=by rw[J8];exact r.length.symm
 refine⟨"tuple",_,Lj.lookup,ht.typeIs,?_⟩;refine HT.i5 ht hs pl pu (by rw[hlen];exact hw) ?_ (by rw[hlen];exact hz)
 rw[hlen];refine⟨.ref s.heap.objs.size,_,I.laid (t':=s.toks) (o:=.tup (dJ xs lo hi)) (λb ob q=>J7 _ q) (JD _) ?_,rfl,q _ (I.aQ.fresh (JD _))⟩;exact⟨JF (j6 xs lo hi) hz,_,(r.drop (HT.bW xs.length 0 lo)).take (HT.bW xs.length xs.length hi-HT.bW xs.length 0 lo),eJ.new _ _⟩
noncomputable def Gm(K:W.Frag):R2:=λx y H Q=>∃a b xs ys,x=.ref a/\y=.ref b/\bz K H a xs/\bz K H b ys/\xs≠[]/\xs.length+ys.length<=sizeLine /\
 (ys=[]->Q (.ref a) H)/\(ys≠[]->∀p,H p=none->Q (.ref p) (upd H p (.tup (xs++ys))))
theorem Vals.nU{xs:List V}(r:Vals xs us):us=[] ↔ xs=[]:=by
 cases r with
 |nil=>simp
 |cons _ _=>simp
theorem Bt:dc X (binaryOp .Add) (Gm X.K):=by
 intro pins s σ H x y v u Q I rx ry h;obtain⟨a,b,xs,ys,rfl,rfl,ha,hb,hx,hz,q1,q2⟩:=h;cases rx;cases ry;obtain⟨its,r1,p1,_⟩:=I.tuple ha;obtain⟨its2,r2,p2,_⟩:=I.tuple hb;refine HT.Cq p1 p2 (λz=>hx (r1.nU.mp z)) (λz=>⟨.ref a,H,I,rfl,q1 (r2.nU.mp z)⟩) (λz=>?_) (by rw[<- r1.length,<- r2.length];exact hz)
 refine⟨.ref s.heap.objs.size,_,I.laid (t':=s.toks) (o:=.tup (xs++ys)) (λb ob q=>J7 _ q) (JD _) ?_,rfl,q2 (λw=>z (r2.nU.mpr w)) _ (I.aQ.fresh (JD _))⟩;exact⟨by rw[J5];exact hz,_,r1.append r2,eJ.new _ _⟩
end
noncomputable def kK(n:Nat)(i:Int):Option Nat:=if 0<=i then (if i<n then some i.toNat else none) else if -(n:Int)<=i then some (i+n).toNat else none
noncomputable def bV(xs:List α)(i:Int):Option α:=(kK xs.length i).bind λj=>xs[j]?
theorem tY{n:Nat}{i:Int}{j:Nat}(h:kK n i=some j):seqIndex? i n=some j/\j<n/\-(n:Int)<=i/\i<n:=by
 unfold kK at h;by_cases h0:0<=i
 ·rw[JE h0] at h;by_cases h1:i<n
  ·rw[JE h1] at h;have e:i.toNat=j:=Option.some.inj h;exact⟨by rw[seqIndex_of h0 h1,e],by lia,by lia,h1⟩
  ·rw[JA h1] at h;cases h
 ·rw[JA h0] at h;by_cases h1:-(n:Int)<=i
  ·rw[JE h1] at h;have e:(i+n).toNat=j:=Option.some.inj h;exact⟨by rw[OB (by lia) h1,e],by lia,h1,by lia⟩
  ·rw[JA h1] at h;cases h
theorem oE{xs:List α}{i:Int}{v:α}(h:bV xs i=some v):∃j,seqIndex? i xs.length=some j/\xs[j]?=some v/\j<xs.length/\-(xs.length:Int)<=i/\i<xs.length:=by
 unfold bV at h
 cases e:kK xs.length i with
 |none=>rw[e] at h;cases h
 |some j =>
  rw[e] at h;obtain⟨h1,h2,h3,h4⟩:=tY e;exact⟨j,h1,h,h2,h3,h4⟩
theorem bq{xs:List α}{j:Nat}{v:α}(h:xs[j]?=some v):bV xs (j:Int)=some v:=by
 have hj:j<xs.length:=(J6.mp h).1;have e:kK xs.length (j:Int)=some j:=by
  unfold kK;rw[JE (by lia),JE (by lia)];simp
 unfold bV;rw[e];exact h
theorem pI(xs:List α)(v:α):bV (xs++[v]) (-1)=some v:=by
 have hl:(xs++[v]).length=xs.length+1:=by simp
 have e:kK (xs++[v]).length (-1)=some xs.length:=by
  unfold kK;rw[hl,JA (by decide),JE (by lia)]
  congr 1;lia
 unfold bV;rw[e];show (xs++[v])[xs.length]?=some v;simp
noncomputable def uj(b:Expr):Prop:=∀o i,subscripted b false o i=operate [o,i] (getItem o i)
noncomputable def vm(X:Cx)(r:R2):Prop:=
 ∀(value slice:Expr) (pins:List (Addr×Obj)) (s:Shared) (σ:St) (H:Hp) (x y:V) (v u:Value) (Q:VK),Inv X pins σ H s->RelV x v->RelV y u->r x y H Q ->
  subscripted slice false v u=operate [v,u] (getItem v u)->wpAny (model X.prog X.w) X.A (subscriptTail value slice v u) (EP X pins σ Q) X.xe s
noncomputable def sZ(X:Cx)(id:String)(r:V->List V->Hp->VK->Prop):Prop:=
 ∀(pins:List (Addr×Obj)) (s:Shared) (σ:St) (H:Hp) (x:V) (xs:List V) (v:Value) (us:List Value) (Q:VK),Inv X pins σ H s->RelV x v->Vals xs us->r x xs H Q ->
  wpAny (model X.prog X.w) X.A (call (.builtin id) (v::us)) (EP X pins σ Q) X.xe s
section
variable {X:Cx} {a b:Expr} {ta tb:TE} {pos:Pos}
theorem vm.or{r r':R2}(h:vm X r)(h':vm X r'):vm X (λx y H Q=>r x y H Q\/r' x y H Q):=by
 intro value slice pins s σ H x y v u Q I rx ry q hs;rcases q with q|q
 ·exact h value slice pins s σ H x y v u Q I rx ry q hs
 ·exact h' value slice pins s σ H x y v u Q I rx ry q hs
theorem CS{r:R2}(hr:vm X r)(ha:PE X a ta)(hb:PE X b tb)(hs:uj b):PE X (.Subscript a b pos) (yK r ta tb):=by
 intro pins s σ H Q I h;exact Subscript_ (DE ha hb I h λv u s2 x y H2 I2 rx ry q=>hr a b pins s2 σ H2 x y v u Q I2 rx ry q (hs _ _))
noncomputable def Hr(K:W.Frag):R2:=λx y H Q=>∃p xs i v,x=.ref p/\y=.int i/\bI K H p xs/\bV xs i=some v/\Q v H
noncomputable def Fh(K:W.Frag):R2:=λx y H Q=>∃p xs i v,x=.ref p/\y=.int i/\bz K H p xs/\bV xs i=some v/\Q v H
noncomputable def HD:R2:=λx y H Q=>∃z i c,x=.str z/\y=.int i/\z.length<=sizeLine/\bV z.cps.toList i=some c/\Q (.str ⟨#[c]⟩) H
theorem C1:vm X (Hr X.K):=by
 intro value slice pins s σ H x y v u Q I rx ry h hs;obtain⟨p,xs,i,z,rfl,rfl,hq,he,q⟩:=h;cases rx;obtain⟨t,rfl⟩:=ry;obtain⟨its,r,pl,hz⟩:=I.list hq;obtain⟨j,h1,h2,h3,h4,h5⟩:=oE he;obtain⟨w,ew,rw'⟩:=r.get h2;have hl:=r.length;have hn:=iS;have fin:EP X pins σ Q w s:=⟨z,H,I,rw',q⟩;by_cases h0:0<=i
 ·have hj:i.toNat=j:=by
   rw[seqIndex_of h0 h5] at h1;exact Option.some.inj h1
  exact item_listR pl.isList h0 (by lia) (by rw[hj];simpa using ew) fin hs
 ·have hj:(i+(its.toArray.size:Int)).toNat=j:=by
   rw[OB (by lia) h4] at h1
   rw[J8,<- hl];exact Option.some.inj h1
  exact subscriptTail_builtinR (x:=w) pl.isList.typeIs slot_list_getitem.lookup
   (wpAny_getItem_list_neg (Q:=λr s'=>r=w/\EP X pins σ Q r s') pl.isList (by lia) (by rw[J8]<;>lia) (by lia) (by rw[hj];simpa using ew) ⟨rfl,fin⟩) hs
theorem rE:vm X (Fh X.K):=by
 intro value slice pins s σ H x y v u Q I rx ry h hs;obtain⟨p,xs,i,z,rfl,rfl,hq,he,q⟩:=h;cases rx;obtain⟨t,rfl⟩:=ry;obtain⟨its,r,pl,hz⟩:=I.tuple hq;obtain⟨j,h1,h2,h3,h4,h5⟩:=oE he;obtain⟨w,ew,rw'⟩:=r.get h2;have hl:=r.length;have hn:=iS;have fin:EP X pins σ Q w s:=⟨z,H,I,rw',q⟩;exact subscriptTail_builtinR (x:=w) pl.typeIs slot_tuple_getitem.lookup
  (getItem_tuple (j:=j) (Q:=λr s'=>r=w/\EP X pins σ Q r s') pl (by lia) (by lia) (by rw[J8,<- hl];exact h1) (by simpa using ew) ⟨rfl,fin⟩) hs
theorem Fv:vm X HD:=by
 intro value slice pins s σ H x y v u Q I rx ry h hs;obtain⟨z,i,c,rfl,rfl,hz,he,q⟩:=h;obtain⟨t,rfl⟩:=rx;obtain⟨t',rfl⟩:=ry;obtain⟨j,h1,h2,h3,h4,h5⟩:=oE he;have hl:z.cps.toList.length=z.length:=by simp[Str.length]
 rw[hl] at h1 h4 h5;have hn:=iS;exact tail_any (O2 s z t) slot_str_getitem.lookup (getItem_str (c:=c) (by
  have e1:decide (i < -(2^63:Int))=false:=Ke (by lia)
  have e2:decide (i >= 2^63)=false:=Ke (by lia)
  rw[e1,e2,Bool.or_false]) (by rw[h1];simpa using h2) ⟨.str ⟨#[c]⟩,H,I.tok _,⟨_,rfl⟩,q⟩) hs
noncomputable def Jn(K:W.Frag):R2:=λx y H Q=>Hr K x y H Q\/Fh K x y H Q\/HD x y H Q
theorem Fg:vm X (Jn X.K):=C1.or (rE.or Fv)
theorem sj(its:List Value)(n j:Nat)(u:Value):Obj.mapSeq (·.setIfInBounds j u) {cls:=.type "list",data:=.seq its.toArray n}={cls:=.type "list",data:=.seq (its.set j u).toArray n}:=by
 simp[Obj.mapSeq]
theorem Inv.lst{s:Shared}{p:Addr}{xs:List V}(I:Inv X pins σ H s)(h:H p=some (.lst xs)):
  ∃(its:List Value) (n:Nat),Vals xs its/\s.heap.get? p=some {cls:=.type "list",data:=.seq its.toArray n}/\xs.length<=sizeLine:=by
 obtain⟨z,its,n,r,e⟩:=I.aQ p _ h;exact⟨its,n,r,e,z⟩
theorem Inv.Ew{s:Shared}{p:Addr}{xs ys:List V}{n n':Nat}{f:Obj->Obj}(I:Inv X pins σ H s)(h:H p=some (.lst xs))
  (ho:s.heap.get? p=some {cls:=.type "list",data:=.seq its.toArray n}) (hf:f {cls:=.type "list",data:=.seq its.toArray n}={cls:=.type "list",data:=.seq its'.toArray n'}) (r:Vals ys its') (hz:ys.length<=sizeLine) (t:Nat) :
  Inv X pins σ (upd H p (.lst ys)) {s with heap:=s.heap.update p f,toks:=t}:=by
 have e:(s.heap.update p f).get? p=some {cls:=.type "list",data:=.seq its'.toArray n'}:=by
  rw[Ma f ho (by rw[hf]<;>rfl),hf]
 refine I.write (x:=p) (e:=p) (by rw[h];trivial) (.inl rfl) (λb u hb q=>(Od _ _ (KP hb)).trans q) ⟨_,e⟩ ?_
 exact⟨hz,its',n',r,e⟩
noncomputable def HN:V->V->V->Hp->(Hp->Prop)->Prop:=λo i v H Q=>∃p xs k j,o=.ref p/\i=.int k/\H p=some (.lst xs)/\kK xs.length k=some j/\Q (upd H p (.lst (xs.set j v)))
theorem set_list:EH X HN:=by
 intro pins s σ H o i v ov iv u Q I ro ri rv h;obtain⟨p,xs,k,j,rfl,rfl,hp,hj,q⟩:=h;cases ro;obtain⟨t,rfl⟩:=ri;obtain⟨its,n,r,ho,hz⟩:=I.lst hp;obtain⟨h1,h2,h3,h4⟩:=tY hj;have hl:=r.length;have hn:=iS;have I':Inv X pins σ (upd H p (.lst (xs.set j v))) {s with heap:=s.heap.update p (Obj.mapSeq (·.setIfInBounds j u))}:=
  I.Ew hp ho (sj its n j u) (r.set rv j) (by rw[KZ];exact hz) s.toks
 by_cases h0:0<=k
 ·have hk:k.toNat=j:=by
   rw[seqIndex_of h0 h4] at h1;exact Option.some.inj h1
  exact W.ki_setAt ho h0 (by lia) (by rw[J8,<- hl];exact h4) (by rw[hk];exact⟨_,I',q⟩)
 ·have hk:(k+(its.toArray.size:Int)).toNat=j:=by
   rw[OB (by lia) h3] at h1
   rw[J8,<- hl];exact Option.some.inj h1
  exact W.ki_setBack ho (by lia) (by rw[J8,<- hl];exact h3) (by lia) (by rw[hk];exact⟨_,I',q⟩)
theorem oa(lo hi:Option Int)(n:Nat):(sliceBounds lo hi none n).1=((HT.bW n 0 lo:Nat):Int)/\(sliceBounds lo hi none n).2.1=((HT.bW n n hi:Nat):Int)/\(sliceBounds lo hi none n).2.2=1:=by
 refine⟨?_,?_,rfl⟩
 ·cases lo with
  |none=>simp[sliceBounds,HT.bW]
  |some i =>
   simp only[sliceBounds,HT.bW,Option.getD_none,show (1:Int) > 0 by decide,Mt]
   by_cases h:i<0
   ·simp only[h,Mt]<;>lia
   ·simp only[h,Mf]<;>lia
 ·cases hi with
  |none=>simp[sliceBounds,HT.bW]
  |some i =>
   simp only[sliceBounds,HT.bW,Option.getD_none,show (1:Int) > 0 by decide,Mt]
   by_cases h:i<0
   ·simp only[h,Mt]<;>lia
   ·simp only[h,Mf]<;>lia
theorem lY(its:List Value)(lo hi:Option Int):slicePick its.toArray lo hi none=((its.drop (HT.bW its.length 0 lo)).take (HT.bW its.length its.length hi-HT.bW its.length 0 lo)).toArray:=by
 obtain⟨h1,h2,h3⟩:=oa lo hi its.toArray.size;unfold slicePick;rw[h1,h2,h3];simp only[sliceRange_one,pick_run,J8]<;>rfl
noncomputable def HF(K:W.Frag):V->Option Int->Option Int->Hp->VK->Prop:=λx lo hi H Q=>∃a xs,x=.ref a/\bI K H a xs/\∀p,H p=none->Q (.ref p) (upd H p (.lst (dJ xs lo hi)))
theorem t8:vL X (HF X.K):=by
 intro pins s σ H x v vl vu lo hi sl Q I rx hs pl pu h;obtain⟨a,xs,rfl,hx,q⟩:=h;cases rx;obtain⟨its,r,ht,hz⟩:=I.list hx;have hlen:=r.length;refine⟨"list",_,slot_list_getitem.lookup,ht.isList.typeIs,?_⟩;refine wpAny_getItem_list_slice ht.isList hs pl pu .none (by simp) ?_ (by rw[J8]<;>lia)
 rw[lY,<- hlen];refine⟨.ref s.heap.objs.size,_,I.laid (t':=s.toks) (o:=.lst (dJ xs lo hi)) (λb ob q=>J7 _ q) (JD _) ?_,rfl,q _ (I.aQ.fresh (JD _))⟩;exact⟨JF (j6 xs lo hi) hz,_,0,(r.drop (HT.bW xs.length 0 lo)).take (HT.bW xs.length xs.length hi-HT.bW xs.length 0 lo),JM _ rfl⟩
noncomputable def cO:V->Bool
 |.aR=>true
 |.bl _=>true
 |.int _=>true
 |.str _=>true
 |_=>false
noncomputable def wC:V->V->Bool
 |.aR,.aR=>true
 |.bl a,.bl b=>a == b
 |.bl a,.int b=>(if a then 1 else 0) == b
 |.int a,.bl b=>a ==(if b then 1 else 0)
 |.int a,.int b=>a == b
 |.str a,.str b=>a == b
 |_,_=>false
theorem nk{A:Around}{s:Shared}{v:Value}(ry:RelV y u)(rx:RelV x v)(fy:cO y=true)(fx:cO x=true):SeqAt.EqAt A s u v (wC y x):=by
 cases y with
 |aR =>
  cases ry
  cases x with
  |aR=>cases rx;exact SeqAt.EqAt.same _
  |bl b=>cases rx;exact SeqAt.EqAt.none_bool b
  |int b=>obtain⟨t,rfl⟩:=rx;exact SeqAt.EqAt.none_int b t
  |str b=>obtain⟨t,rfl⟩:=rx;exact SeqAt.EqAt.none_str b t
  |_=>exact absurd (show false=true from fx) JO
 |bl a =>
  cases ry
  cases x with
  |aR=>cases rx;exact SeqAt.EqAt.bool_none a
  |bl b=>cases rx;exact SeqAt.EqAt.bool_bool a b
  |int b=>obtain⟨t,rfl⟩:=rx;exact SeqAt.EqAt.bool_int a b t
  |str b=>obtain⟨t,rfl⟩:=rx;exact SeqAt.EqAt.bool_str a b t
  |_=>exact absurd (show false=true from fx) JO
 |int a =>
  obtain⟨t',rfl⟩:=ry
  cases x with
  |aR=>cases rx;exact SeqAt.EqAt.int_none a t'
  |bl b=>cases rx;exact SeqAt.EqAt.int_bool a t' b
  |int b=>obtain⟨t,rfl⟩:=rx;exact SeqAt.EqAt.int_int a t' b t
  |str b=>obtain⟨t,rfl⟩:=rx;exact SeqAt.EqAt.int_str a t' b t
  |_=>exact absurd (show false=true from fx) JO
 |str a =>
  obtain⟨t',rfl⟩:=ry
  cases x with
  |aR=>cases rx;exact SeqAt.EqAt.str_none a t'
  |bl b=>cases rx;exact SeqAt.EqAt.str_bool a t' b
  |int b=>obtain⟨t,rfl⟩:=rx;exact SeqAt.EqAt.str_int a t' b t
  |str b=>obtain⟨t,rfl⟩:=rx;exact SeqAt.EqAt.str_str a t' b t
  |_=>exact absurd (show false=true from fx) JO
 |_=>exact absurd (show false=true from fy) JO
noncomputable def C3(x:V)(u:Value):Bool:=match u with
 |.none=>wC .aR x
 |.bool b=>wC (.bl b) x
 |.int i _=>wC (.int i) x
 |.str z _=>wC (.str z) x
 |_=>false
theorem xO(r:RelV y u)(f:cO y=true):C3 x u=wC y x:=by
 cases y with
 |aR=>cases r;rfl
 |bl b=>cases r;rfl
 |int i=>obtain⟨t,rfl⟩:=r;rfl
 |str z=>obtain⟨t,rfl⟩:=r;rfl
 |_=>exact absurd (show false=true from f) JO
theorem nO:∀{xs:List V} {us:List Value},Vals xs us->xs.all cO=true->us.any (C3 x)=xs.any λy=>wC y x
 |_,_,.nil,_=>rfl
 |y::xs,u::us,.cons r t,f=>by
  rw[Lu,K4] at f;rw[MN,MN,xO r f.1,nO t f.2]
theorem kJ{A:Around}{s:Shared}{v:Value}(rx:RelV x v)(fx:cO x=true):∀{xs:List V} {us:List Value},Vals xs us->xs.all cO=true->∀u∈us,SeqAt.EqAt A s u v (C3 x u)
 |_,_,.nil,_=>λu hu=>by cases hu
 |y::xs,u::us,.cons r t,f=>λu' hu=>by
  rw[Lu,K4] at f;rcases J9.mp hu with rfl|hu
  ·rw[xO r f.1];exact nk r rx f.1 fx
  ·exact kJ rx fx t f.2 u' hu
noncomputable def qI(x:V)(xs:List V):Bool:=xs.any λy=>wC y x
noncomputable def IH(K:W.Frag)(neg:Bool):R2:=λx y H Q=>∃p xs,y=.ref p/\(bI K H p xs\/bz K H p xs)/\cO x=true/\xs.all cO=true/\Q (.bl (if neg then !qI x xs else qI x xs)) H
theorem mw:dc X (compareOp .In) (IH X.K false):=by
 intro pins s σ H x y v u Q I rx ry h;obtain⟨p,xs,rfl,hq,fx,fs,q⟩:=h;cases ry;rcases hq with hq|hq
 ·obtain⟨its,r,pl,hz⟩:=I.list hq;refine SeqAt.in_listAt (C3 x) pl.isList (λw hw=>kJ rx fx r fs w (by simpa using hw)) ⟨.bl _,H,I,rfl,?_⟩
  rw[show its.toArray.any (C3 x)=its.any (C3 x) by simp,nO r fs]
  exact q
 ·obtain⟨its,r,pl,hz⟩:=I.tuple hq;refine SeqAt.in_tupleAt (C3 x) pl (λw hw=>kJ rx fx r fs w (by simpa using hw)) ⟨.bl _,H,I,rfl,?_⟩
  rw[show its.toArray.any (C3 x)=its.any (C3 x) by simp,nO r fs]
  exact q
theorem bu.or{f:Value}{r r':List V->Hp->VK->Prop}(h:bu X f r)(h':bu X f r'):bu X f (λxs H Q=>r xs H Q\/r' xs H Q):=by
 intro pins s σ H xs us Q I rs q;rcases q with q|q
 ·exact h pins s σ H xs us Q I rs q
 ·exact h' pins s σ H xs us Q I rs q
theorem oA:bu X (.type "list") (λxs H Q=>∃p ys,xs=[.ref p]/\(bI X.K H p ys\/bz X.K H p ys)/\∀l,H l=none->Q (.ref l) (upd H l (.lst ys))):=by
 intro pins s σ H xs us Q I r h;obtain⟨p,ys,rfl,hq,q⟩:=h;obtain⟨u,rfl,rx⟩:=vals1 r;cases rx;have fin:∀(its:List Value),Vals ys its->ys.length<=sizeLine->∀(h':Heap) (c':Nat),(∀b o',s.heap.get? b=some o'->h'.get? b=some o') ->
   h'.get? s.heap.objs.size=some {cls:=.type "list",dict:=none,data:=.seq its.toArray c',slots:=#[]}->EP X pins σ Q (.ref s.heap.objs.size) {s with heap:=h'}:=λits r' hz h' c' kp e =>
  ⟨.ref s.heap.objs.size,_,I.laid (t':=s.toks) kp (JD _) (show b9 X.prog X.w _ h' _ (.lst ys) from⟨hz,its,c',r',e⟩),rfl,q _ (I.aQ.fresh (JD _))⟩
 rcases hq with hq|hq
 ·obtain⟨its,r',pl,hz⟩:=I.list hq;have hlen:=r'.length;obtain⟨o,ho,hc,n,hd⟩:=pl.isList;exact call_list_seq p (.inl rfl) ho hc hd (λh' c' kp e=>fin its r' hz h' c' kp e) (by simp only[J8]<;>lia)
 ·obtain⟨its,r',pl,hz⟩:=I.tuple hq;have hlen:=r'.length;obtain⟨o,ho,hc,n,hd⟩:=pl;exact call_list_seq p (.inr rfl) ho hc hd (λh' c' kp e=>fin its r' hz h' c' kp e) (by simp only[J8]<;>lia)
theorem eN:bu X (.type "tuple") (λxs H Q=>∃p ys,xs=[.ref p]/\((bI X.K H p ys/\∀l,H l=none->Q (.ref l) (upd H l (.tup ys)))\/(bz X.K H p ys/\Q (.ref p) H))):=by
 intro pins s σ H xs us Q I r h;obtain⟨p,ys,rfl,h⟩:=h;obtain⟨u,rfl,rx⟩:=vals1 r;cases rx;rcases h with ⟨hq,q⟩|⟨hq,q⟩
 ·obtain⟨its,r',pl,hz⟩:=I.list hq;have hlen:=r'.length;refine call_tuple_list pl.isList (λh' kp=>?_) (by simp only[J8]<;>lia)
  have I1:Inv X pins σ H {s with heap:=h'}:=I.kept (t':=s.toks) kp
  have I2:Inv X pins σ (upd H h'.objs.size (.tup ys)) {s with heap:=h'.push {cls:=.type "tuple",data:=.seq its.toArray}}:=
   I1.laid (t':=s.toks) (λb o e=>J7 _ e) (JD _) (show b9 X.prog X.w _ _ _ (.tup ys) from⟨hz,its,r',eJ.new _ _⟩)
  exact⟨.ref h'.objs.size,_,I2,rfl,q _ (I1.aQ.fresh (JD _))⟩
 ·obtain⟨its,r',pl,hz⟩:=I.tuple hq;exact call_tuple_same pl ⟨.ref p,H,I,rfl,q⟩
noncomputable def FP(K:W.Frag)(T:String)(x:V)(H:Hp):Prop:=match x with
 |.str _=>T="str"
 |.int _=>T="int"
 |.ref p=>(T="list"/\∃xs,bI K H p xs)\/(T="tuple"/\∃o,K.lookup p=some o/\o.cls=.type "tuple"/\o.dict=none) \/
   (T="dict"/\((∃kvs,H p=some (.dK kvs))\/∃kvs,H p=some (.dT kvs)))\/(T="set"/\∃S n,H p=some (.set S n))
 |_=>False
theorem ym{s:Shared}{T:String}{v:Value}(I:Inv X pins σ H s)(r:RelV x v)(ty:FP X.K T x H):
  s.TypeIs v T/\∀a,v=.ref a->∃ob,s.heap.get? a=some ob/\ob.dict=none:=by
 cases x with
 |str z =>
  obtain⟨t,rfl⟩:=r
  cases (show T="str" from ty)
  exact⟨O2 s z t,λ_ e=>nomatch e⟩
 |int i =>
  obtain⟨t,rfl⟩:=r
  cases (show T="int" from ty)
  exact⟨typeIs_int s i t,λ_ e=>nomatch e⟩
 |ref p =>
  cases r;rcases ty with ⟨rfl,xs,hq⟩|⟨rfl,o,hk,hc,hd⟩|⟨rfl,hk⟩|⟨rfl,S,n,hk⟩
  ·obtain⟨its,_,pl,_⟩:=I.list hq;refine⟨pl.isList.typeIs,λa e=>?_⟩;cases e;obtain⟨o,n,e,c,hd,_⟩:=pl;exact⟨o,e,hd⟩
  ·refine⟨⟨o,I.iP p o hk,hc⟩,λa e=>?_⟩;cases e;exact⟨o,I.iP _ o hk,hd⟩
  ·have z:∃o,s.heap.get? p=some o/\o.ExactDict:=by
    rcases hk with ⟨kvs,hk⟩|⟨kvs,hk⟩
    ·obtain⟨_,_,_,_,o,_,_,e,ex,_⟩:=I.aQ p _ hk;exact⟨o,e,ex⟩
    ·obtain⟨_,_,_,_,o,_,_,e,ex,_⟩:=I.aQ p _ hk;exact⟨o,e,ex⟩
   obtain⟨o,e,ex⟩:=z;refine⟨⟨o,e,ex.1⟩,λa e2=>?_⟩;cases e2;exact⟨o,e,ex.2.1⟩
  ·obtain⟨o,_,_,_,e,ex,_⟩:=I.aQ p _ hk;refine⟨⟨o,e,ex.1⟩,λa e2=>?_⟩;cases e2;exact⟨o,e,ex.2.1⟩
 |_=>exact False.elim ty
noncomputable def Ae(K:W.Frag)(T:String)(r:V->List V->Hp->VK->Prop)(to:TE):TE:=λσ H Q=>to σ H λx H1=>FP K T x H1/\r x [] H1 Q
noncomputable def Eb(K:W.Frag)(T:String)(r:V->List V->Hp->VK->Prop)(to:TE)(t:TA):TE:=λσ H Q=>to σ H λx H1=>FP K T x H1/\t σ H1 λxs H2=>r x xs H2 Q
variable {o e:Expr} {es:List Expr} {to:TE} {t:TA} {name:Str} {apos cpos:Pos} {T id:String} {r:V->List V->Hp->VK->Prop}
theorem DA(pa:PlainAttrs T)(slot:Slot T name id)(hty:typeOf (.builtin id)=pure (.type "method_descriptor"))(hm:sZ X id r)(ho:PE X o to)
  (hbase:autoParam (attributeBase o name X.env (eval o X.env)=eval o X.env) ℜ0) (hline:autoParam ((apos.endLine == cpos.line)=true) ℜ0):PE X (.Call (.Attribute o name apos) [] [] cpos) (Ae X.K T r to):=by
 intro pins s σ H Q I h;refine wpAny_Call_method0_late hbase hline (cp (ho pins s σ H _ I h) λv s1 hq53=>?_);obtain⟨x,H1,I1,r1,ty,q1⟩:=hq53;obtain⟨h1,h2⟩:=ym I1 r1 ty;exact⟨T,id,pa,slot,hty,h1,h2,Oe rfl (PySem.evalArgs_none (hm pins s1 σ H1 x [] v [] Q I1 r1 .nil q1))⟩
theorem Hd(pa:PlainAttrs T)(slot:Slot T name id)(hty:typeOf (.builtin id)=pure (.type "method_descriptor"))(hm:sZ X id r)(ho:PE X o to)(ha:PA X (e::es) t)
  (hbase:autoParam (attributeBase o name X.env (eval o X.env)=eval o X.env) ℜ0)
  (hfew:autoParam (((backTo cpos (starEach (e::es) X.env)).all (λx=>!x.1) && (backToKw cpos (keywordEach [] X.env)).all (λx=>x.1.isSome)
   && decide ((e::es).length+([]:List Keyword).length+(if ([]:List Keyword).isEmpty then 0 else 1)<30))=true) ℜ0)
  (hline:autoParam ((apos.endLine == cpos.line)=true) ℜ0) (hs:autoParam (starEach (e::es) X.env=(false,eval e X.env)::starEach es X.env) ℜ0) (hplain:autoParam ((backTo cpos (starEach es X.env)).any (·.1)=false) ℜ0) :
  PE X (.Call (.Attribute o name apos) (e::es) [] cpos) (Eb X.K T r to t):=by
 intro pins s σ H Q I h;refine wpAny_Call_method_late hbase hfew hline rfl (cp (ho pins s σ H _ I h) λv s1 hq54=>?_);obtain⟨x,H1,I1,r1,ty,q1⟩:=hq54;obtain⟨h1,h2⟩:=ym I1 r1 ty;refine⟨T,id,pa,slot,hty,h1,h2,?_⟩;have hA:=ha cpos pins s1 σ H1 _ I1 q1;rw[hs] at hA ⊢;refine Oe (by show (false || (backTo cpos (starEach es X.env)).any (·.1))=false;rw[hplain]<;>rfl) (Calls.evalArgs_plain ?_)
 exact cp hA λus s2 ⟨vs,H2,I2,r2,q2⟩=>hm pins s2 σ H2 x vs v us Q I2 r1 r2 q2
/- xs.append(e),list.index on a module's tuple .. are sZ facts of 06m -/
end
noncomputable def H_(X:Cx)(id:String)(r:V->List V->Hp->VK->Prop):Prop:=
 ∀(pins:List (Addr×Obj)) (s:Shared) (σ:St) (H:Hp) (x:V) (xs:List V) (v:Value) (us:List Value) (Q:VK),Inv X pins σ H s->RelV x v->Vals xs us->r x xs H Q ->
  wpAny (model X.prog X.w) X.A (call (.builtin id) (v::us)) (EP X pins σ Q) X.xe s
theorem Vals.one:∀{x:V} {us:List Value},Vals [x] us->∃u,us=[u]/\RelV x u
 |_,_,.cons r .nil=>⟨_,rfl,r⟩
theorem Vals.eraseIdx:∀{xs:List V} {us:List Value} (i:Nat),Vals xs us->Vals (xs.eraseIdx i) (us.eraseIdx i)
 |_,_,_,.nil=>.nil
 |_,_,0,.cons _ t=>t
 |_,_,i+1,.cons r t=>.cons r (Vals.eraseIdx i t)
theorem Vals.rep{xs:List V}(h:Vals xs us):∀k:Nat,Vals (List.replicate k xs).flatten (List.replicate k us).flatten
 |0=>.nil
 |k+1=>by
  rw[Ku,Ku,ME,ME];exact Vals.append h (Vals.rep h k)
theorem mx:∀(l:List α) (i:Nat),(l.eraseIdx i).length<=l.length
 |[],_=>JD _
 |_::_,0=>K8 _
 |_::r,i+1=>NK (mx r i)
theorem foldl_rep(its:List Value):∀(k:Nat) (acc:List Value),
  List.foldl (λx1 x2=>x1++x2) acc.toArray (List.replicate k its.toArray)=(acc++(List.replicate k its).flatten).toArray
 |0,acc=>by simp
 |k+1,acc=>by
  have e:acc.toArray++its.toArray=(acc++its).toArray:=by simp
  have e2:(acc++its)++(List.replicate k its).flatten=acc++(List.replicate (k+1) its).flatten:=by
   rw[Ku,ME,JU]
  rw[<- e2,<- foldl_rep its k (acc++its),<- e,Ku,NX]
section
variable {X:Cx} {pins:List (Addr×Obj)} {σ:St} {H:Hp} {s:Shared} {l b:Addr} {xs ys zs:List V}
theorem Inv.HI{n:Nat}{f:Array Value->Array Value}{t':Nat}(I:Inv X pins σ H s)(hH:H l=some (.lst xs))
  (e:s.heap.get? l=some {cls:=.type "list",data:=.seq its.toArray n}) (hf:f its.toArray=its'.toArray) (hv:Vals ys its') (hz:ys.length<=sizeLine) :
  Inv X pins σ (upd H l (.lst ys)) {s with heap:=s.heap.update l (Obj.mapSeq f),toks:=t'}:=by
 have q:=PySem.IsL.update e f;rw[hf] at q;refine I.write (x:=l) (e:=l) (by rw[hH];exact trivial) (.inl rfl) (λb' u hb hu=>(Od s.heap (Obj.mapSeq f) (KP hb)).trans hu) ⟨_,q⟩ ?_
 exact⟨hz,its',_,hv,q⟩
theorem Inv.En{t':Nat}(I:Inv X pins σ H s)(hv:Vals ys its)(hz:ys.length<=sizeLine):
  Inv X pins σ (upd H s.heap.objs.size (.lst ys)) {s with heap:=s.heap.push {cls:=.type "list",data:=.seq its.toArray},toks:=t'}:=
 I.laid (λ_ _ q=>J7 _ q) (JD _) ⟨hz,its,0,hv,JM _ rfl⟩
theorem Inv.fresh(I:Inv X pins σ H s):H s.heap.objs.size=none:=I.aQ.fresh (JD _)
theorem Inv.qM(I:Inv X pins σ H s)(hH:H l=some (.lst xs)):xs.length<=sizeLine/\∃(its:List Value) (n:Nat),Vals xs its/\xs.length=its.length/\s.heap.get? l=some {cls:=.type "list",data:=.seq its.toArray n}:=by
 obtain⟨z,its,n,r,e⟩:=I.aQ l _ hH;exact⟨z,its,n,r,r.length,e⟩
theorem xl{n:Nat}(h:n<=sizeLine):Builtin.List.listTooLong n=false:=by
 unfold Builtin.List.listTooLong;exact Ke (by lia)
end
section
variable {X:Cx}
noncomputable def tI:V->List V->Hp->VK->Prop:=λx vs H Q=>∃l xs y,x=.ref l/\vs=[y]/\H l=some (.lst xs)/\xs.length<sizeLine/\Q .aR (upd H l (.lst (xs++[y])))
theorem mX:H_ X "list.append" tI:=by
 intro pins s σ H x vs v us Q I rx rv h;obtain⟨l,xs,y,rfl,rfl,hH,hz,q⟩:=h;cases rx;obtain⟨u,rfl,ru⟩:=rv.one;obtain⟨z,its,n,r,hl,e⟩:=I.qM hH;refine MC F.slot_list_append ⟨_,e,rfl⟩ F.entry_list_append (F.args_list_append_2 _ _) (PySem.list_append l its.toArray n u (by rw[J8];lia)) ⟨e,?_⟩
 refine⟨.aR,_,I.HI (its':=its++[u]) hH e (by simp) (r.append (.cons ru .nil)) ?_,rfl,q⟩
 rw[J5,Mb];lia
noncomputable def Ec:V->List V->Hp->VK->Prop:=λx vs H Q=>∃l xs i k y,x=.ref l/\vs=[.int i]/\H l=some (.lst xs)/\-(2^63)<=i/\i<2^63/\seqIndex? i xs.length=some k/\xs[k]?=some y/\Q y (upd H l (.lst (xs.eraseIdx k)))
theorem xa:H_ X "list.pop" Ec:=by
 intro pins s σ H x vs v us Q I rx rv h;obtain⟨l,xs,i,k,y,rfl,rfl,hH,h1,h2,hk,hy,q⟩:=h;cases rx;obtain⟨u,rfl,ru⟩:=rv.one;obtain⟨t,rfl⟩:=ru;obtain⟨z,its,n,r,hl,e⟩:=I.qM hH;obtain⟨w,hw,rw'⟩:=r.get hy;refine MC F.slot_list_pop ⟨_,e,rfl⟩ F.entry_list_pop (F.args_list_pop_2 _ _)
  (MeetsSeq.list_pop_at l its.toArray n i t k w (fitsIndex_both h1 h2) (by rw[J8,<- hl];exact hk) (by rw[<- Kh];exact hw) (by rw[J8];lia)) ⟨e,?_⟩
 refine⟨y,_,I.HI (its':=its.eraseIdx k) hH e ?_ (r.eraseIdx k) ?_,rw',q⟩
 ·show its.toArray.eraseIdxIfInBounds k=(its.eraseIdx k).toArray;rw[List.eraseIdxIfInBounds_toArray]
 ·have:=mx xs k;lia
noncomputable def Ie:R2:=λx y H Q=>∃l b xs zs,x=.ref l/\y=.ref b/\H l=some (.lst xs)/\H b=some (.lst zs)/\xs.length+zs.length<=sizeLine/\∀p,H p=none->Q (.ref p) (upd H p (.lst (xs++zs)))
theorem ED:dc X (binaryOp .Add) Ie:=by
 intro pins s σ H x y v u Q I rx ry h;obtain⟨l,b,xs,zs,rfl,rfl,hH,hB,hz,q⟩:=h;cases rx;cases ry;obtain⟨z,its,n,r,hl,e⟩:=I.qM hH;obtain⟨z2,its2,n2,r2,hl2,e2⟩:=I.qM hB;refine PySem.P.add_list e e2 ?_ (by rw[J8,J8];lia)
 have ea:its.toArray++its2.toArray=(its++its2).toArray:=by simp
 rw[ea];exact⟨.ref _,_,I.En (t':=s.toks) (r.append r2) (by rw[J5];lia),rfl,q _ I.fresh⟩
noncomputable def GL:R2:=λx y H Q=>∃l k xs,x=.ref l/\y=.int k/\H l=some (.lst xs)/\-(2^63)<=k/\k<2^63/\xs.length*k.toNat<=sizeLine /\
 ∀p,H p=none->Q (.ref p) (upd H p (.lst (List.replicate k.toNat xs).flatten))
theorem len_rep(xs:List α)(k:Nat):(List.replicate k xs).flatten.length=k*xs.length:=by
 induction k with
 |zero=>simp
 |succ k ih=>rw[Ku,ME,J5,ih,MZ,Nat.add_comm]
theorem E5:dc X (binaryOp .Mult) GL:=by
 intro pins s σ H x y v u Q I rx ry h;obtain⟨l,k,xs,rfl,rfl,hH,h1,h2,hz,q⟩:=h;cases rx;obtain⟨t,rfl⟩:=ry;obtain⟨z,its,n,r,hl,e⟩:=I.qM hH;have hlen:its.toArray.size*k.toNat<=sizeLine:=by rw[J8,<- hl];exact hz
 have hcap:¬ its.toArray.size*k.toNat >(2^63-1) / 8:=by
  have:(sizeLine:Nat)<=(2^63-1) / 8:=by decide
  lia
 have hfit:¬ (!Builtin.List.listFitsIndex k)=true:=by
  rw[fitsIndex_both h1 h2];exact JO
 have hlong:¬ Builtin.List.listTooLong (its.toArray.size*k.toNat)=true:=by
  rw[xl hlen];exact JO
 have hnew:List.foldl (λx1 x2=>x1++x2) #[] (List.replicate (if its.toArray.isEmpty=true then 0 else k.toNat) its.toArray)=(List.replicate k.toNat its).flatten.toArray:=by
  have f0:∀m:Nat,List.foldl (λx1 x2=>x1++x2) #[] (List.replicate m its.toArray)=(List.replicate m its).flatten.toArray:=λm=>by
   have:=foldl_rep its m [];rw[KN] at this;exact this
  rw[f0]
  cases its with
  |nil=>simp
  |cons a r'=>rw[JA (by simp)]
 refine wpAny_binaryOp_repeat_ref (T:="list") (U:="int") (by decide) ⟨_,e,rfl⟩ (λs'=>typeIs_int s' k t) noFill_list_mul F.fills_int_mul F.slot_int_rmul repeat_list F.slot_int_index.lookup
  (MC F.slot_int_rmul (typeIs_int s k t) F.entry_int_rmul (F.args_int_rmul_2 _ _) (int___rmul___int_list k t l its.toArray n)
   ⟨e,rfl,⟨_,e,rfl⟩,MC F.slot_list_mul ⟨_,e,rfl⟩ F.entry_list_mul (F.args_list_mul_2 _ _) (AutoListH.list___mul___list_int_3 l its.toArray n k t hfit hcap hlong) ⟨e,?_⟩⟩)
 rw[hnew];exact⟨.ref _,_,I.En (t':=s.toks) (r.rep k.toNat) (by rw[len_rep,Nat.mul_comm];exact hz),rfl,q _ I.fresh⟩
end
section
variable {κ:Type} [DecidableEq κ]
noncomputable def fB(kvs:List (κ×V))(k:κ):Option V:=(kvs.find? λkv=>decide (kv.1=k)).map (·.2)
noncomputable def putK(kvs:List (κ×V))(k:κ)(v:V):List (κ×V):=
 if (kvs.any λkv=>decide (kv.1=k))=true then kvs.map (λkv=>if kv.1=k then (kv.1,v) else kv) else kvs++[(k,v)]
theorem i3{p:κ×V}{r:List (κ×V)}{k:κ}(e:p.1=k):fB (p::r) k=some p.2:=by simp[fB,Ln,e]
theorem iB{p:κ×V}{r:List (κ×V)}{k:κ}(e:¬ p.1=k):fB (p::r) k=fB r k:=by simp[fB,Ln,e]
theorem i7(k:κ):∀kvs:List (κ×V),(kvs.any λkv=>decide (kv.1=k))=(fB kvs k).isSome
 |[]=>rfl
 |p::r=>by
  rw[MN];by_cases e:p.1=k
  ·simp only[i3 e,Kc e,Bool.true_or,Option.isSome_some]
  ·rw[iB e,Ke e,Bool.false_or];exact i7 k r
theorem gq(kvs:List (κ×V))(k:κ)(v:V):(putK kvs k v).length<=kvs.length+1:=by
 unfold putK;split
 ·rw[Jz];lia
 ·rw[J5,JK,K2];lia
theorem xD{kvs:List (κ×V)}{k:κ}(v:V)(h:fB kvs k=none):putK kvs k v=kvs++[(k,v)]:=by
 unfold putK;rw[i7,h];exact JA (by decide)
theorem gU.ji{u:Option Value}(r:gU o u):o.isSome=u.isSome:=by
 cases o with
 |none=>cases u with
  |none=>rfl
  |some _=>exact (show False from r).elim
 |some _=>cases u with
  |none=>exact (show False from r).elim
  |some _=>rfl
theorem KV.val{kvs:List (κ×V)}{vs:List (κ×Value)}(r:KV kvs vs)(k:κ):gU (fB kvs k) (valueAt vs k):=by
 unfold KV at r
 induction r with
 |nil=>exact True.intro
 |@cons p q ps qs h t ih =>
  obtain⟨h1,h2⟩:=h;by_cases e:p.1=k
  ·have e':q.1=k:=h1.symm.trans e;have b:valueAt (q::qs) k=some q.2:=by simp[valueAt,Ln,e']
   rw[i3 e,b];exact h2
  ·have e':¬ q.1=k:=λz=>e (h1.trans z);have b:valueAt (q::qs) k=valueAt qs k:=by simp[valueAt,Ln,e']
   rw[iB e,b];exact ih
theorem KV.any{kvs:List (κ×V)}{vs:List (κ×Value)}(r:KV kvs vs)(k:κ):(kvs.any λkv=>decide (kv.1=k))=vs.any λkv=>decide (kv.1=k):=by
 unfold KV at r
 induction r with
 |nil=>rfl
 |cons h t ih=>rw[MN,MN,ih,h.1]
theorem KV.DU{kvs:List (κ×V)}{vs:List (κ×Value)}(r:KV kvs vs)(k:κ)(ry:RelV y u):
  KV (kvs.map λkv=>if kv.1=k then (kv.1,y) else kv) (vs.map λkv=>if kv.1=k then (kv.1,u) else kv):=by
 unfold KV at r ⊢
 induction r with
 |nil=>exact .nil
 |@cons p q ps qs h t ih =>
  rw[Kg,Kg];refine .cons ?_ ih;obtain⟨h1,h2⟩:=h;by_cases e:p.1=k
  ·rw[JE e,JE (h1.symm.trans e)];exact⟨h1,ry⟩
  ·rw[JA e,JA (λz=>e (h1.trans z))];exact⟨h1,h2⟩
theorem KV.put{kvs:List (κ×V)}{vs:List (κ×Value)}(r:KV kvs vs)(k:κ)(ry:RelV y u):KV (putK kvs k y) (stored vs k u):=by
 unfold putK stored;rw[r.any k];by_cases e:(vs.any λkv=>decide (kv.1=k))=true
 ·rw[JE e,JE e];exact r.DU k ry
 ·rw[JA e,JA e];exact Paired.snoc r ⟨rfl,ry⟩
theorem KV.length{kvs:List (κ×V)}{vs:List (κ×Value)}(r:KV kvs vs):kvs.length=vs.length:=Paired.length r
end
theorem pQ{k:Key}(r:RelV (kV k) u):(cg P w).is k u=true:=by
 cases k with
 |inl i=>obtain⟨t,e⟩:=(show ∃t,u=Value.int i t from r);subst e;exact oP P w i t
 |inr x=>obtain⟨t,e⟩:=(show ∃t,u=Value.str x t from r);subst e;exact qA P w x t
theorem ng:∀{ks:List Key} {us:List Value},Vals (ks.map kV) us->ItemsAre (cg P w) ks us
 |[],_,r=>by rw[L_] at r;cases r;exact .nil
 |k::ks,_,r=>by
  rw[Kg] at r
  cases r with
  |cons h t=>exact .cons (pQ h) (ng t)
abbrev KT(H:Hp):List (List Key×V)->List (List Key×Addr×Value)->Prop:=Paired λp q=>p.1=q.1/\H q.2.1=some (.tup (p.1.map kV))/\RelV p.2 q.2.2
theorem KT.val(r:KT H kvs xs)(k:List Key):gU (fB kvs k) ((atKey xs k).map (·.2)):=by
 induction r with
 |nil=>exact True.intro
 |@cons p q ps qs h t ih =>
  obtain⟨h1,_,h2⟩:=h;by_cases e:p.1=k
  ·have e':q.1=k:=h1.symm.trans e;have b:atKey (q::qs) k=some q.2:=by simp[atKey,Ln,e']
   rw[i3 e,b];exact h2
  ·have e':¬ q.1=k:=λz=>e (h1.trans z);have b:atKey (q::qs) k=atKey qs k:=by simp[atKey,Ln,e']
   rw[iB e,b];exact ih
theorem KT.DU(r:KT H kvs xs)(k:List Key)(ry:RelV y u):
  KT H (kvs.map λkv=>if kv.1=k then (kv.1,y) else kv) (xs.map (putAt k u)):=by
 induction r with
 |nil=>exact .nil
 |@cons p q ps qs h t ih =>
  rw[Kg,Kg];refine .cons ?_ ih;obtain⟨h1,h2,h3⟩:=h;unfold putAt;by_cases e:p.1=k
  ·rw[JE e,JE (h1.symm.trans e)];exact⟨h1,h2,ry⟩
  ·rw[JA e,JA (λz=>e (h1.trans z))];exact⟨h1,h2,h3⟩
theorem KT.put(r:KT H kvs xs)(k:List Key){b:Addr}(hb:H b=some (.tup (k.map kV)))(ry:RelV y u):
  KT H (putK kvs k y) (storedH xs k b u):=by
 have e:(kvs.any λkv=>decide (kv.1=k))=(atKey xs k).isSome:=by
  rw[i7,(r.val k).ji,Option.isSome_map]
 unfold putK storedH;rw[e];by_cases q:(atKey xs k).isSome=true
 ·rw[JE q,JE q];exact r.DU k ry
 ·rw[JA q,JA q];exact Paired.snoc r ⟨rfl,hb,ry⟩
theorem KT.keeps(r:KT H kvs xs)(ht:∀b ys,H b=some (.tup ys)->H' b=some (.tup ys)):KT H' kvs xs:=
 Paired.EO r λ_ _ z=>⟨z.1,ht _ _ z.2.1,z.2.2⟩
section
variable {P:Program} {w:World} {H:Hp} {h:Heap} {a:Addr}
theorem Df{u:HO}(ok:iq P w H h)(e:Rd H a u):b9 P w H h a u:=e.ok ok
theorem tR{kvs:List (Key×V)}(ok:iq P w H h)(e:Rd H a (.dK kvs)):kvs.length<=sizeLine/\(a == sysModules)=false/\∃vs,KV kvs vs/\h.DictOf (cg P w) a vs:=
 show b9 P w H h a (.dK kvs) from Df ok e
theorem FY{kvs:List (Key×V)}(ok:iq P w H h)(e:H a=some (.dK kvs)):kvs.length<=sizeLine/\(a == sysModules)=false/\∃vs,KV kvs vs/\h.DictOf (cg P w) a vs:=tR ok (.inl e)
theorem oH{ks:List Key}(ok:iq P w H h)(e:H a=some (.tup (ks.map kV))):(tupleKind (cg P w)).is h ks a:=by
 obtain⟨_,its,r,o,h1,h2,n,h3,_⟩:=(show b9 P w H h a (.tup (ks.map kV)) from ok a _ e);exact⟨o,its.toArray,n,h1,h2,h3,by simpa using ng r⟩
theorem sY(ok:iq P w H h)(e:Rd H a (.dT kvs)):kvs.length<=sizeLine/\(a == sysModules)=false /\
  ∃xs,KT H kvs xs/\h.DictOfH (tupleKind (cg P w)) a xs:=by
 obtain⟨z,y,xs,r,o,es,ep,h1,h2,h3,h4,h5⟩:=(show b9 P w H h a (.dT kvs) from Df ok e);refine⟨z,y,xs,r,o,es,ep,h1,h2,h3,h4,λx hx=>?_,h5⟩;have all:∀{l:List (List Key×V)} {m:List (List Key×Addr×Value)},KT H l m->∀x∈m,(tupleKind (cg P w)).is h x.1 x.2.1:=by
  intro l m q
  induction q with
  |nil=>intro x hx;exact nomatch hx
  |@cons p q ps qs hq t ih =>
   intro x hx;rcases J9.mp hx with e|hx
   ·subst e;exact oH ok (by rw[<- hq.1];exact hq.2.1)
   ·exact ih x hx
 exact all r x hx
theorem Hh(ok:iq P w H h)(e:H a=some (.dT kvs)):kvs.length<=sizeLine/\(a == sysModules)=false /\
  ∃xs,KT H kvs xs/\h.DictOfH (tupleKind (cg P w)) a xs:=sY ok (.inl e)
end
noncomputable def jB(H:Hp)(a:Addr)(y:V)(r:Option V):Prop:=
 (∃kvs k,Rd H a (.dK kvs)/\y=kV k/\r=fB kvs k)\/∃kvs k b,Rd H a (.dT kvs)/\y=.ref b/\H b=some (.tup (k.map kV))/\r=fB kvs k
noncomputable def EF(H:Hp)(a:Addr)(y v:V)(H':Hp):Prop:=
 (∃kvs k,H a=some (.dK kvs)/\y=kV k/\kvs.length<sizeLine/\H'=upd H a (.dK (putK kvs k v))) \/
 ∃kvs k b,H a=some (.dT kvs)/\y=.ref b/\H b=some (.tup (k.map kV))/\kvs.length<sizeLine/\H'=upd H a (.dT (putK kvs k v))
theorem jB.k{a:Addr}{kvs:List (Key×V)}{k:Key}(e:H a=some (.dK kvs)):jB H a (kV k) (fB kvs k):=.inl ⟨kvs,k,.inl e,rfl,rfl⟩
section
variable {X:Cx} {pins:List (Addr×Obj)} {σ:St} {H:Hp} {s:Shared} {a:Addr} {y v:V} {u r:Value} {o:Option V} {A:Around} {E:Value->Shared->Prop}
theorem Inv.big(I:Inv X pins σ H s):sysModules<s.heap.objs.size:=by
 have h:mainGlobals<s.heap.objs.size:=(I.mod.glob.keeps I.bk).lt;exact Mc (by decide) h
theorem vy(hu:A.units+1<cLine)(I:Inv X pins σ H s)(g:jB H a y (some v))(ry:RelV y u)(h:∀w' s',Inv X pins σ H s'->RelV v w'->Q w' s'):
  wpAny (model X.prog X.w) A (getItem (.ref a) u) Q E s:=by
 rcases g with ⟨kvs,k,e,ey,l⟩|⟨kvs,k,b,e,ey,eb,l⟩
 ·subst ey;obtain⟨z,hd,vs,rel,dd⟩:=tR I.aQ e;obtain⟨w',hw,rw'⟩:=gU.some_of (v:=v) (o:=valueAt vs k) (by rw[l];exact rel.val k)
  exact wpAny_getItem_of (pQ ry) dd.mapOf hw (h w' _ (I.tok _) rw')
 ·subst ey
  cases (show u=Value.ref b from ry)
  obtain⟨z,hd,xs,rel,dd⟩:=sY I.aQ e;obtain⟨w',hw,rw'⟩:=gU.some_of (v:=v) (o:=(atKey xs k).map (·.2)) (by rw[l];exact rel.val k)
  obtain⟨p,hp,hp2⟩:=JW.mp hw;refine wpAny_getItem_heap (Nw hu) (oH I.aQ eb) dd hp ?_;rw[hp2];exact h w' _ (I.tok _) rw'
theorem Ba(hu:A.units+1<cLine)(I:Inv X pins σ H s)(g:jB H a y o)(ry:RelV y u)(h:∀s',Inv X pins σ H s'->Q (.bool (!o.isSome)) s'):
  wpAny (model X.prog X.w) A (compareOp .NotIn u (.ref a)) Q E s:=by
 rcases g with ⟨kvs,k,e,ey,l⟩|⟨kvs,k,b,e,ey,eb,l⟩
 ·subst ey;obtain⟨z,hd,vs,rel,dd⟩:=tR I.aQ e;refine wpAny_notIn_of (pQ ry) hd dd.mapOf ?_;rw[<- (rel.val k).ji,<- l];exact h _ (I.tok _)
 ·subst ey
  cases (show u=Value.ref b from ry)
  obtain⟨z,hd,xs,rel,dd⟩:=sY I.aQ e;refine wpAny_notIn_heap (Nw hu) (oH I.aQ eb) hd dd ?_;have q:=(rel.val k).ji;rw[Option.isSome_map] at q;rw[<- q,<- l];exact h _ (I.tok _)
theorem tm{h':Heap}{t':Nat}{ob:HO}(I:Inv X pins σ H s)(mu:Hz (H a))(hs:Heap.SameBut a s.heap h')(he:∃q,h'.get? a=some q)(new:b9 X.prog X.w (upd H a ob) h' a ob):
  Inv X pins σ (upd H a ob) {s with heap:=h',toks:=t'}:=
 I.write (x:=a) (e:=a) mu (.inl rfl) (λb q hb z=>(hs.2 b hb).trans z) he new
theorem zN{h':Heap}{kvs:List (Key×V)}{vs:List (Key×Value)}(z:kvs.length<=sizeLine)(hd:(a == sysModules)=false)(rel:KV kvs vs)(dd:h'.DictOf (cg P w) a vs):
  b9 P w H' h' a (.dK kvs):=⟨z,hd,vs,rel,dd⟩
theorem wB{Q:Unit->Shared->Prop}(hu:A.units+1<cLine)(I:Inv X pins σ H s)(g:EF H a y v H')(ry:RelV y u)(rv:RelV v r)(h:∀s',Inv X pins σ H' s'->Q () s'):
  wpAny (model X.prog X.w) A (setItem (.ref a) u r) Q E s:=by
 rcases g with ⟨kvs,k,e,ey,l,eH⟩|⟨kvs,k,b,e,ey,eb,l,eH⟩
 ·subst ey eH;obtain⟨z,hd,vs,rel,dd⟩:=FY I.aQ e;have hz:vs.length<=sizeLine:=by rw[<- rel.length];exact z
  have hl:(putK kvs k v).length<=sizeLine:=by have:=gq kvs k v;lia
  refine wpAny_setItem_pairs (hsz:=hz) (pQ ry) dd λh' dd' hs=>h _ ?_;have he:∃q,h'.get? a=some q:=let ⟨q,_,_,hq,_⟩:=dd';⟨q,hq⟩
  exact tm I (by rw[e];exact True.intro) hs he (zN hl hd (rel.put k rv) dd')
 ·subst ey eH
  cases (show u=Value.ref b from ry)
  obtain⟨z,hd,xs,rel,dd⟩:=Hh I.aQ e;have hz:xs.length<=sizeLine:=by rw[<- Paired.length rel];exact z
  have hl:(putK kvs k v).length<=sizeLine:=by have:=gq kvs k v;lia
  refine wpAny_setItem_heap (hsz:=hz) (Nw hu) (oH I.aQ eb) dd λh' dd' hs=>h _ ?_;obtain⟨q,es,ep,hq,h2,h3,h4,_,h5⟩:=dd';refine tm I (by rw[e];exact True.intro) hs ⟨q,hq⟩ ⟨hl,hd,_,(rel.put k eb rv).keeps λc ys ec=>?_,q,es,ep,hq,h2,h3,h4,h5⟩
  rw[aj (Gy ec e (λz=>nomatch z))];exact ec
end
noncomputable def xY(i:Expr):Prop:=∀ov iv,subscripted i false ov iv=operate [ov,iv] (getItem ov iv)
theorem sL{prog:Program}{A:Around}{E:Value->Shared->Prop}{s:Shared}{env:Env}{value slice:Expr}{pos:Pos}{T id:String}
  (hl:typeLookup (.type T) "__getitem__"=pure (some (.builtin id))) (hs:xY slice)
  (h:wpAny (model prog w) A (eval value env) (λo s₁=>wpAny (model prog w) A (eval slice env) (λi s₂=>s₂.TypeIs o T/\wpAny (model prog w) A (getItem o i) Q E s₂) E s₁) E s) :
  wpAny (model prog w) A (eval (.Subscript value slice pos) env) Q E s:=by
 refine Subscript_ (K5 h (λo s₁ h₁=>K5 h₁ (λi s₂ h₂=>?_) λ_ _ x=>x) λ_ _ x=>x);obtain⟨hT,h₂⟩:=h₂;unfold subscriptTail;refine Jy ?_;rw[getitemInPython_of_ne hT.not_modules];refine Jy (wpAny_specialOf hT hl ?_);have fin:wpAny (model prog w) A (subscripted slice false o i) (λr s₃=>wpAny (model prog w) A (letTemporaryGo value o r >>= λ_=>pure r) Q E s₃) E s₂:=by
  rw[hs o i];exact wpAny_operating (K5 h₂ (λr s₃ h₃=>Jy (wpAny_letTemporaryGo (JJ h₃))) λ_ _ x=>x)
 first
  |exact JJ (Jy fin)
  |exact Jy (JJ (Jy fin))
  |exact Jy fin
theorem pL{X:Cx}{s:Shared}{a:Addr}(I:Inv X pins σ H s)(g:jB H a y o):s.TypeIs (.ref a) "dict":=by
 rcases g with ⟨kvs,k,e,_,_⟩|⟨kvs,k,b,e,_,_,_⟩
 ·obtain⟨_,_,vs,_,dd⟩:=tR I.aQ e;exact dd.typeIs
 ·obtain⟨_,_,xs,_,dd⟩:=sY I.aQ e;exact dd.typeIs
noncomputable def qf(td ty:TE):TE:=λσ H Q=>td σ H λx H1=>ty σ H1 λy H2=>∃a v,x=.ref a/\jB H2 a y (some v)/\Q v H2
noncomputable def pX(td ty tv:TE):TS:=λD σ H=>tv σ H λv H1=>td σ H1 λx H2=>ty σ H2 λy H3=>∃a H4,x=.ref a/\EF H3 a y v H4/\D.nx σ H4
section
variable {X:Cx} {o i e value:Expr} {pos pos' tpos:Pos} {td ty tv:TE}
theorem AM(hu:X.A.units+1<cLine)(ho:PE X o td)(hi:PE X i ty)(hs:xY i):PE X (.Subscript o i pos) (qf td ty):=by
 intro pins s σ H Q I h;refine sL PySem.F.slot_dict_getitem.lookup hs (cp (ho pins s σ H _ I h) λu s1 ⟨x,H1,I1,rx,q1⟩=>cp (hi pins s1 σ H1 _ I1 q1) λiv s2 hq55=>?_);obtain⟨y,H2,I2,ry,a,v,ex,g,q2⟩:=hq55;subst ex;obtain rfl:u=Value.ref a:=rx;exact⟨pL I2 g,vy hu I2 g ry λw' s3 I3 rw'=>⟨v,H2,I3,rw',q2⟩⟩
theorem AW(hu:X.A.units+1<cLine)(ho:PE X o td)(hi:PE X i ty)(hv:PE X value tv)(hs:swapsWith value (some (.Subscript o i pos')) pos.line X.env=pure false):
  PS X (.Assign [.Subscript o i pos'] value pos) (pX td ty tv):=by
 intro pins s σ H D I h;refine wpAny_Assign_Subscript (cp (hv pins s σ H _ I h) λr s1 ⟨v,H1,I1,rv,q1⟩=>cp (ho pins s1 σ H1 _ I1 q1) λu s2 ⟨x,H2,I2,rx,q2⟩=>cp (hi pins s2 σ H2 _ I2 q2) λiv s3 hq58=>?_) hs;obtain⟨y,H3,I3,ry,a,H4,ex,g,q3⟩:=hq58;subst ex;obtain rfl:u=Value.ref a:=rx;exact wB hu I3 g ry rv λs4 I4=>⟨σ,H4,I4,q3⟩
end
noncomputable def f7(kvs more:List (Key×V)):List (Key×V):=more.foldl (λacc kv=>putK acc kv.1 kv.2) kvs
theorem KV.merge:∀{more:List (Key×V)} {rs:List (Key×Value)} {kvs:List (Key×V)} {vs:List (Key×Value)},KV more rs->KV kvs vs->KV (f7 kvs more) (merged vs rs):=by
 intro more rs kvs vs r;unfold KV at r
 induction r generalizing kvs vs with
 |nil=>intro q;exact q
 |@cons p q ps qs h t ih =>
  intro r0;have e:KV (putK kvs p.1 p.2) (stored vs q.1 q.2):=by
   have:=r0.put p.1 h.2;rw[<- h.1];exact this
  exact ih e
theorem gW:∀(more kvs:List (Key×V)),(f7 kvs more).length<=kvs.length+more.length
 |[],kvs=>by show kvs.length<=kvs.length+0;lia
 |p::r,kvs=>by
  have h1:=gW r (putK kvs p.1 p.2);have h2:=gq kvs p.1 p.2;show (f7 (putK kvs p.1 p.2) r).length<=_;rw[JK];lia
end L2
namespace Att
open PySem PySem.W PySem.Calls PyProof.Rows
theorem j8{P:Params}{h:Heap}:∀(ns:List Int) (vs:List Value),WellAll P h vs (ns.map WData.int)->IntsAre vs ns:=by
 intro ns
 induction ns with
 |nil =>
  intro vs w;rw[List.map_nil] at w;cases w;exact .nil
 |cons n ns ih =>
  intro vs w;rw[List.map_cons] at w
  cases w with
  |cons a b =>
   cases a;exact .cons _ _ (ih _ b)
theorem vo{l:OpenLaw}{n:Nat}(hn:l.most=some n){P:Params}{h:Heap}{args:List WData}{vals:List Value}
  (hpre:l.row.toRowW.claim.pre args=true) (hwl:WellAll P h vals args) :
  ∃a vs ns,vals=[Value.ref a]/\args=[WData.list (ns.map WData.int)]/\h.get? a=some {cls:=.type "list",data:=.seq vs.toArray}/\IntsAre vs ns/\ns.length<=n:=by
 have hsh:WShape.hasAll [] args [.list .int]=true:=(pre_splitW hpre).1;have hc:l.pre.holds [] {args:=args}=true:=(pre_splitW hpre).2;obtain⟨d,r,rfl,h1,h2⟩:=hasAllW_cons hsh;obtain rfl:=hasAllW_nil h2;obtain⟨xs,rfl,h3⟩:=hasW_list h1;obtain⟨ns,rfl⟩:=items_int h3;have hlen:ns.length<=n:=by
  unfold OpenLaw.pre at hc;have h4:(WTm.not (.lt (.lit (.int (n:Int))) (.len (.arg 0)))).holds [] {args:=[.list (ns.map .int)]}=true:=by
   have h4:=(holds_andW hc).1;rw[hn] at h4;exact h4
  have h5:=condW_of h4 (w_not (w_lt w_lit (w_len_list (w_arg rfl))));rw[List.length_map] at h5;refine Nat.le_of_not_lt λq=>?_;have q':(n:Int)<((ns.length:Nat):Int):=by lia
  first
   | (rw[decide_eq_true q'] at h5;exact absurd h5 (by decide))
   | (simp at h5;lia)
 cases hwl with
 |cons w1 w2 =>
  cases w2
  cases w1 with
  |list ho hall=>exact⟨_,_,ns,rfl,rfl,ho,j8 ns _ hall,hlen⟩
theorem vA(l:OpenLaw)(args:List WData):l.row.toRowW.claim.post args (.bool true) args=true:=
 postW_of (r:=l.row.toRowW) (X:=(true == true))
  (show WShape.has [] (.bool true) .bool=true by first|rfl|decide|simp[WShape.has,WShape.arms,WShape.armsAll])
  (show (WTm.eq .res (.lit (.bool true))).value [] {args:=args,res:=some (.bool true),after:=args}=some (.bool (true == true)) from w_eq_bool (w_res rfl) w_lit) rfl
theorem pY{l:OpenLaw}{n:Nat}{q:Program}{loose:List Str}{XP:(Str->Option Value)->Heap->Prop}{YP:World->Heap->Prop}{d:DefRec}
  (hn:l.most=some n) (hdf:d.params.defaults=[])
  (call:∀(w:World) (s₀ s₁:Shared) (mg mb:Str->Option Value) (fa:Addr) (o:Obj) (pm cd doc:Value) (a:Addr) (vs:List Value) (ns:List Int),
   Ground q loose [] XP w s₀ mg mb s₁.heap->YP w s₁.heap ->
   s₁.heap.get? fa=some o->o.data=.func (docDef d.name d.params d.body d.scope pm cd doc)->s₁.heap.CodeRec cd d.name->mg d.name=some (.ref fa) ->
   s₁.heap.get? a=some {cls:=.type "list",data:=.seq vs.toArray}->IntsAre vs ns->ns.length<=n->s₁.gens=#[] ->
   codeAny (model l.prog w) callerA (.call (.ref fa) ⟨[.ref a],[]⟩) (λr s'=>r=.ok (.ret (.bool true))/\OldK s₁.heap s'.heap/\s'.os=s₁.os/\AllBare s'.gens) s₁) :
  WalkO q loose XP YP l.row.toRowW d [] (λf vs=>PySem.call f vs):=by
 intro w s₀ s₁ mg mb G Y fa o pm cd doc dV kV ho hd fK hD hmg hg args vals as hpre hlay hrd hwl hlo;obtain rfl:dV=.none:=Dflts.none hD hdf;obtain rfl:kV=.none:=Dflts.noKw hD;obtain⟨a,vs,ns,rfl,rfl,hobj,hints,hlen⟩:=vo hn hpre hwl;refine enter_call (codeAny_mono (call w s₀ s₁ mg mb fa o pm cd doc a vs ns G Y ho (fd_plain hd) fK hmg hobj hints hlen hg) λr s' hq=>?_);obtain⟨rfl,h2,h3,h4⟩:=hq;exact⟨.inl ⟨.bool true,.bool true,[],rfl,λ_=>rfl,.bool true,vA l _,λ_=>⟨List.Pairwise.nil,λ_ hm=>(nomatch hm)⟩⟩,h2,h3,h4⟩
end Att
namespace L2
open PySem PySem.Spec PyProof.Rows
variable{P prog q:Program}{K:W.Frag}{N ON loose own:List Str}{mb mg:Str->Option Value}{base h:Heap}{b e elt iter tg:Expr}{o:HO}{t:String}{w:World}{a f it p:Addr}{fd:FuncData}{qual x:Str}{sp:Sp}{ns:List Int}{X:Cx}{st:Stmt}{osc scope:Scope}{env:Env}{cells:List (Str×Addr)}{α:Type}{E Q:Value->Shared->Prop}{es ifs:List Expr}{g:TG}{tc:TT}{te:TE}{pins:List (Addr×Obj)}{σ:St}{H H':Hp}{RR:Value->Addr->Result->Shared->Prop}{i j:Nat}{r:List V->Hp->VK->Prop}{ws xs:List V}{items:Array Value}{ex fp:List Addr}{lo:Int}{its its2:List Value}
theorem mQ:∀{vs:List Value} {ns:List Int},IntsAre vs ns->Vals (ns.map V.int) vs
 |_,_,.nil=>.nil
 |_,_,.cons n t h=>.cons ⟨t,rfl⟩ (mQ h)
structure iy (q:Program) (K:W.Frag):Prop where
 nt:W.noTabs K=true
 nd:((cm K).map (·.2.1)).Nodup
 fd:∀x∈dU,W.tabIn K x=none\/((recsOf q).find? (λe=>e.name == x)).isSome=true
theorem iy.at{mean:ExcName->Option Value}(L:iy q K)(T:Top q loose mean mg mb h)(X:K.In h):∀t∈cm K,W.CodeHd h t.1 t.2.1/\h.get? t.2.1=some (W.tabObj #[]):=λt ht=>by
 unfold cm at ht;obtain⟨x,hx,e⟩:=Mx.mp ht;obtain⟨p,e1,e2⟩:=JW.mp e;obtain⟨c,Pt⟩:=p;subst e2;rcases L.fd x hx with z|z
 ·rw[z] at e1;cases e1
 ·obtain⟨d,hd⟩:=NJ.mp z;exact W.tab_of T X hd e1
noncomputable def nq:List (Addr×Addr×Str)->Addr->Option HO
 |[],_=>none
 |t::r,b=>if b=t.2.1 then some (.zE #[.str t.2.2 0]) else nq r b
theorem gQ{b:Addr}:∀{l:List (Addr×Addr×Str)},nq l b=some o->∃t∈l,b=t.2.1/\o=.zE #[.str t.2.2 0]
 |t::r,e=>by
  unfold nq at e;by_cases z:b=t.2.1
  ·rw[JE z] at e;cases e;exact⟨t,.head _,z,rfl⟩
  ·rw[JA z] at e;obtain⟨u,hu,q⟩:=gQ e;exact⟨u,.tail _ hu,q⟩
theorem oO{t:Addr×Addr×Str}:∀{l:List (Addr×Addr×Str)},(l.map (·.2.1)).Nodup->t∈l->nq l t.2.1=some (.zE #[.str t.2.2 0])
 |u::r,nd,m=>by
  obtain⟨n1,n2⟩:=KY.mp nd;unfold nq;rcases J9.mp m with rfl|m
  ·rw[JE rfl]
  ·rw[JA λz=>n1 (Ki.mpr ⟨t,m,z⟩)];exact oO n2 m
theorem zJ{CX:pJ}{k:Nat}{fa:Addr}{s₁:Shared}{vs:List Value}
  (KX:K.In s₁.heap) (hns:s₁.heap.Ns mainGlobals mg) (hb:s₁.heap.Ns builtinsNs mb) (hbb:∀x:Str,x≠"__name__"->mb x=bootBuiltins x) (hlim:s₁.heap.NoLimit) (hbm:DN mg s₁.heap)
  (hT:∀t∈cm K,W.CodeHd s₁.heap t.1 t.2.1/\s₁.heap.get? t.2.1=some (W.tabObj #[])) (L:iy q K) (hg:s₁.gens=#[])
  (ha:s₁.heap.get? a=some {cls:=.type "list",data:=.seq vs.toArray}) (hi:IntsAre vs ns) (hl:ns.length<=sizeLine) (hr:bM k callerA)
  (F:∀base:Heap,K.In base->base.Ns mainGlobals mg->cN P w K mg base CX k fa fd [x] sp) (hbind:∀(s:Shared) (u:Value),BindsTo s fd ⟨[u],[]⟩ [(x,u)])
  (mJ:∀H:Hp,True->bI K H a (ns.map V.int)->sp [.ref a] H (λv _=>v=.bl true) λ_ _ _=>False)
  (hCX:∀H e s',CX [] H s₁ (λ_ _ _=>False) e s'->False) :
  codeAny (model P w) callerA (.call (.ref fa) ⟨[.ref a],[]⟩) (λr s'=>r=.ok (.ret (.bool true))/\OldK s₁.heap s'.heap/\s'.os=s₁.os/\AllBare s'.gens) s₁:=by
 have rv:=mQ hi;have lenV:=hi.length;have naT:∀t∈cm K,t.2.1≠a:=λt ht z=>by
  have e:=(hT t ht).2;rw[z,ha] at e;cases e
 let oS:Obj:={cls:=.type "list",data:=.seq vs.toArray}
 have core:∀S:Option HO,(S=none\/S=some (.jn oS (.lst (ns.map V.int))))->(S≠none->K.lookup a=none)->bI K (λb=>if b=a then S else nq (cm K) b) a (ns.map V.int) ->
   codeAny (model P w) callerA (.call (.ref fa) ⟨[.ref a],[]⟩) (λr s'=>r=.ok (.ret (.bool true))/\OldK s₁.heap s'.heap/\s'.os=s₁.os/\AllBare s'.gens) s₁:=by
  intro S hS hK hSq;generalize hH:(λb=>if b=a then S else nq (cm K) b)=H at hSq
  have hA:H a=S:=by rw[<- hH];exact JE rfl
  have hB:∀b,b≠a->H b=nq (cm K) b:=λb z=>by rw[<- hH];exact JA z
  have free:∀{b:Addr} {o:Obj},s₁.heap.get? b=some o->o≠W.tabObj #[]->(b=a->S=none)->H b=none:=λ{b o} e hn hz=>by
   by_cases z:b=a
   ·rw[z,hA];exact hz z
   ·rw[hB b z]
    cases q:nq (cm K) b with
    |none=>rfl
    |some u =>
     obtain⟨t,ht,e1,_⟩:=gQ q;have e2:=(hT t ht).2;rw[<- e1,e] at e2;exact absurd (Option.some.inj e2) hn
  have nsK:∀{b:Addr} {m:Str->Option Value},s₁.heap.Ns b m->(mm s₁.heap H).Ns b m:=λ{b m} ⟨o,es,ep,e,d,r⟩=>⟨o,es,ep,iw e (free e (λz=>by rw[z] at d;cases d) λz=>by rw[z,ha] at e;cases e;cases d),d,r⟩
  have hKb:K.In (mm s₁.heap H):=λb o e=>iw (KX b o e) (free (KX b o e) (λz=>by
    have h2:=Lc.mp L.nt (b,o) (W.mem_of_lookupK e);subst z;exact absurd (show false=true from h2) JO) λz=>by
    cases q:S with
    |none=>rfl
    |some u=>rw[z,hK (by rw[q];simp)] at e;cases e)
  have fK:∀t∈cm K,W.CodeHd (mm s₁.heap H) t.1 t.2.1:=λt ht=>by
   obtain⟨o,us,fl,tf,fg,tg,inF,tx,tt,e1,e2,r⟩:=(hT t ht).1;exact⟨o,us,fl,tf,fg,tg,inF,tx,tt,iw e1 (free e1 (λz=>by rw[z] at e2;cases e2) λz=>by rw[z,ha] at e1;cases e1;exact absurd (Value.type.inj e2) (by decide)),e2,r⟩
  have hbm':DN mg (mm s₁.heap H):=by
   obtain⟨bm,ob,b1,b2,b3,b4,b5⟩:=hbm;exact⟨bm,ob,b1,b2,iw b3 (free b3 (λz=>by rw[z] at b4;cases b4) λz=>by rw[z,ha] at b3;cases b3;exact absurd (Value.type.inj b4) (by decide)),b4,b5⟩
  have aQ:iq P w H s₁.heap:=λb u e=>by
   by_cases z:b=a
   ·rw[z,hA] at e;rcases hS with h0|h0
    ·rw[h0] at e;cases e
    ·rw[h0] at e;cases e;subst z;exact⟨ha,by rw[Jz];exact hl,vs,_,rv,ha⟩
   ·rw[hB b z] at e;obtain⟨t,ht,e1,e2⟩:=gQ e;subst e2;exact⟨#[],by rw[e1];exact (hT t ht).2,trivial,λpos cv c=>by cases (show (none:Option Value)=some cv from c)⟩
  have hM:Mod K mg (mm s₁.heap H):=⟨hKb,nsK hns,⟨mb,nsK hb,hbb⟩,let ⟨mc,h1,h2⟩:=hlim;⟨mc,nsK h1,h2⟩,fK,hbm'⟩
  have e0:qS P w K mg (mm s₁.heap H) callerA [] s₁ H:=⟨rfl,hM,λb o e=>B9 e,O8 (uX _ _),trivial,λb hb=>absurd (show b∈([]:List Addr) from hb) (by simp),aQ,.of_eq hg,λt ht=>⟨#[],by
   rw[hB _ (naT t ht),oO L.nd ht,Nx]⟩⟩
  refine O9 ((F _ hKb (nsK hns)).run callerA [] s₁ H ⟨[.ref a],[]⟩ [.ref a] [.ref a] _ _ hr e0 (hbind s₁ (.ref a)) (.cons rfl .nil) (mJ H trivial hSq)) λr s' h=>?_
  cases r with
  |error e=>exact (hCX H e s' h).elim
  |ok fl =>
   cases fl with
   |next=>exact False.elim h
   |brk=>exact False.elim h
   |cont=>exact False.elim h
   |ret u =>
    obtain⟨v,H',os,bare,un,hok',r',qv⟩:=h;have q':v=.bl true:=qv;subst q';obtain rfl:u=Value.bool true:=r';have each:∀b o,s₁.heap.get? b=some o->s'.heap.get? b=some o\/∃c,W.CodeHd s₁.heap c b/\o=W.tabObj #[]/\∃ps,s'.heap.get? b=some (W.tabObj ps):=λb o e=>by
     cases qb:H b with
     |none=>exact .inl (un.keep b o e qb (by intro z;exact absurd (show b∈([]:List Addr) from z) (by simp)) (by simp))
     |some u =>
      by_cases z:b=a
      ·rw[z,hA] at qb;rcases hS with h0|h0
       ·rw[h0] at qb;cases qb
       ·have z2:=un.nB a oS _ (by rw[hA,h0])
        obtain⟨e2,_⟩:=hok' a _ z2;rw[z,ha] at e;cases e;exact .inl (by rw[z];exact e2)
      ·have qt:=qb;rw[hB b z] at qt;obtain⟨t,ht,e1,e2⟩:=gQ qt;obtain⟨h1,h2⟩:=hT t ht;rw[<- e1] at h1 h2;rw[e] at h2;cases h2;subst e2;obtain⟨more,e3⟩:=un.mi b _ qb;obtain⟨qs,e4,_⟩:=hok' b _ e3;exact .inr ⟨_,h1,rfl,qs,e4⟩
    refine⟨rfl,⟨λb o e=>?_,λb o e=>?_⟩,os,bare⟩
    ·rcases each b o e with z|⟨c,hc,z,ps,hp⟩
     ·exact .inl z
     ·subst z;exact .inr (.inl ⟨(hc.tab e).isCodeTable,rfl,#[],ps,rfl,by rw[Array.empty_append];exact hp⟩)
    ·rcases each b o e with z|⟨c,hc,z,ps,hp⟩
     ·exact⟨o,z⟩
     ·exact⟨_,hp⟩
 cases hk:K.lookup a with
 |some o =>
  have e:=KX a o hk;rw[ha] at e;cases e;exact core none (.inl rfl) (λz=>absurd rfl z) (.inr ⟨_,vs.toArray,_,hk,rfl,rfl,rfl,by rw[J8,lenV];exact hl,by simpa using rv⟩)
 |none=>exact core (some (.jn oS (.lst (ns.map V.int)))) (.inr rfl) (λ_=>hk) (.inl (.inr ⟨oS,JE rfl⟩))
theorem BI{l:W.OpenLaw}{n k:Nat}{XP:(Str->Option Value)->Heap->Prop}{YP:World->Heap->Prop}{d:DefRec}{K:Params->W.Frag}{CX:World->pJ}{sp:World->Sp}
  (hn:l.most=some n) (hn2:n<=sizeLine) (hdf:d.params.defaults=[]) (hr:bM k callerA)
  (hY:∀(w:World) (h:Heap),YP w h->(K w.params).In h)
  (F:∀(w:World) (mg:Str->Option Value) (fa:Addr) (h:Heap),(K w.params).In h->h.Ns mainGlobals mg->mg d.name=some (.ref fa) ->
   ∃fd:FuncData,(∀(s:Shared) (u:Value),BindsTo s fd ⟨[u],[]⟩ [(x,u)]) /\
    ∀base:Heap,(K w.params).In base->base.Ns mainGlobals mg->cN l.prog w (K w.params) mg base (CX w) k fa fd [x] (sp w))
  (mJ:∀(w:World) (H:Hp) (a:Addr) (ns:List Int),ns.length<=n->True->bI (K w.params) H a (ns.map V.int)->sp w [.ref a] H (λv _=>v=.bl true) λ_ _ _=>False)
  (hCX:∀(w:World) (H:Hp) (s:Shared) (e:Value) (s':Shared),CX w [] H s (λ_ _ _=>False) e s'->False) (hL:∀(w:World) (h:Heap),(K w.params).In h->iy q (K w.params)) :
  W.WalkO q loose XP YP l.row.toRowW d [] (λf vs=>PySem.call f vs):=by
 refine Att.pY hn hdf λw s₀ s₁ mg mb fa o pm cd doc a vs ns G Y ho hd fK hmg hobj hints hlen hg=>?_;have KX:=hY w _ Y;obtain⟨fd,hb,hF⟩:=F w mg fa _ KX G.T.g hmg;have L:=hL w _ KX;exact zJ KX G.T.g G.T.b G.T.builtins G.T.nolimit G.T.bmain (L.at G.T KX) L hg hobj hints (JF hlen hn2) hr hF hb (λH hO hS=>mJ w H a ns hlen hO hS) λH e s'=>hCX w H s₁ e s'
noncomputable def inClass(s:Stmt)(j:Nat):Stmt:=match s with
 |.ClassDef _ _ _ body _ _ _ _ _ _ _=>body.getD j (.Pass ⟨0,0,0,0⟩)
 |_=>.Pass ⟨0,0,0,0⟩
noncomputable def bY(s:Stmt):Arguments:=match s with
 |.FunctionDef _ a _ _ _ _ _ _ _ _=>a
 |_=>{posonlyargs:=[],args:=[],vararg:=none,kwonlyargs:=[],kw_defaults:=[],kwarg:=none,defaults:=[]}
noncomputable def aU(s:Stmt):List Stmt:=match s with
 |.FunctionDef _ _ b _ _ _ _ _ _ _=>b
 |_=>[]
noncomputable def af(s:Stmt):Scope:=match s with
 |.FunctionDef _ _ _ _ _ _ sc _ _ _=>sc
 |_=>{kind:=.function,names:=[],isGenerator:=false,isCoroutine:=false}
abbrev aY:pJ:=λ_ _ _ _ _ _=>False
abbrev E0:XK:=λ_ _ _=>False
theorem fQ:Passes aY X E0:=λ_ _ _ _ _ _ _ h=>h.elim
structure lW (K:W.Frag) (x qual:Str) (st:Stmt) (f:Addr) (fd:FuncData):Prop where
 ex:∃(oc:Value) (od:Option Addr) (kV doc pm:Value) (an:Option Addr) (cdv ct:Value) (osl:Array (Option Value)),
  fd=W.fnOf x qual (bY st) (aU st) (af st) .none kV doc pm an cdv ct/\K.lookup f=some ⟨oc,od,.func fd,osl⟩/\W.codeIn K cdv qual=true
 kp:W.keepIn K (.ref f)=true
section
variable {P:Program} {w:World} {K:W.Frag} {mg:Str->Option Value} {base:Heap}
theorem lW.ok{ps:List Str}{k:Nat}(F:lW K x qual st f fd)(S:ay N ps (af st))(len:∀vs H Q E,sp vs H Q E->vs.length=ps.length)
  (hbody:∀(cdv:Value) (A:Around) (outer:List Env) (s:Shared) (H:Hp) (vs:List V) (Q:VK) (E:XK),bM k (A.deeper (envOfC qual (af st) s.heap.objs.size f cdv))->sp vs H Q E ->
   ∃t,rK (fS aY P w K mg base N qual (af st) f cdv A outer s H E).qG (aU st) t/\t {nx:=λ_ H'=>Q .aR H',rt:=Q} (start N vs) H):cN P w K mg base aY (k+1) f fd ps sp:=by
 obtain⟨oc,od,kV,doc,pm,an,cdv,ct,osl,rfl,lk,fK⟩:=F.ex;refine CL lk fK S len λA outer s H vs Q E hr mJ=>?_;obtain⟨t,h,q⟩:=hbody cdv A outer s H vs Q E hr mJ;exact⟨t,h.qG,q⟩
theorem lW.binds{ps:List Str}(F:lW K x qual st f fd)
  (h:∀(kV doc pm:Value) (an:Option Addr) (cdv ct:Value) (us:List Value),us.length=ps.length->bindArgs (W.fnOf x qual (bY st) (aU st) (af st) .none kV doc pm an cdv ct) ⟨us,[]⟩=pure (ps.zip us)):Binds K fd ps []:=by
 obtain⟨oc,od,kV,doc,pm,an,cdv,ct,osl,rfl,lk,fK⟩:=F.ex;exact .all (h kV doc pm an cdv ct)
theorem cB{oc:Value}{od an:Option Addr}{osl:Array (Option Value)}{kV doc pm cdv ct:Value}(l:K.lookup f=some ⟨oc,od,.func (W.fnOf x qual (bY st) (aU st) (af st) .none kV doc pm an cdv ct),osl⟩)
  (c:W.codeIn K cdv qual=true) (k:W.keepIn K (.ref f)=true):lW K x qual st f (W.fnOf x qual (bY st) (aU st) (af st) .none kV doc pm an cdv ct):=⟨⟨oc,od,kV,doc,pm,an,cdv,ct,osl,rfl,l,c⟩,k⟩
end
theorem aP{A:Around}{k:Nat}(hr:bM k A):A.units+1<cLine:=K9 (Nat.add_le_add_left (by decide:1<=64) _) hr.units
section
variable {X:Cx}
theorem pv(i:Nat){pos:Pos}(hN:autoParam (X.N[i]?=some x) ℜ0)(hv:autoParam (GS X.env.scope x) ℜ4)(hd:autoParam ((x ==("__debug__":Str))=false) ℜ1)
  (fK:autoParam ((x ==("__classdict__":Str))=false) ℜ1):PE X (.Name x pos) (u_ i):=EG hN hv hd fK
end
noncomputable def xX(H H':Hp):Prop:=∀b o,H b=some o->H' b=some o
theorem xX.refl(H:Hp):xX H H:=λ_ _ h=>h
section
variable {κ:Type} [DecidableEq κ]
theorem AH{kvs:List (κ×V)}{k:κ}{v:V}(h:fB kvs k=some v):k∈kvs.map (·.1):=by
 have q:(kvs.any λkv=>decide (kv.1=k))=true:=by
  rw[i7,h]
  all_goals rfl
 obtain⟨p,hp,e⟩:=List.any_eq_true.mp q;exact Ki.mpr ⟨p,hp,K6 e⟩
end
noncomputable def dW(cells:List (Str×Addr)):List (Str×NameKind)->List (Str×Addr)->List (Str×Addr)
 |[],acc=>acc
 | (n,k)::r,acc=>if k=.free then dW cells r ((n,(cells.lookup n).getD 0)::acc) else dW cells r acc
theorem g_(h:∀x∈scope.names,x.2=.free->∃c,env.cells.lookup x.1=some c):closureFor scope env=pure (dW env.cells scope.names []):=by
 have all:∀(l:List (Str×NameKind)) (acc:List (Str×Addr)),(∀x∈l,x.2=.free->∃c,env.cells.lookup x.1=some c) ->
   (forIn l acc λ(x:Str×NameKind) (cs:List (Str×Addr))=>(match x with | (name,kind)=>if (kind == NameKind.free)=true then (do let c <- cellOf env name;pure (ForInStep.yield ((name,c)::cs))) else pure (ForInStep.yield cs):Sem (ForInStep (List (Str×Addr)))))=(pure (dW env.cells l acc):Sem (List (Str×Addr))):=by
  intro l
  induction l with
  |nil=>intro acc _;rfl
  |cons x r ih =>
   intro acc hl;obtain⟨n,k⟩:=x;rw[LN];by_cases hk:k=.free
   ·subst hk;obtain⟨c,hc⟩:=hl (n,.free) JH rfl;have e:cellOf env n=pure c:=by unfold cellOf;rw[hc]
    simp only[Kw,Mt,e,dW,pure_bind];rw[ih _ λy hy=>hl y (JG _ hy),hc];rfl
   ·have hb:(k == NameKind.free)=false:=by simpa using hk
    simp only[hb,Mz,Mf,dW,hk,pure_bind];exact ih _ λy hy=>hl y (JG _ hy)
 unfold closureFor;simp only[bind_pure];exact all scope.names [] h
theorem jg:∀{l:List (Str×NameKind)} {acc:List (Str×Addr)},(∀x∈l,x.2=.free->∃c,cells.lookup x.1=some c)->(∀x c,acc.lookup x=some c->cells.lookup x=some c) ->
  ∀x c,(dW cells l acc).lookup x=some c->cells.lookup x=some c
 |[],_,_,h,x,c,e=>h x c e
 | (n,k)::r,acc,hl,h,x,c,e=>by
  unfold dW at e;have hr:∀y∈r,y.2=.free->∃c,cells.lookup y.1=some c:=λy hy=>hl y (JG _ hy)
  split at e
  ·rename_i hk;refine jg hr (λy d q=>?_) x c e;rw[Kv] at q
   split at q
   ·rename_i hy;obtain⟨c',hc'⟩:=hl (n,k) JH hk;have hy':y=n:=by simpa using hy
    subst hy';simp only[] at hc';rw[hc'] at q ⊢;exact q
   ·exact h y d q
  ·exact jg hr h x c e
theorem iW:∀{l:List (Str×NameKind)} {acc:List (Str×Addr)},(∃c,acc.lookup x=some c)->∃c,(dW cells l acc).lookup x=some c
 |[],_,h=>h
 | (n,k)::r,acc,h=>by
  unfold dW;split
  ·refine iW ?_;rw[Kv];split
   ·exact⟨_,rfl⟩
   ·exact h
  ·exact iW h
theorem gI:∀{l:List (Str×NameKind)} {acc:List (Str×Addr)},(x,NameKind.free)∈l->∃c,(dW cells l acc).lookup x=some c
 |[],_,h=>by simp at h
 | (n,k)::r,acc,h=>by
  unfold dW;rcases J9.mp h with e|h
  ·cases e;rw[JE rfl];exact iW ⟨(cells.lookup x).getD 0,by rw[Kv];simp⟩
  ·split
   ·exact gI h
   ·exact gI h
noncomputable def aS(X:Cx)(scope:Scope)(N:List Str)(C:Addr)(s:Shared)(H:Hp)(fp:List Addr):Cx where
 prog:=X.prog
 w:=X.w
 K:=X.K
 mg:=X.mg
 base:=X.base
 A:=X.A
 N:=N
 s₀:=s
 H₀:=H
 env:=compEnvC scope (dW X.env.cells scope.names []) C X.env
 outer:=X.stack
 stack:=X.stack
 ex:=fp
 calm:=X.calm
 fn:=λ_=>false
 pn:=[]
 xe:=λ_ _=>False
structure aG (osc:Scope) (ON:List Str) (scope:Scope) (own N:List Str):Prop where
 kind:scope.kind=.function
 nd:N.Nodup
 len:N.length=own.length+ON.length
 lU:∀y∈scope.names,y.2≠.cell
 loc:∀y∈scope.names,y.2=.local->scope.names.lookup y.1=some .local
 free:∀y∈scope.names,y.2=.free->osc.names.lookup y.1=some .cell\/osc.names.lookup y.1=some .free
 out:∀p∈ON.zip (N.drop own.length),p.1=p.2\/scope.names.lookup p.2=none
 own:∀x∈N.drop own.length,scope.names.lookup x≠some .local
theorem c_(x:Str)(hn:∀y∈scope.names,y.2≠.cell):((relabel scope env).names.lookup x=some .local->scope.names.lookup x=some .local) /\
  ((relabel scope env).names.lookup x=some .cell\/(relabel scope env).names.lookup x=some .free->scope.names.lookup x=some .free):=by
 unfold relabel;simp only;revert hn;generalize scope.names=l;intro hn
 induction l with
 |nil=>simp
 |cons y r ih =>
  obtain⟨n,k⟩:=y;have ih:=ih λy hy=>hn y (JG _ hy);have hk:k≠.cell:=hn (n,k) JH;rw[Kg];simp only;by_cases hc:(k == NameKind.free && env.scope.kind == ScopeKind.function && env.kindOf n == some NameKind.cell)=true
  ·rw[JE hc,Kv,Kv];have hf:k=.free:=by
    simp only[K4] at hc
    simpa using hc.1.1
   split
   ·subst hf;simp
   ·exact ih
  ·rw[JA hc,Kv,Kv];split
   ·constructor
    ·exactλh=>h
    ·rintro (h|h)
     ·exact absurd (Option.some.inj h) hk
     ·exact h
   ·exact ih
noncomputable def FN(X:Cx)(ifs:List Expr)(t:TT):Prop:=
 ∀(pins:List (Addr×Obj)) (s:Shared) (σ:St) (H:Hp) (Q:Bool->Hp->Prop),Inv X pins σ H s->t σ H Q ->
  wpAny (model X.prog X.w) X.A (forIn ifs true λc r=>if r=true then do let ok <- isTrue c X.env (eval c X.env);pure (ForInStep.yield ok) else pure (ForInStep.yield r)) (TP X pins σ Q) X.xe s
noncomputable def dY:TT:=λ_ H Q=>Q true H
theorem B1:FN X [] dY:=λ_ _ _ H _ I h=>wpAny_tests_nil ⟨H,I,h⟩
theorem va{M:Model}{A:Around}{s:Shared}{m:Sem α}{Q' Q:α->Shared->Prop}(h:wpAny M A m Q' (λ_ _=>False) s)(k:∀x s',Q' x s'->Q x s'):wpAny M A m Q E s:=K5 h k λ_ _ z=>z.elim
theorem mj{A:Around}{R:Result->Shared->Prop}{s:Shared}{target:Expr}{pos:Pos}{it acc:Value}{XE:Value->Shared->Prop}(I:Nat->Shared->Prop)(hx:∀x s',XE x s'->notedBy (model prog w) A env (λv s''=>R (.error v) s'') x s')
  (turn:∀n s,I n s->wpAny (model prog w) A (pyNext it) (λr s₁=>match r with
   |none=>R (.ok .next) s₁
   |some v=>wpAny (model prog w) A (letOwnedTupleGo target it v) (λ_ s₁'=>wpAny (model prog w) A (assign target env v) (λ_ s₂ =>
     wpAny (model prog w) A (forIn ifs true λc r=>if r=true then do let ok <- isTrue c env (eval c env);pure (ForInStep.yield ok) else pure (ForInStep.yield r)) (λok s₃ =>
      if ok=true then wpAny (model prog w) A (eval elt env) (λx s₄ =>
       wpAny (model prog w) A (call (.builtin "list.append") [acc,x]) (λ_ s₅=>∃m,m<n/\I m s₅) XE s₄) XE s₃
      else ∃m,m<n/\I m s₃) XE s₂) XE s₁') XE s₁) XE s)
  (n:Nat) (h:I n s):codeAny (model prog w) A (.compLoop (.ListComp elt [⟨target,iter,ifs,0⟩] scope pos) 0 it acc env) R s:=by
 refine codeAny_loop rfl I (λn s hI=>?_) n h;show wpAny _ A ((compTurn (.ListComp elt [⟨target,iter,ifs,0⟩] scope pos) 0 it acc env).onRaise (λx=>do noteFrame x env;theTreesLotGoes x)) _ _ s
 refine wpAny_noted ?_;rw[compTurn_list];refine Jy (N3 (Jy (K5 (turn n s hI) (λr s₁ h₁=>?_) hx)))
 cases r with
 |none=>exact JJ h₁
 |some v =>
  refine Jy (K5 h₁ (λ_ s₁' h₁'=>?_) hx);refine Jy (K5 h₁' (λ_ s₂ h₂=>Jy (K5 h₂ (λok s₃ h₃=>?_) hx)) hx)
  cases ok with
  |false=>exact JJ ⟨rfl,h₃⟩
  |true =>
   exact Jy (Jy (K5 h₃ (λx s₄ h₄=>Jy (K5 h₄ (λ_ s₅ h₅=>JJ (JJ ⟨rfl,h₅⟩)) hx)) hx))
noncomputable def iI(wi:TI)(k:Nat)(g:TG)(tc:TT)(te:TE):TE:=λσ H Q=>wi σ H λJ H1=>∀D,H1 D=none ->
 ∃W:Nat->Nat->List V->St->Hp->Prop,(∃m,W 0 m [] (List.replicate k none++σ) (upd H1 D (.lst [])))/\∀i m ys σ' H',W i m ys σ' H'->H' D=some (.lst ys) /\
  ((J.stop i H'/\Q (.ref D) H')\/(J.go i H'/\ys.length<sizeLine/\∀x H2,J.CW i H' x H2->g x σ' H2 λσ3 H3=>tc σ3 H3 λb H4 =>
   if b=true then te σ3 H4 λv H5=>H5 D=some (.lst ys)/\∃m',m'<m/\W (i+1) m' (ys++[v]) σ3 (upd H5 D (.lst (ys++[v])))
   else ∃m',m'<m/\W (i+1) m' ys σ3 H4))
theorem rC{pos:Pos}{wi:TI}(S:aG osc ON scope own N)(hosc:X.env.scope=osc)(hON:X.N=ON)(hc:X.calm=true)(hi:PI X tg iter wi)
  (hg:∀C s H fp,PG (aS X scope N C s H fp) tg g) (ht:∀C s H fp,FN (aS X scope N C s H fp) ifs tc) (XE:Addr->Shared->Hp->List Addr->Value->Shared->Prop)
  (he:∀C s H fp pins s' σ' H' Q',(∀b∈fp,∃o,(b,o)∈pins)->Inv (aS X scope N C s H fp) pins σ' H' s'->te σ' H' Q'->wpAny (model X.prog X.w) X.A (eval elt (aS X scope N C s H fp).env) (EP (aS X scope N C s H fp) pins σ' Q') (XE C s H fp) s')
     {s:Shared} {Q:VK} (I:Inv X pins σ H s) (h:iI wi own.length g tc te σ H Q) 
  (fin:∀(D C:Addr) (H':Hp) (s':Shared) (m:Str->Option Value),Inv X pins σ H' s'->Q (.ref D) H'->H' C=none->X.s₀.heap.objs.size<=C->C≠X.env.locals->(∀x c,X.env.cells.lookup x=some c->c≠C)->(∀p∈X.pn++pins,p.1≠C) ->
   s'.heap.Ns C m->RR (.ref D) C (.ok .next) s')
  (hx:∀(D C:Addr) (s3:Shared) (H3:Hp) (fp:List Addr),C=s3.heap.objs.size->Inv X pins σ H3 s3->(∀{pins':List (Addr×Obj)} {σ':St} {H':Hp} {s':Shared},Inv (aS X scope N C s3 H3 fp) pins' σ' H' s'->Inv X pins σ H' s') ->
   X.s₀.heap.objs.size<=C->C≠X.env.locals->(∀x c,X.env.cells.lookup x=some c->c≠C)->(∀p∈X.pn++pins,p.1≠C)->∀x s',XE C s3 H3 fp x s'->notedBy (model X.prog X.w) X.A (aS X scope N C s3 H3 fp).env (λv s''=>RR (.ref D) C (.error v) s'') x s') :
  wpAny (model X.prog X.w) X.A (eval iter X.env) (λx s₁=>wpAny (model X.prog X.w) X.A (pyIter x) (λit s₂=>wpAny (model X.prog X.w) X.A (newList []) (λacc s₃ =>
   wpAny (model X.prog X.w) X.A (newFunctionEnv scope X.env.globals (dW X.env.cells scope.names []) [] X.env.qual none .none (some X.env)) (λcenv s₄ =>
    codeAny (model X.prog X.w) X.A (.compStart (.ListComp elt [⟨tg,iter,ifs,0⟩] scope pos) 0 it acc {cenv with scope:=relabel scope X.env}) (RR acc cenv.locals) s₄) X.xe s₃) X.xe s₂) X.xe s₁) X.xe s:=by
 refine cp (hi pins s σ H _ I h) λv s1 h1=>cp h1 λitv s2 h2=>?_;obtain⟨it,fp,tn,J,H2,e,I2,T,st2,f2,q⟩:=h2;subst e;refine Lr (wpAny_newFunctionEnv S.lU (by intro y hy;simp at hy) (λh₁ hns₁ hsb₁=>?_) S.kind)
 dsimp only at hns₁ hsb₁ ⊢;have I3:Inv X pins σ (upd H2 s2.heap.objs.size (.lst [])) {s2 with heap:=s2.heap.push {cls:=.type "list",data:=.seq ([]:List Value).toArray},toks:=s2.toks}:=I2.En (t':=s2.toks) .nil (Nat.zero_le _)
 have hD2:H2 s2.heap.objs.size=none:=I2.fresh;obtain⟨W,⟨m0,w0⟩,turn⟩:=q _ hD2;generalize hs3:({s2 with heap:=s2.heap.push {cls:=.type "list",data:=.seq ([]:List Value).toArray},toks:=s2.toks}:Shared)=s3 at I3
 have eh3:s3.heap=s2.heap.push {cls:=.type "list",data:=.seq ([]:List Value).toArray}:=by rw[<- hs3]
 generalize hD:s2.heap.objs.size=D at I3 turn w0 hD2 ⊢;generalize hH3:upd H2 D (.lst [])=H3 at I3 w0;rw[<- eh3] at hns₁ hsb₁ ⊢;have hC3:H3 s3.heap.objs.size=none:=I3.fresh;have hsz3:s3.heap.objs.size=D+1:=by rw[eh3,K7,hD]
 have fp2:∀b∈fp,b<s2.heap.objs.size:=λb hb=>by
  obtain⟨o,e,_⟩:=T.obj _ _ st2 b hb;exact JP e
 have f3:∀b∈fp,me X pins H3 b:=λb hb=>by
  obtain⟨g0,g1⟩:=f2 b hb;refine⟨?_,g1⟩;rw[<- hH3,aj (by rw[<- hD];exact JX (fp2 b hb))]
  exact g0
 have neC:∀b o,s3.heap.get? b=some o->b≠s3.heap.objs.size:=λb o e=>JX (JP e);have old:∀b o,s3.heap.get? b=some o->h₁.get? b=some o:=λb o e=>hsb₁.extBut b o (neC b o e) (J7 _ e);have hk:=S.kind;have hfr:∀y∈scope.names,y.2=.free->∃c,X.env.cells.lookup y.1=some c:=λy hy hf=>I3.ok.has _ (by subst hosc;exact S.free y hy hf)
 have sub:=jg (acc:=[]) hfr (by intro x c e;simp at e)
 have JB:∀tk,Inv (aS X scope N s3.heap.objs.size s3 H3 fp) [] (List.replicate own.length none++σ) H3 {s3 with heap:=h₁,toks:=tk}:=λtk=>by
  refine⟨⟨I3.ok.mod,S.kind,I3.ok.glob,I3.ok.blt,JD _,λx y c e1 e2=>I3.ok.inj x y c (sub x c e1) (sub y c e2),λx hx=>?_,λx c hf _=>(by cases hf),I3.ok.hd,I3.ok.frames,.inl rfl,λb hb=>?_,I3.bs,JF I3.ok.Am I3.sz,λb o e hb=>?_,λb hb hf=>?_,I3.stack,I3.oi,I3.ok.tabs.un I3.base⟩,
   rfl,I3.bare,Un.kept old,⟨_,hns₁,λi x v e1 e2 e3=>?_⟩,λx c e=>?_,hC3,λx c e=>I3.fN x c (sub x c e),λp hp=>absurd (show p∈([]:List (Addr×Obj)) from hp) (by simp),I3.aQ.kept old,?_⟩
  ·have q:=(c_ (env:=X.env) x S.lU).2 hx;exact gI (PySem.mem_of_lookup q)
  ·have hb:b∈fp:=hb;obtain⟨_,g1,g2,g3,g4,g5⟩:=f3 b hb;refine⟨?_,λx c e=>g4 x c (sub x c e)⟩;have:=fp2 b hb;show b≠s3.heap.objs.size;rw[hsz3,<- hD];exact JX (LX this)
  ·have hb:b∈fp:=hb;obtain⟨_,g1,g2,g3,g4,g5⟩:=f3 b hb;rcases g3 with g3|g3
   ·exact I3.ok.zv b o e g3
   ·exact absurd (JZ (JP e) (JF I3.ok.Am g3)) (KG _)
  ·have hb:b∈fp:=hb;obtain⟨_,g1,g2,g3,g4,g5⟩:=f3 b hb;rcases J9.mp (I3.nJ b hf) with z|z
   ·exact g1 z
   ·exact g2 z
  ·have hi:own.length<=i:=by
    rcases Kx i own.length with hlt|hge
    ·rw[Kf (by simpa using hlt),NP] at e2
     split at e2<;>cases e2
    ·exact hge
   rw[JY (by simpa using hi),JS] at e2
   have e1:N[own.length+(i-own.length)]?=some x:=by rw[Nat.add_sub_cancel' hi];exact e1
   have e1d:(N.drop own.length)[i-own.length]?=some x:=by rw[Le];exact e1
   have nl:scope.names.lookup x≠some .local:=S.own x (K1 e1d);have vis:scope.names.lookup x=some .free:=by
    rcases e3 with z|z
    ·exact absurd ((c_ (env:=X.env) x S.lU).1 z) nl
    ·exact (c_ (env:=X.env) x S.lU).2 z
   have hlen:=I3.len;have hlt:i-own.length<X.N.length:=by
    rw[<- hlen];exact (J6.mp e2).1
   have hxN:X.N[i-own.length]?=some x:=by
    rw[Jx hlt];have mz:(X.N[i-own.length],x)∈ON.zip (N.drop own.length):=by
     rw[<- hON];refine K1 (i:=i-own.length) ?_;rw[List.getElem?_zip_eq_some];exact⟨Jx hlt,e1d⟩
    rcases S.out _ mz with z|z
    ·exact Kt some z
    ·exact absurd z (by rw[vis];simp)
   have hko:X.env.scope.names.lookup x=some .cell\/X.env.scope.names.lookup x=some .free:=by subst hosc;exact S.free _ (PySem.mem_of_lookup vis) rfl
   obtain⟨m,hn,hl⟩:=I3.loc;have hv:GS X.env.scope x:=by
    rcases hko with z|z
    ·exact .inr (.inl z)
    ·exact .inr (.inr z)
   obtain⟨u,ru,lk⟩:=hl _ x v hxN e2 hv;refine⟨u,ru,.inr ⟨?_,?_⟩⟩
   ·rcases e3 with z|z
    ·exact absurd ((c_ (env:=X.env) x S.lU).1 z) nl
    ·exact z
   ·rcases lk with ⟨k,_⟩|⟨_,c,ec,hcell⟩
    ·exfalso
     have k':X.env.scope.names.lookup x=some .local:=k;rcases hko with z|z
     ·rw[k'] at z;cases z
     ·rw[k'] at z;cases z
    ·obtain⟨c',ec'⟩:=gI (cells:=X.env.cells) (acc:=[]) (PySem.mem_of_lookup vis);have:=sub x c' ec';rw[ec] at this;cases this;obtain⟨o,ho,hd⟩:=hcell;exact⟨c,ec',o,old c o ho,hd⟩
  ·obtain⟨v,o,ho,hd⟩:=I3.cell x c (sub x c e);exact⟨v,o,old c o ho,hd⟩
  ·show (List.replicate own.length none++σ).length=N.length;rw[S.len,J5,JS,I3.len,hON]
 have stat:∀{H':Hp},(∀b∈fp,H' b=none)->∀b∈fp,me (aS X scope N s3.heap.objs.size s3 H3 fp) [] H' b:=λ{H'} hn b hb=>by
  obtain⟨_,g1,g2,g3,g4,g5⟩:=f3 b hb;refine⟨hn b hb,?_,λhf=>?_,.inl hb,λx c e=>g4 x c (sub x c e),λp hp=>absurd (show p∈([]:List (Addr×Obj)) from hp) (by simp)⟩
  ·have:=fp2 b hb;show b≠s3.heap.objs.size;rw[hsz3,<- hD];exact JX (LX this)
  ·rcases J9.mp (I3.nJ b hf) with z|z
   ·exact g1 z
   ·exact g2 z
 have st4:tn 0 h₁:=T.keep _ _ _ st2 λb hb o e=>old b o (by rw[eh3];exact J7 _ e)
 have o3:∀x c,X.env.cells.lookup x=some c->c≠s3.heap.objs.size:=λx c e z=>by
  obtain⟨v,o,ho,_⟩:=I3.cell x c e;exact absurd (JP ho) (by rw[z];exact KG _)
 have o4:∀p∈X.pn++pins,p.1≠s3.heap.objs.size:=λp hp z=>absurd (JP (I3.pin p hp).1) (by rw[z];exact KG _)
 have outI:∀{pins':List (Addr×Obj)} {σ':St} {H':Hp} {s':Shared},Inv (aS X scope N s3.heap.objs.size s3 H3 fp) pins' σ' H' s'->Inv X pins σ H' s':=λI6=>by
  refine I3.Gi (ch:=fp) I6.os I6.base I6.aQ I6.bare λb hb=>?_;obtain⟨_,g1,g2,g3,g4,g5⟩:=f3 b hb;exact⟨g3,g1,g4,g5⟩
 have loop:∀s4:Shared,s4={s3 with heap:=h₁,toks:=s2.toks+([]:List (Str×Value)).length} ->
   codeAny (model X.prog X.w) X.A (.compLoop (.ListComp elt [⟨tg,iter,ifs,0⟩] scope pos) 0 (.ref it) (.ref D) (aS X scope N s3.heap.objs.size s3 H3 fp).env) (RR (.ref D) s3.heap.objs.size) s4:=by
  rintro s4 rfl;refine mj (XE:=XE s3.heap.objs.size s3 H3 fp) (λn s'=>∃i ys σ' H',Inv (aS X scope N s3.heap.objs.size s3 H3 fp) [] σ' H' s'/\tn i s'.heap/\(∀b∈fp,H' b=none)/\W i n ys σ' H') (hx D _ s3 H3 fp rfl I3 outI I3.sz (K_ I3.lt) o3 o4) ?_ m0 ⟨0,[],_,H3,JB _,st4,λb hb=>(f3 b hb).1,w0⟩;rintro n s5 ⟨i,ys,σ5,H5,I5,st5,fr5,w5⟩;obtain⟨hD5,ways⟩:=turn i n ys σ5 H5 w5;rcases ways with ⟨stop,qn⟩|⟨go,hys,step⟩
  ·refine va (T.done (aS X scope N s3.heap.objs.size s3 H3 fp) rfl rfl rfl hc i [] s5 σ5 H5 _ I5 (stat fr5) st5 stop) λr s6 hq1=>?_;obtain⟨hr,I6⟩:=hq1;subst hr;obtain⟨m,hn,_⟩:=I6.loc;exact fin D _ H5 s6 m (outI I6) qn I6.free I3.sz (K_ I3.lt) o3 o4 hn
  ·refine va (T.item (aS X scope N s3.heap.objs.size s3 H3 fp) rfl rfl rfl hc i [] s5 σ5 H5 _ I5 (stat fr5) st5 go) λr s6 hq2=>?_;obtain⟨u,hr,h6⟩:=hq2;subst hr;refine va h6 λ_ s7 hq3=>?_;obtain⟨x,H7,I7,r7,y7,st7,fr7⟩:=hq3;have I7':=I7.pinned (stat fr7) (T.obj _ _ st7);have back:∀{σ8:St} {H8:Hp} {s8:Shared},Inv (aS X scope N s3.heap.objs.size s3 H3 fp) ([]++jj fp s7.heap) σ8 H8 s8->tn (i+1) s8.heap/\∀b∈fp,H8 b=none:=λ{σ8 H8 s8} I8=>by
    refine⟨T.keep _ _ _ st7 λb hb o e=>(I8.pin (b,o) (JV _ (JV _ (el hb e)))).1,λb hb=>?_⟩;obtain⟨o,e,d⟩:=T.obj _ _ st7 b hb;exact (I8.pin (b,o) (JV _ (JV _ (el hb e)))).2.1
   have hcov:∀b∈fp,∃o,(b,o)∈([]:List (Addr×Obj))++jj fp s7.heap:=λb hb=>by
    obtain⟨o,e,_⟩:=T.obj _ _ st7 b hb;exact⟨o,JV _ (el hb e)⟩
   refine va (hg _ _ _ _ _ s7 σ5 H7 x u _ I7' r7 (step x H7 y7)) λ_ s8 hq4=>?_;obtain⟨σ8,H8,I8,q8⟩:=hq4;refine va (ht _ _ _ _ _ s8 σ8 H8 _ I8 q8) λok s9 hq5=>?_;obtain⟨H9,I9,q9⟩:=hq5
   cases ok with
   |false =>
    rw[JA (by simp)] at q9 ⊢
    obtain⟨m',hm,w9⟩:=q9;exact⟨m',hm,i+1,ys,σ8,H9,I9.fZ,(back I9).1,(back I9).2,w9⟩
   |true =>
    rw[JE rfl] at q9 ⊢;refine cp (he _ _ _ _ _ s9 σ8 H9 _ hcov I9 q9) λy s10 hq6=>?_;obtain⟨v10,H10,I10,r10,hD10,m',hm,w10⟩:=hq6;refine va (mX _ s10 σ8 H10 (.ref D) [v10] (.ref D) [y] (λr H11=>r=.aR/\H11=upd H10 D (.lst (ys++[v10]))) I10 rfl (.cons r10 .nil) ⟨D,ys,v10,rfl,rfl,hD10,hys,rfl,rfl⟩) λ_ s11 hq7=>?_;obtain⟨_,H11,I11,_,_,e11⟩:=hq7;subst e11;exact⟨m',hm,i+1,_,σ8,_,I11.fZ,(back I11).1,(back I11).2,w10⟩
 have start:=codeAny_compStart_list (R:=RR (.ref D) s3.heap.objs.size) (loop _ rfl) (T.self X.A 0 _ _ _ st4 (loop _ rfl));subst hs3;exact start
theorem mS{pos:Pos}{wi:TI}(S:aG osc ON scope own N)(hosc:X.env.scope=osc)(hON:X.N=ON)(hc:X.calm=true)(hi:PI X tg iter wi)
  (hg:∀C s H fp,PG (aS X scope N C s H fp) tg g) (ht:∀C s H fp,FN (aS X scope N C s H fp) ifs tc) (he:∀C s H fp,PE (aS X scope N C s H fp) elt te)
     {s:Shared} {Q:VK} (I:Inv X pins σ H s) (h:iI wi own.length g tc te σ H Q) 
  (fin:∀(D C:Addr) (H':Hp) (s':Shared) (m:Str->Option Value),Inv X pins σ H' s'->Q (.ref D) H'->H' C=none->X.s₀.heap.objs.size<=C->C≠X.env.locals->(∀x c,X.env.cells.lookup x=some c->c≠C)->(∀p∈X.pn++pins,p.1≠C) ->
   s'.heap.Ns C m->RR (.ref D) C (.ok .next) s') :
  wpAny (model X.prog X.w) X.A (eval iter X.env) (λx s₁=>wpAny (model X.prog X.w) X.A (pyIter x) (λit s₂=>wpAny (model X.prog X.w) X.A (newList []) (λacc s₃ =>
   wpAny (model X.prog X.w) X.A (newFunctionEnv scope X.env.globals (dW X.env.cells scope.names []) [] X.env.qual none .none (some X.env)) (λcenv s₄ =>
    codeAny (model X.prog X.w) X.A (.compStart (.ListComp elt [⟨tg,iter,ifs,0⟩] scope pos) 0 it acc {cenv with scope:=relabel scope X.env}) (RR acc cenv.locals) s₄) X.xe s₃) X.xe s₂) X.xe s₁) X.xe s:=
 rC S hosc hON hc hi hg ht (λ_ _ _ _ _ _=>False) (λC s H fp pins s' σ' H' Q' _ I h=>he C s H fp pins s' σ' H' Q' I h) I h fin λ_ _ _ _ _ _ _ _ _ _ _ _ _ _ z=>z.elim
theorem AA{pos:Pos}{wi:TI}(S:aG osc ON scope own N)(hosc:X.env.scope=osc)(hON:X.N=ON)(hc:X.calm=true)(hi:PI X tg iter wi)
  (hg:∀C s H fp,PG (aS X scope N C s H fp) tg g) (ht:∀C s H fp,FN (aS X scope N C s H fp) ifs tc) (he:∀C s H fp,PE (aS X scope N C s H fp) elt te)
  (hs:autoParam (∀x,foldedSetIterable iter X.env x=pure x) ℜ3) :
  PE X (.ListComp elt [⟨tg,iter,ifs,0⟩] scope pos) (iI wi own.length g tc te):=by
 intro pins s σ H Q I h;have hfr:∀y∈scope.names,y.2=.free->∃c,X.env.cells.lookup y.1=some c:=λy hy hf=>I.ok.has _ (by subst hosc;exact S.free y hy hf)
 rw[eval_ListComp];refine NL (use:=none) rfl hs (g_ hfr) S.kind S.loc ?_;refine mS S hosc hON hc hi hg ht he I h (RR:=λacc C=>compPost (model X.prog X.w) X.A X.xe none (EP X pins σ Q) acc C) ?_;intro D C H' s' m I' q h1 h2 h3 h4 h5 hn;exact⟨m,hn,λh'' hs''=>⟨.ref D,H',I'.turned (t':=s'.toks) (λb o hb e=>(hs''.2 b hb).trans e) h1 h3 (.inr h2) h4 h5,rfl,q⟩⟩
theorem qP{pos spos py:Pos}{wi:TI}{y:Str}(hN:X.N.Nodup)(hj:X.N[j]?=some y)(hx:Loc X.env.scope y)(S:aG osc ON scope own N)(hosc:X.env.scope=osc)(hON:X.N=ON)(hc:X.calm=true)(hi:PI X tg iter wi)
  (hg:∀C s H fp,PG (aS X scope N C s H fp) tg g) (ht:∀C s H fp,FN (aS X scope N C s H fp) ifs tc) (he:∀C s H fp,PE (aS X scope N C s H fp) elt te)
  (hsw:autoParam (swapsWith (.ListComp elt [⟨tg,iter,ifs,0⟩] scope pos) (some (.Name y py)) spos.line X.env=pure true) ℜ0)
  (hf:autoParam (X.fn y=true\/X.env.scope.names.lookup y=some .local) ℜ2)
  (hs:autoParam (∀x,foldedSetIterable iter X.env x=pure x) ℜ3) :
  PS X (.Assign [.Name y py] (.ListComp elt [⟨tg,iter,ifs,0⟩] scope pos) spos) (jD (iI wi own.length g tc te) (b6 j)):=by
 intro pins s σ H Dn I h;have hfr:∀y∈scope.names,y.2=.free->∃c,X.env.cells.lookup y.1=some c:=λy hy hf=>I.ok.has _ (by subst hosc;exact S.free y hy hf)
 rw[exec_Assign_Name_used _ _ _ _ hsw];refine Jy (N3 (Jy ?_));show wpAny _ X.A (do let _ <- comprehension (.ListComp elt [⟨tg,iter,ifs,0⟩] scope pos) scope X.env _ (newList []) false (eval iter X.env) (some (assign (.Name y py) X.env))) _ _ s
 refine Jy (K5 (NL (use:=some (assign (.Name y py) X.env)) (Q:=λ_ s'=>SP X pins Dn .next s') rfl hs (g_ hfr) S.kind S.loc ?_) (λ_ s' hq=>JJ (JJ hq)) λ_ _ e=>e);refine mS S hosc hON hc hi hg ht he I h (RR:=λacc C=>compPost (model X.prog X.w) X.A X.xe (some (assign (.Name y py) X.env)) (λ_ s'=>SP X pins Dn .next s') acc C) ?_;intro D C H' s' m I' q h1 h2 h3 h4 h5 hn;show wpAny _ X.A (assign (.Name y py) X.env (.ref D)) _ _ _;refine wpAny_assign_Name (mO I' hN hj hx (v:=.ref D) rfl (λs'' I'' hsb=>?_) hf);obtain⟨a,sb,ha⟩:=hsb;have nC:C≠a:=by
  rcases ha with ha|ha
  ·rw[ha];exact h3
  ·exact (h4 y a ha).symm
 exact⟨m,hn.sameBut sb nC,λh'' hs''=>⟨_,H',I''.turned (t':=s''.toks) (λb o hb e=>(hs''.2 b hb).trans e) h1 h3 (.inr h2) h4 h5,q⟩⟩
noncomputable def fT(e:Expr):Bool:=match e with
 |.Starred ..=>false
 |_=>true
theorem d_(h:fT e=true):starEach (e::es) env=(false,eval e env)::starEach es env:=by
 cases e<;>first|rfl|cases h
theorem plain_any{pos:Pos}:∀{es:List Expr},es.all fT=true->(backTo pos (starEach es env)).any (·.1)=false
 |[],_=>rfl
 |e::es,h=>by
  rw[Lu,K4] at h;rw[d_ h.1];show (false || (backTo pos (starEach es env)).any (·.1))=false;rw[plain_any h.2];rfl
theorem plain_all{pos:Pos}:∀{es:List Expr},es.all fT=true->(backTo pos (starEach es env)).all (λx=>!x.1)=true
 |[],_=>rfl
 |e::es,h=>by
  rw[Lu,K4] at h;rw[d_ h.1];show (true && (backTo pos (starEach es env)).all (λx=>!x.1))=true;rw[plain_all h.2];rfl
theorem FF{cpos:Pos}(h:(e::es).all fT=true)(hl:(e::es).length<30):
  ((backTo cpos (starEach (e::es) env)).all (λx=>!x.1) && (backToKw cpos (keywordEach [] env)).all (λx=>x.1.isSome) && decide ((e::es).length+([]:List Keyword).length+(if ([]:List Keyword).isEmpty then 0 else 1)<30))=true:=by
 rw[plain_all h];have e2:(backToKw cpos (keywordEach [] env)).all (λx=>x.1.isSome)=true:=rfl;rw[e2];have e3:(e::es).length+([]:List Keyword).length+(if ([]:List Keyword).isEmpty then 0 else 1)<30:=hl
 rw[Kc e3];rfl
section
variable {X:Cx} {e:Expr} {es:List Expr} {te:TE} {t:TA}
theorem IM(ha:PE X e te)(hr:PA X es t)(h:autoParam (fT e=true) ℜ0):PA X (e::es) (jz te t):=ud ha hr (d_ h)
theorem Gd{id:String}{p pos:Pos}(hc:bu X (.builtin id) r)(hg:Gl X x)(hm:X.mg x=none)(hv:bootBuiltins x=some (.builtin id))(ha:PA X (e::es) t)(h1:autoParam (fT e=true) ℜ0)(h2:autoParam (es.all fT=true) ℜ0)(hn:autoParam (x≠"__name__") ℜ1)(hdb:autoParam ((x ==("__debug__":Str))=false) ℜ1):
  PE X (.Call (.Name x p) (e::es) [] pos) (Cc r t):=zx hc hg hm hv ha hn hdb (d_ h1) (plain_any h2)
theorem G_{T:String}{p pos:Pos}(hc:bu X (.type T) r)(hg:Gl X x)(hm:X.mg x=none)(hv:bootBuiltins x=some (.type T))(ha:PA X (e::es) t)(h1:autoParam (fT e=true) ℜ0)(h2:autoParam (es.all fT=true) ℜ0)(hn:autoParam (x≠"__name__") ℜ1)(hdb:autoParam ((x ==("__debug__":Str))=false) ℜ1):
  PE X (.Call (.Name x p) (e::es) [] pos) (Cc r t):=vU hc hg hm hv ha hn hdb (d_ h1) (plain_any h2)
theorem ET{o:Expr}{to:TE}{name:Str}{apos cpos:Pos}{T id:String}{r:V->List V->Hp->VK->Prop}(pa:PlainAttrs T)(slot:Slot T name id)(hty:typeOf (.builtin id)=pure (.type "method_descriptor"))(hm:sZ X id r)(ho:PE X o to)(ha:PA X (e::es) t)
  (hbase:attributeBase o name X.env (eval o X.env)=eval o X.env) (hline:(apos.endLine == cpos.line)=true) (h:(e::es).all fT=true) (hl:(e::es).length<30):PE X (.Call (.Attribute o name apos) (e::es) [] cpos) (Eb X.K T r to t):=by
 have h':=h;rw[Lu,K4] at h';exact Hd pa slot hty hm ho ha hbase (FF h hl) hline (d_ h'.1) (plain_any h'.2)
theorem rh{a:Expr}{ta:TA}{p pos:Pos}(hg:Gl X "range")(hm:X.mg "range"=none)(ha:PA X [a] ta)(h:autoParam (fT a=true) ℜ0):PI X tg (.Call (.Name "range" p) [a] [] pos) (mZ ta):=vP hg hm ha (d_ h)
end
structure HasFn (K:W.Frag) (mg:Str->Option Value) (x:Str) (st:Stmt) (ps:List Str):Prop where
 ex:∃(f:Addr) (fd:FuncData),lW K x x st f fd/\Binds K fd ps []/\mg x=some (.ref f)
structure au (P:Program) (w:World) (K:W.Frag) (mg:Str->Option Value) (base:Heap) (CX:pJ) (k:Nat) (x:Str) (ps:List Str) (sp:Sp):Prop where
 ex:∃(f:Addr) (fd:FuncData),mg x=some (.ref f)/\W.keepIn K (.ref f)=true/\Binds K fd ps []/\cN P w K mg base CX k f fd ps sp
section
variable {P:Program} {w:World} {K:W.Frag} {mg:Str->Option Value} {base:Heap}
theorem HasFn.ok{ps:List Str}{k:Nat}(F:HasFn K mg x st ps)(S:ay N ps (af st))(len:∀vs H Q E,sp vs H Q E->vs.length=ps.length)
  (hbody:∀(f:Addr) (cdv:Value) (A:Around) (outer:List Env) (s:Shared) (H:Hp) (vs:List V) (Q:VK) (E:XK),bM k (A.deeper (envOfC x (af st) s.heap.objs.size f cdv))->sp vs H Q E ->
   ∃t,rK (fS aY P w K mg base N x (af st) f cdv A outer s H E).qG (aU st) t/\t {nx:=λ_ H'=>Q .aR H',rt:=Q} (start N vs) H):au P w K mg base aY (k+1) x ps sp:=by
 obtain⟨f,fd,F1,b,m⟩:=F.ex;exact⟨f,fd,m,F1.kp,b,F1.ok S len λcdv A outer s H vs Q E hr h=>hbody f cdv A outer s H vs Q E hr h⟩
end
section
variable {X:Cx} {CX:pJ} {k:Nat} {ps:List Str} {sp:Sp} {E:XK} {x:Str} {p pos:Pos} {e:Expr} {es:List Expr} {t:TA}
theorem HC(F:au X.prog X.w X.K X.mg X.base CX k x ps sp)(hr:bM k X.A)(hg:Gl X x)(hx:Passes CX X E)(ha:PA X (e::es) t)(h1:autoParam (fT e=true) ℜ0)(h2:autoParam (es.all fT=true) ℜ0)(hdb:autoParam ((x ==("__debug__":Str))=false) ℜ1):
  PE X (.Call (.Name x p) (e::es) [] pos) (jt sp [] E t):=by
 obtain⟨f,fd,m,kp,b,G⟩:=F.ex;exact Cf G hr hg m kp b .nil hx ha hdb (d_ h1) (plain_any h2)
end
noncomputable def Eh:Expr->Option V
 |.Constant (.int i) _ _=>some (.int i)
 |.Constant (.str x) _ _=>some (.str x)
 |.Constant (.bool b) _ _=>some (.bl b)
 |.Constant .none _ _=>some .aR
 |_=>none
noncomputable def tB:List Expr->Option (List V)
 |[]=>some []
 |e::es=>match Eh e,tB es with
  |some v,some vs=>some (v::vs)
  |_,_=>none
noncomputable def tK(vs:List V):TA:=λ_ H Q=>Q vs H
theorem DO{v:V}(h:Eh e=some v):PE X e (tC v)/\∀es,starEach (e::es) X.env=(false,eval e X.env)::starEach es X.env:=by
 unfold Eh at h
 split at h
 ·cases h;exact⟨zq,λ_=>rfl⟩
 ·cases h;exact⟨zr,λ_=>rfl⟩
 ·cases h;exact⟨CM,λ_=>rfl⟩
 ·cases h;exact⟨yB,λ_=>rfl⟩
 ·cases h
theorem mK{X:Cx}:∀{es:List Expr} {vs:List V},tB es=some vs->PA X es (tK vs)
 |[],vs,h=>by cases h;exact yW
 |e::es,vs,h=>by
  unfold tB at h
  split at h
  ·rename_i v ws e1 e2;cases h;have p:=DO (X:=X) e1;exact ud (te:=tC v) (t:=tK ws) p.1 (mK e2) (p.2 es)
  ·cases h
noncomputable def sq(H:Hp)(p:Addr):Option (Bool×List V):=match H p with
 |some (.lst xs)=>some (true,xs)
 |some (.tup xs)=>some (false,xs)
 |some (.jn _ (.lst xs))=>some (true,xs)
 |some (.jn _ (.tup xs))=>some (false,xs)
 |_=>none
theorem gO(h:sq H p=some (true,xs)):bI K H p xs:=by
 unfold sq at h
 split at h
 ·rename_i e;cases h;exact .inl (.inl e)
 ·cases h
 ·rename_i e;cases h;exact .inl (.inr ⟨_,e⟩)
 ·cases h
 ·cases h
theorem gC(h:sq H p=some (false,xs)):bz K H p xs:=by
 unfold sq at h
 split at h
 ·cases h
 ·rename_i e;cases h;exact .inl (.inl e)
 ·cases h
 ·rename_i e;cases h;exact .inl (.inr ⟨_,e⟩)
 ·cases h
theorem qL{b:Bool}(h:sq H p=some (b,xs)):bI K H p xs\/bz K H p xs:=by
 cases b with
 |true=>exact .inl (gO h)
 |false=>exact .inr (gC h)
theorem az(h:H p=some (.lst xs)):sq H p=some (true,xs):=by unfold sq;rw[h]
theorem aC(h:H p=some (.tup xs)):sq H p=some (false,xs):=by unfold sq;rw[h]
section
variable {X:Cx}
noncomputable def wo(K:W.Frag):R2:=λx y H Q=>match x,y with
 |.int i,.int j=>Q (.int (i+j)) H
 |.str i,.str j=>i.length+j.length<=sizeLine/\Q (.str (i++j)) H
 |.ref a,.ref b=>match H a,H b with
  |some (.lst xs),some (.lst ys)=>xs.length+ys.length<=sizeLine/\∀p,H p=none->Q (.ref p) (upd H p (.lst (xs++ys)))
  |some (.tup xs),some (.tup ys)=>xs≠[]/\ys≠[]/\xs.length+ys.length<=sizeLine/\∀p,H p=none->Q (.ref p) (upd H p (.tup (xs++ys)))
  |_,_=>False
 |_,_=>False
theorem BN:dc X (binaryOp .Add) (wo X.K):=by
 intro pins s σ H x y v u Q I rx ry h
 cases x with
 |int i=>cases y with
  |int j=>exact Eu pins s σ H _ _ v u Q I rx ry ⟨i,j,rfl,rfl,h⟩
  |_=>exact (show False from h).elim
 |str i=>cases y with
  |str j=>exact rP pins s σ H _ _ v u Q I rx ry ⟨i,j,rfl,rfl,h.1,h.2⟩
  |_=>exact (show False from h).elim
 |ref a=>cases y with
  |ref b =>
   unfold wo at h;simp only at h
   split at h
   ·rename_i xs ys e1 e2;exact ED pins s σ H _ _ v u Q I rx ry ⟨a,b,xs,ys,rfl,rfl,e1,e2,h.1,h.2⟩
   ·rename_i xs ys e1 e2;obtain⟨h1,h2,h3,h4⟩:=h;exact Bt pins s σ H _ _ v u Q I rx ry ⟨a,b,xs,ys,rfl,rfl,bz.of e1,bz.of e2,h1,h3,λz=>absurd z h2,λ_=>h4⟩
   ·exact h.elim
  |_=>exact (show False from h).elim
 |_=>exact (show False from h).elim
noncomputable def G0:R2:=λx y H Q=>match x,y with
 |.int i,.int j=>wY i j/\Q (.int (i*j)) H
 |.ref a,.int j=>GL (.ref a) (.int j) H Q
 |_,_=>False
theorem fI:dc X (binaryOp .Mult) G0:=by
 intro pins s σ H x y v u Q I rx ry h
 cases x with
 |int i=>cases y with
  |int j=>exact Dw pins s σ H _ _ v u Q I rx ry ⟨i,j,rfl,rfl,h.1,h.2⟩
  |_=>exact (show False from h).elim
 |ref a=>cases y with
  |int j=>exact E5 pins s σ H _ _ v u Q I rx ry h
  |_=>exact (show False from h).elim
 |_=>exact (show False from h).elim
theorem bC:dc X (compareOp .Eq) CB:=CI
theorem zm:dc X (compareOp .NotEq) GV:=Dd
noncomputable def GO(K:W.Frag)(neg:Bool):R2:=λx y H Q=>match y with
 |.str j=>∃i,x=.str i/\Q (.bl (if neg then !(!(Builtin.Str.occurrences j i 0 j.length 1).isEmpty) else !(Builtin.Str.occurrences j i 0 j.length 1).isEmpty)) H
 |.ref p=>match sq H p with
  |some (_,xs)=>cO x=true/\xs.all cO=true/\Q (.bl (if neg then !qI x xs else qI x xs)) H
  |none=>∃xs,bz K H p xs/\cO x=true/\xs.all cO=true/\Q (.bl (if neg then !qI x xs else qI x xs)) H
 |_=>False
theorem Fo{neg:Bool}{x:V}{Q:VK}(h:GO K neg x (.ref p) H Q):IH K neg x (.ref p) H Q:=by
 unfold GO at h;simp only at h
 split at h
 ·rename_i xs e;exact⟨p,_,rfl,qL e,h.1,h.2.1,h.2.2⟩
 ·obtain⟨xs,hq,h⟩:=h;exact⟨p,xs,rfl,.inr hq,h.1,h.2.1,h.2.2⟩
theorem Ep{k:Nat}(hu:k<cLine):dc X (compareOp .In) (GO X.K false):=by
 intro pins s σ H x y v u Q I rx ry h
 match y,h with
 |.str j,h =>
  obtain⟨i,rfl,h'⟩:=h;exact vj pins s σ H _ _ v u Q I rx ry ⟨i,j,rfl,rfl,h'⟩
 |.ref p,h=>exact mw pins s σ H _ _ v u Q I rx ry (Fo h)
noncomputable def De(K:W.Frag):R2:=λx y H Q=>match x,y with
 |.str z,.int i=>z.length<=sizeLine/\(match bV z.cps.toList i with|some c=>Q (.str ⟨#[c]⟩) H|none=>False)
 |.ref p,.int i=>match sq H p with
  |some (_,xs)=>(match bV xs i with|some v=>Q v H|none=>False)
  |none=>∃xs v,bz K H p xs/\bV xs i=some v/\Q v H
 |_,_=>False
theorem Js{k:Nat}(hu:k<cLine):vm X (De X.K):=by
 intro value slice pins s σ H x y v u Q I rx ry h hs;refine Fg value slice pins s σ H x y v u Q I rx ry ?_ hs
 cases x with
 |str z=>cases y with
  |int i =>
   obtain⟨hz,h⟩:=h
   split at h
   ·rename_i c e;exact .inr (.inr ⟨z,i,c,rfl,rfl,hz,e,h⟩)
   ·exact h.elim
  |_=>exact (show False from h).elim
 |ref p=>cases y with
  |int i =>
   unfold De at h;simp only at h
   split at h
   ·rename_i b xs e
    split at h
    ·rename_i w' e'
     cases b with
     |true=>exact .inl ⟨p,xs,i,w',rfl,rfl,gO e,e',h⟩
     |false=>exact .inr (.inl ⟨p,xs,i,w',rfl,rfl,gC e,e',h⟩)
    ·exact h.elim
   ·obtain⟨xs,w',hq,e',h⟩:=h;exact .inr (.inl ⟨p,xs,i,w',rfl,rfl,hq,e',h⟩)
  |_=>exact (show False from h).elim
 |_=>exact (show False from h).elim
noncomputable def HV(K:W.Frag):V->Option Int->Option Int->Hp->VK->Prop:=λx lo hi H Q=>match x with
 |.ref p=>match sq H p with
  |some (true,xs)=>∀q,H q=none->Q (.ref q) (upd H q (.lst (dJ xs lo hi)))
  |some (false,xs)=>qT K (.ref p) lo hi H Q
  |none=>qT K (.ref p) lo hi H Q
 |_=>False
theorem BD:vL X (HV X.K):=by
 intro pins s σ H x v vl vu lo hi sl Q I rx hs pl pu h
 match x,h with
 |.ref p,h =>
  unfold HV at h;simp only at h
  split at h
  ·rename_i xs e;exact t8 pins s σ H _ v vl vu lo hi sl Q I rx hs pl pu ⟨p,xs,rfl,gO e,h⟩
  ·exact rM pins s σ H _ v vl vu lo hi sl Q I rx hs pl pu h
  ·exact rM pins s σ H _ v vl vu lo hi sl Q I rx hs pl pu h
noncomputable def xx:V->V->V->Hp->(Hp->Prop)->Prop:=λo i v H Q=>match o,i with
 |.ref p,.int k=>match H p with
  |some (.lst xs)=>(match kK xs.length k with|some j=>Q (upd H p (.lst (xs.set j v)))|none=>False)
  |_=>False
 |_,_=>False
theorem uset:EH X xx:=by
 intro pins s σ H o i v ov iv u Q I ro ri rv h
 cases o with
 |ref p=>cases i with
  |int k =>
   unfold xx at h;simp only at h
   split at h
   ·rename_i xs e
    split at h
    ·rename_i j e';exact set_list pins s σ H _ _ v ov iv u Q I ro ri rv ⟨p,xs,k,j,rfl,rfl,e,e',h⟩
    ·exact h.elim
   ·exact h.elim
  |_=>exact (show False from h).elim
 |_=>exact (show False from h).elim
noncomputable def zF(K:W.Frag):List V->Hp->VK->Prop:=λxs H Q=>match xs with
 |[.str y]=>y.length<=sizeLine/\Q (.int y.length) H
 |[.ref p]=>match sq H p with
  |some (_,ys)=>Q (.int ys.length) H
  |none=>∃ys,bz K H p ys/\Q (.int ys.length) H
 |_=>False
theorem wb:bu X (.builtin "len") (zF X.K):=by
 intro pins s σ H xs us Q I r h;rcases xs with _|⟨x,_|⟨y,xs⟩⟩
 ·exact (show False from h).elim
 rotate_left
 ·cases x<;>exact (show False from h).elim
 cases x with
 |str y=>exact i9 pins s σ H _ us Q I r ⟨.str y,_,rfl,⟨h.1,rfl⟩,h.2⟩
 |ref p =>
  unfold zF at h;simp only at h
  split at h
  ·rename_i b ys e;refine i9 pins s σ H _ us Q I r ⟨.ref p,ys.length,rfl,?_,h⟩
   cases b with
   |true=>exact .inl ⟨ys,gO e,rfl⟩
   |false=>exact .inr ⟨ys,gC e,rfl⟩
  ·obtain⟨ys,hq,h⟩:=h;exact i9 pins s σ H _ us Q I r ⟨.ref p,ys.length,rfl,.inr ⟨ys,hq,rfl⟩,h⟩
 |_=>exact (show False from h).elim
noncomputable def Hq:List V->Hp->VK->Prop:=λxs H Q=>match xs with
 |[.int i,.int j]=>Q (.int (if j<i then j else i)) H
 |_=>False
theorem vg(hc:X.calm=true):bu X (.builtin "min") Hq:=by
 intro pins s σ H xs us Q I r h;rcases xs with _|⟨x,_|⟨y,_|⟨z,xs⟩⟩⟩
 ·exact (show False from h).elim
 ·cases x<;>exact (show False from h).elim
 ·cases x with
  |int i=>cases y with
   |int j=>exact v7 hc pins s σ H _ us Q I r ⟨i,j,rfl,h⟩
   |_=>exact (show False from h).elim
  |_=>exact (show False from h).elim
 ·cases x with
  |int i=>cases y<;>exact (show False from h).elim
  |_=>exact (show False from h).elim
noncomputable def Hw:List V->Hp->VK->Prop:=λxs H Q=>match xs with
 |[.int i,.int j]=>Q (.int (if j > i then j else i)) H
 |_=>False
theorem jm(hc:X.calm=true):bu X (.builtin "max") Hw:=by
 intro pins s σ H xs us Q I r h;rcases xs with _|⟨x,_|⟨y,_|⟨z,zs⟩⟩⟩
 ·exact (show False from h).elim
 ·cases x<;>exact (show False from h).elim
 ·cases x with
  |int i=>cases y with
   |int j=>exact vX hc pins s σ H _ us Q I r ⟨i,j,rfl,h⟩
   |_=>exact (show False from h).elim
  |_=>exact (show False from h).elim
 ·cases x<;>first|exact (show False from h).elim | (cases y<;>exact (show False from h).elim)
noncomputable def nI(K:W.Frag):List V->Hp->VK->Prop:=λxs H Q=>match xs with
 |[.ref p]=>match sq H p with
  |some (true,ys)=>∀l,H l=none->Q (.ref l) (upd H l (.tup ys))
  |some (false,_)=>Q (.ref p) H
  |none=>∃ys,bz K H p ys/\Q (.ref p) H
 |_=>False
theorem pR:bu X (.type "tuple") (nI X.K):=by
 intro pins s σ H xs us Q I r h;rcases xs with _|⟨x,_|⟨y,xs⟩⟩
 ·exact (show False from h).elim
 rotate_left
 ·cases x<;>exact (show False from h).elim
 cases x with
 |ref p =>
  unfold nI at h;simp only at h
  split at h
  ·rename_i ys e;exact eN pins s σ H _ us Q I r ⟨p,ys,rfl,.inl ⟨gO e,h⟩⟩
  ·rename_i ys e;exact eN pins s σ H _ us Q I r ⟨p,ys,rfl,.inr ⟨gC e,h⟩⟩
  ·obtain⟨ys,hq,h⟩:=h;exact eN pins s σ H _ us Q I r ⟨p,ys,rfl,.inr ⟨hq,h⟩⟩
 |_=>exact (show False from h).elim
noncomputable def Hi:List V->Hp->VK->Prop:=λxs H Q=>match xs with
 |[.int i]=>Q (.int i) H
 |[.bl k]=>Q (.int (if k=true then 1 else 0)) H
 |_=>False
theorem iT:bu X (.type "int") Hi:=by
 intro pins s σ H xs us Q I r h;rcases xs with _|⟨x,_|⟨y,ys⟩⟩
 ·exact (show False from h).elim
 ·cases x with
  |int i=>exact mT pins s σ H _ us Q I r (.inl ⟨i,rfl,h⟩)
  |bl k=>exact mT pins s σ H _ us Q I r (.inr ⟨k,rfl,h⟩)
  |_=>exact (show False from h).elim
 ·cases x<;>exact (show False from h).elim
noncomputable def F_:List V->Hp->VK->Prop:=λxs H Q=>match xs with
 |[.int i]=>i.natAbs.log2<1920/\Q (.str (toString i)) H
 |[.str z]=>Q (.str z) H
 |_=>False
theorem vf:bu X (.type "str") F_:=by
 intro pins s σ H xs us Q I r h
 match xs,h with
 |[.int i],h=>exact nX pins s σ H _ us Q I r ⟨i,rfl,h.1,h.2⟩
 |[.str z],h =>
  obtain⟨u,rfl,t,rfl⟩:=vals1 r;exact PySem.P.str_of_str ⟨.str z,H,I,⟨_,rfl⟩,h⟩
theorem mR(hc:X.calm=true):bu X (.builtin "sum") (λxs H Q=>∃(p:Addr) (ns:List Int),xs=[.ref p]/\bI X.K H p (ns.map V.int)/\Q (.int ns.sum) H):=by
 intro pins s σ H xs us Q I r h;obtain⟨p,ns,rfl,hq,q⟩:=h;obtain⟨u,rfl,ru⟩:=vals1 r;cases ru;obtain⟨its,rv,pl,hz⟩:=I.list hq;have hi:=intsAre_of rv;obtain⟨xs,hx⟩:=hi.allInts.items;have hl':s.heap.IsList p (intItems xs):=by rw[<- hx];exact pl.isList
 refine sum_intListG (I.ok.hd hc) hl' λh' tk t' hk=>?_;have e1:ns=xs.toList.map (·.1):=by rw[<- nums_intItems,<- hx];exact hi.numsOf.symm
 have e2:preSum (numAt xs) xs.size=ns.sum:=by rw[preSum_eq,Kj (by simp),e1]
 rw[e2];exact⟨.int ns.sum,H,I.kept hk,⟨_,rfl⟩,q⟩
noncomputable def EL(H:Hp):V->Option String
 |.aR=>some "NoneType"
 |.bl _=>some "bool"
 |.int _=>some "int"
 |.str _=>some "str"
 |.ref a=>match H a with
  |some (.lst _)=>some "list"
  |some (.tup _)=>some "tuple"
  |some (.dK _)=>some "dict"
  |_=>none
 |_=>none
theorem Dj{x:V}(h:EL H x=some t):ic K H x (.type t):=by
 unfold EL at h
 split at h
 ·cases h;exact .aR
 ·cases h;exact .bl _
 ·cases h;exact .int _
 ·cases h;exact .str _
 ·split at h
  ·rename_i e;cases h;exact .lst e
  ·rename_i e;cases h;exact .tup e
  ·rename_i e;cases h;exact .dK e
  ·cases h
 ·cases h
noncomputable def vE(t c:String):Bool:=decide (t=c) || (t == "bool" && c == "int")
theorem yn{c:String}(ht:t∈["NoneType","bool","int","str","list","tuple","dict"])(hc:c∈["bool","int","str","list","tuple","dict"]):W.kitOne K (.type t) (.type c)=some (vE t c):=by
 simp only[J9,J_,KA] at ht hc;rcases ht with rfl|rfl|rfl|rfl|rfl|rfl|rfl<;>rcases hc with rfl|rfl|rfl|rfl|rfl|rfl<;>rfl
theorem Fb{x:V}(h:EL H x=some t):t∈["NoneType","bool","int","str","list","tuple","dict"]:=by
 unfold EL at h
 split at h
 ·cases h;decide
 ·cases h;decide
 ·cases h;decide
 ·cases h;decide
 ·split at h
  ·cases h;decide
  ·cases h;decide
  ·cases h;decide
  ·cases h
 ·cases h
noncomputable def Fq(K:W.Frag):List V->Hp->VK->Prop:=λxs H Q=>match xs with
 |[x,.ty T]=>T∈["bool","int","str","list","tuple","dict"]/\match EL H x with
  |some t=>Q (.bl (vE t T)) H
  |none=>∃t b,ic K H x t/\W.kitOne K t (.type T)=some b/\Q (.bl b) H
 |_=>False
theorem vD:bu X (.builtin "isinstance") (Fq X.K):=by
 intro pins s σ H xs us Q I r h;rcases xs with _|⟨x,_|⟨y,_|⟨z,xs⟩⟩⟩
 ·exact (show False from h).elim
 ·exact (show False from h).elim
 rotate_left
 ·cases y<;>exact (show False from h).elim
 cases y with
 |ty T =>
  obtain⟨u,w',rfl,r1,r2⟩:=vals2 r;cases r2;obtain⟨hT,h⟩:=h
  split at h
  ·rename_i t e;exact m9 I r1 (Dj e) (yn (Fb e) hT) λtk=>⟨.bl _,H,I.tok _,rfl,h⟩
  ·obtain⟨t,b,ty,k,q⟩:=h;exact m9 I r1 ty k λtk=>⟨.bl b,H,I.tok _,rfl,q⟩
 |_=>exact (show False from h).elim
theorem Du{T:String}{pos:Pos}(hg:Gl X x)(hm:X.mg x=none)(hv:bootBuiltins x=some (.type T))(hn:autoParam (x≠"__name__") ℜ1)(hd:autoParam ((x ==("__debug__":Str))=false) ℜ1):PE X (.Name x pos) (tC (.ty T)):=Cv hg hm hv rfl hn hd
noncomputable def rJoin(K:W.Frag):V->List V->Hp->VK->Prop:=λx vs H Q=>∃z l ys,x=.str z/\vs=[.ref l]/\bI K H l (ys.map V.str)/\(ys.map (·.length)).sum+ys.length*z.length<=16777216/\Q (.str (Str.join z ys)) H
theorem kO:∀{ys:List Str} {us:List Value},Vals (ys.map V.str) us->StrsAre us ys
 |[],_,.nil=>.nil
 |y::ys,_,.cons r t=>by
  obtain⟨k,rfl⟩:=r;exact .cons y k (kO t)
theorem AS:sZ X "str.join" (rJoin X.K):=by
 intro pins s σ H x xs v us Q I rx rs h;obtain⟨z,l,ys,rfl,rfl,hq,hz,q⟩:=h;obtain⟨t,rfl⟩:=rx;obtain⟨u,rfl,ru⟩:=vals1 rs;cases ru;obtain⟨its,rv,pl,_⟩:=I.list hq;refine join_list pl.isList (by simpa using kO rv) hz λt' k=>?_
 have e:Txt.join z ys=Str.join z ys:=StrLaws.glued_eq_join z ys;rw[e];exact⟨.str _,H,I.tok _,⟨_,rfl⟩,q⟩
end
section
variable {X:Cx} {e:Expr} {te:TE}
theorem tS(p:Nat->Bool):∀(l:List Nat),l.drop (l.takeWhile p).length=l.dropWhile p
 |[]=>rfl
 |x::l=>by
  by_cases h:p x
  ·simp[Nk,Mv,h,tS p l]
  ·simp[Nk,Mv,h]
end
open AutoSeq1 (wpAny_loadPart')
section
variable {prog:Program} {w:World} {A:Around} {E:Value->Shared->Prop} {s:Shared}
theorem jA{l:Addr}{x:Value}(hit:s.heap.IsTupleIter it l i)(hl:s.heap.IsTuple l items)(hx:items[i]?=some x)
  (hQ:∀h',h'.IsTupleIter it l (i+1)->Heap.SameBut it s.heap h'->Q x {s with heap:=h'}):wpAny (model prog w) A (Builtin.SmallTypes.nextOf (.ref it)) Q E s:=by
 obtain⟨o,ho,hc,hd⟩:=id hit;obtain⟨ol,hol,_,nl,hdl⟩:=hl;unfold Builtin.SmallTypes.nextOf;refine Jy (Kz (name:=Str.ofString "__next__") hit.typeIs L5 (KC L5 hit.typeIs Ny ?_ (Nq _)));show wpAny _ _ (field (.ref it) 0 >>= _) _ _ s;refine Jy (LV ho hd (x:=.ref l) rfl ?_);show wpAny _ _ (if (Value.ref l == Value.none)=true then _ else _) _ _ s
 rw[JA (show ¬ ((Value.ref l == Value.none)=true) from JO)];show wpAny _ _ (field (.ref it) 1 >>= _) _ _ s;refine Jy (LV ho hd (x:=.int i 0) rfl ?_);show wpAny _ _ (seqItems? (.ref l) >>= _) _ _ s;refine Jy (Md hol hdl ?_);simp only[Kb,hx];refine Jy (Nr ho hd (by simp) (JJ ⟨x,rfl,JJ (hQ _ ?_ (KL ..))⟩))
 exact⟨_,Ma _ ho (Obj.isFreed_of_fields (M0 hd _)),(Obj.cls_mapFields ..).trans hc,by rw[M0 hd];simp[rawInt]⟩
theorem kF{l:Addr}(hh:A.handled=none)(hit:s.heap.IsTupleIter it l i)(hl:s.heap.IsTuple l items)(hx:items[i]?=none)
  (hE:∀h' e,Heap.ExtBut it s.heap h'->(∃o,h'.get? e=some o/\o.cls=.type "StopIteration")->E (.ref e) {s with heap:=h'}):wpAny (model prog w) A (Builtin.SmallTypes.nextOf (.ref it)) Q E s:=by
 obtain⟨o,ho,hc,hd⟩:=id hit;obtain⟨ol,hol,_,nl,hdl⟩:=hl;unfold Builtin.SmallTypes.nextOf;refine Jy (Kz (name:=Str.ofString "__next__") hit.typeIs L5 (KC L5 hit.typeIs Ny ?_ (Nq _)));show wpAny _ _ (field (.ref it) 0 >>= _) _ _ s;refine Jy (LV ho hd (x:=.ref l) rfl ?_);show wpAny _ _ (if (Value.ref l == Value.none)=true then _ else _) _ _ s
 rw[JA (show ¬ ((Value.ref l == Value.none)=true) from JO)];show wpAny _ _ (field (.ref it) 1 >>= _) _ _ s;refine Jy (LV ho hd (x:=.int i 0) rfl ?_);show wpAny _ _ (seqItems? (.ref l) >>= _) _ _ s;refine Jy (Md hol hdl ?_);simp only[Kb,hx];refine Jy (NC (Jy (Nr ho hd (by simp) ?_)))
 show wpAny _ _ (newExc (.type "StopIteration") [] >>= _) _ _ _;refine Jy ?_;simp only[newExc,newTuple];refine Jy (Lr ?_ (by size_fits))
 refine Jy (m:=firstArgMember _ _) (wpAny_of_eq (a:=Value.none) (by first|rfl | (simp only[firstArgMember];rfl)) ?_)
 refine Lr ?_ (by size_fits)
 simp only[raiseNew];refine Jy (wpAny_handled ?_)
 first|rw[show A.in1.handled=none from hh]|rw[hh]
 refine Jy (JJ (wpAny_throw ?_));exact hE _ _ (((KL ..).extBut.push _).push _) ⟨_,JM _ rfl,rfl⟩
theorem js(hh:A.handled=none)(it l:Addr)(hne:l≠it)(items:Array Value):
  Draws prog w A it [it,l] items.size (λi v=>items[i]?=some v) (λi h=>h.IsTupleIter it l i/\h.IsTuple l items) where
 live:=λ_ _ st=>let ⟨o,ho,_⟩:=st.1;⟨o,ho⟩
 frame:=λ_ _ _ st hk=>⟨let ⟨o,e,r⟩:=st.1;⟨o,hk it (by simp) o e,r⟩,let ⟨o,e,r⟩:=st.2;⟨o,hk l (by simp) o e,r⟩⟩
 item:=λi s Q E hi st hQ=>by
  refine jA st.1 st.2 (x:=items[i]) (by simp[hi]) λh' hit' hs'=>?_
  exact hQ _ h' s.toks (by simp[hi]) ⟨hit',st.2.extBut hs'.extBut hne⟩ hs'
 done:=λs Q E st hE=>kF hh st.1 st.2 (by simp) hE
theorem kU(l:Addr)(items:Array Value)(n:Nat)(dct:Option Addr)(sl:Array (Option Value)):
  Meets (Builtin.«enumerate.__new__» ⟨[.type "enumerate",.ref l],[]⟩) (λ_ R s=>s.heap.get? l=some {cls:=.type "tuple",dict:=dct,data:=.seq items n,slots:=sl} /\
   R (.ok (.ret (.ref (s.heap.push {cls:=.type "tuple_iterator",data:=.fields #[.ref l,.int 0 0]}).objs.size)))
    {s with heap:=(s.heap.push {cls:=.type "tuple_iterator",data:=.fields #[.ref l,.int 0 0]}).push {cls:=.type "enumerate",data:=.fields #[.none,.bool false,.ref s.heap.objs.size,rawInt 0,.none,.none]}}):=
 .of_wp λprog w A R s h=>by
  obtain⟨hp,g,d,tk,os⟩:=s;obtain⟨hl,h⟩:=h;have hsub:=sub_enumerate;have hL:Heap.IsTuple (Shared.heap ⟨hp,g,d,tk,os⟩) l items:=⟨_,hl,rfl,n,rfl⟩;wp_walk using M_ hl;refine wpAny_stack_any λst=>JJ ?_;split
  ·rename_i c _ _ _ _ _
   cases (c == Value.type "enumerate")<;>(wp_walk using M_ hl,L0 hL;exact⟨_,rfl,h⟩)
  ·wp_walk using M_ hl,L0 hL;exact⟨_,rfl,h⟩
theorem ma{l:Addr}(hL:s.heap.IsTuple l items)
  (h:∀h',IsEnum h' (s.heap.objs.size+1) s.heap.objs.size 0 .none->h'.IsTupleIter s.heap.objs.size l 0->h'.objs.size=s.heap.objs.size+2 ->
   (∀b o,s.heap.get? b=some o->h'.get? b=some o)->Q (.ref (s.heap.objs.size+1)) {s with heap:=h'}) :
  wpAny (model prog w) A (call (.type "enumerate") [.ref l]) Q E s:=by
 obtain⟨⟨c,dct,dt,sl⟩,hl,hc,n,hd⟩:=hL
 replace hc:c=.type "tuple":=hc
 replace hd:dt=.seq items n:=hd
 subst hc hd;refine OC F.called_enumerate (by decide) (F.typeCall_enumerate_1 _) (F.newCall_enumerate_1 _) (λobj=>F.args_object_init_2 obj _) F.entry_enumerate_new (kU l items n dct sl) ⟨hl,?_⟩
 have hz:(s.heap.push {cls:=.type "tuple_iterator",data:=.fields #[.ref l,.int 0 0]}).objs.size=s.heap.objs.size+1:=K7 ..;show _/\_;rw[hz];have he:IsEnum ((s.heap.push {cls:=.type "tuple_iterator",data:=.fields #[.ref l,.int 0 0]}).push {cls:=.type "enumerate",data:=.fields #[.none,.bool false,.ref s.heap.objs.size,rawInt 0,.none,.none]}) (s.heap.objs.size+1) s.heap.objs.size 0 .none:=by
  have:=JM (s.heap.push {cls:=.type "tuple_iterator",data:=.fields #[.ref l,.int 0 0]}) (o:={cls:=.type "enumerate",data:=.fields #[.none,.bool false,.ref s.heap.objs.size,rawInt 0,.none,.none]}) rfl;rw[hz] at this;exact this
 refine⟨⟨_,he,rfl⟩,h _ he ⟨_,J7 _ (JM _ rfl),rfl,rfl⟩ (by rw[K7,hz]) λb o x=>J7 _ (J7 _ x)⟩
end
section
variable {X:Cx} {pins:List (Addr×Obj)} {σ:St} {H:Hp} {s:Shared} {h':Heap}
theorem Inv.turns{t':Nat}(I:Inv X pins σ H s)(hf:∀b∈fp,me X pins H b)(k:∀b o,b∉fp->s.heap.get? b=some o->h'.get? b=some o):Inv X pins σ H {s with heap:=h',toks:=t'}:=by
 have nf:∀b u,H b=some u->b∉fp:=λb u e z=>by rw[(hf b z).1] at e;cases e
 refine I.step (g':=s.gens) (d':=s.drawn) (ch:=fp) (λb hb=>?_) (λb o _ _ hc e _=>k b o hc e) (λb o _ _ hc e _=>⟨o.slots,k b o hc e⟩) (λ_ _ _ _ n=>n)
  (λb o hc e=>⟨o,k b o hc e⟩) (λ_ _ e=>e) (λ_ _ _ e=>e) (λb ps e=>⟨#[],by rw[e];simp⟩) (λm hm=>?_) (λb u e=>?_) I.bare
 ·obtain⟨_,g1,g2,g3,g4,g5⟩:=hf b hb;exact⟨g3,g1,g4,g5⟩
 ·obtain⟨o,es,ep,ho,r⟩:=hm;exact⟨o,es,ep,k _ o (λz=>(hf _ z).2.1 rfl) ho,r⟩
 ·refine (I.aQ b u e).n_ (λc v hc q=>k c v ?_ q) (λ_ q=>q) (λ_ _ q=>q) λ_ _ _ q=>q;rcases hc with z|z
  ·rw[z];exact nf b u e
  ·exact nf c _ z
theorem Inv.oy{t':Nat}(I:Inv X pins σ H s)(hf:∀b∈fp,me X pins H b)(hp:s.heap.objs.size<=p)(k:∀b o,b∉fp->s.heap.get? b=some o->h'.get? b=some o)
  (new:b9 X.prog X.w (upd H p o) h' p o):Inv X pins σ (upd H p o) {s with heap:=h',toks:=t'}:=by
 have nf:∀b u,H b=some u->b∉fp:=λb u e z=>by rw[(hf b z).1] at e;cases e
 have fr:H p=none:=I.aQ.fresh hp;have np:∀b u,H b=some u->b≠p:=λb u e=>aq e fr;have ne:∀b o,s.heap.get? b=some o->b≠p:=λb o e z=>by rw[z] at e;exact absurd (JZ (JP e) hp) (KG _)
 refine I.step (g':=s.gens) (d':=s.drawn) (ch:=fp) (λb hb=>?_) (λb o _ _ hc e _=>k b o hc e) (λb o _ _ hc e _=>⟨o.slots,k b o hc e⟩) (λb o _ e n=>by rw[aj (ne b o e)];exact n)
  (λb o hc e=>⟨o,k b o hc e⟩) (λb xs e=>by rw[aj (np b _ e)];exact e) (λb o u e=>by rw[aj (np b _ e)];exact e) (λb ps e=>⟨#[],by rw[aj (np b _ e),e];simp⟩) (λm hm=>?_) (λb u e=>?_) I.bare
 ·obtain⟨_,g1,g2,g3,g4,g5⟩:=hf b hb;exact⟨g3,g1,g4,g5⟩
 ·obtain⟨o,es,ep,ho,r⟩:=hm;exact⟨o,es,ep,k _ o (λz=>(hf _ z).2.1 rfl) ho,r⟩
 ·by_cases hb:b=p
  ·subst hb;rw[ae] at e;cases e;exact new
  ·rw[aj hb] at e;refine (I.aQ b u e).n_ (λc v hc q=>k c v ?_ q) (λc q=>by rw[aj (np c _ q)];exact q) (λc xs q=>by rw[aj (np c _ q)];exact q) λc _ _ q=>by rw[aj (np c _ q)];exact q
   rcases hc with z|z
   ·rw[z];exact nf b u e
   ·exact nf c _ z
end
noncomputable def getL(K:W.Frag)(a:Addr):Nat->Hp->V->Prop:=λi H x=>∃xs,bI K H a xs/\xs[i]?=some x
noncomputable def Ih(K:W.Frag)(a:Addr):Nat->Hp->V->Prop:=λi H x=>∃xs,bz K H a xs/\xs[i]?=some x
noncomputable def IG(K:W.Frag)(a:Addr):Nat->Hp->Prop:=λi H=>∃xs,bI K H a xs/\xs.length=i
noncomputable def Iy(K:W.Frag)(a:Addr):Nat->Hp->Prop:=λi H=>∃xs,bz K H a xs/\xs.length=i
noncomputable def uV(K:W.Frag)(a:Addr):It:=
 ⟨λi H=>∃x,Ih K a i H x,λi H x H'=>∃p y,(∀xs,bz K H a xs->xs[i]?=some y)/\H p=none/\x=.ref p/\H'=upd H p (.tup [.int i,y]),Iy K a⟩
theorem sG{tk:Nat}{tp:Pos}(a it e:Addr)(hne:e≠it):Turn P w K (.Tuple es tk tp) (uV K a) [e,it] e (λi h=>(∃old,IsEnum h e it i old)/\h.IsTupleIter it a i) where
 mem:=by simp
 obj:=λi h st b hb=>by
  obtain⟨⟨old,he⟩,o,eo,c,d⟩:=st;rcases J9.mp hb with z|z
  ·subst z;exact⟨_,he,λv z=>by cases z⟩
  ·have z:b=it:=by simpa using z
   subst z;exact⟨o,eo,λv z=>by rw[d] at z;cases z⟩
 keep:=λi h h' st k=>by
  obtain⟨⟨old,he⟩,o,eo,r⟩:=st;exact⟨⟨old,k e (by simp) _ he⟩,o,k it (by simp) o eo,r⟩
 item:=by
  intro X hP hw hK hc i pins s σ H E I hf st hg;subst hP hw hK;obtain⟨x,xs,hq,hx⟩:=hg;obtain⟨⟨old,he⟩,hit⟩:=st;obtain⟨its,rv,p,hz⟩:=I.tuple hq;obtain⟨u,hu,ru⟩:=rv.get hx;obtain⟨g0,g1,g2,g3,g4,g5⟩:=hf e (by simp)
  obtain⟨f0,f1,f2,f3,f4,f5⟩:=hf it (by simp)
  have ht:s.heap.IsTuple a its.toArray:=p;have ha:a≠it:=by
   rintro rfl;obtain⟨o,e1,c1,_⟩:=hit;obtain⟨o',e2,c2,_⟩:=ht;rw[e1] at e2;cases e2;rw[c1] at c2;exact absurd (Value.type.inj c2) (by decide)
  have hea:e≠a:=by
   rintro rfl;obtain⟨o',e2,c2,_⟩:=ht;have e1:s.heap.get? e=some _:=he;rw[e1] at e2;cases e2;exact absurd (Value.type.inj c2) (by decide)
  have hi:i<its.toArray.size:=by
   have:=(J6.mp hu).1
   simpa using this
  refine NQ (js (A:=X.A.in1) (I.ok.hd hc) it a ha its.toArray) he ⟨hit,ht⟩ hi hne (by simp[hne,hea]) λx' h' tk' hP ho hs' hT hsz hk=>?_
  have ex:x'=u:=by
   have hP':its.toArray[i]?=some x':=hP;rw[Kn,hu] at hP';exact (Option.some.inj hP').symm
  subst ex;refine⟨.ref s.heap.objs.size,rfl,N4 ho λh2 he2 hs2=>?_⟩;have fr:H s.heap.objs.size=none:=I.aQ.fresh (JD _);have hle:e≠s.heap.objs.size:=JX (JP he);have hT2:h2.get? s.heap.objs.size=some {cls:=.type "tuple",data:=.seq #[.int i tk',x']}:=(hs2.2 _ (KP hle)).trans hT;have I2:Inv X pins σ (upd H s.heap.objs.size (.tup [.int i,x])) {s with heap:=h2,toks:=tk'+1}:=by
   refine I.oy (fp:=[e,it]) hf (JD _) (λb o hb eb=>?_) ⟨by show 2<=sizeLine;decide,[.int i tk',x'],.cons ⟨_,rfl⟩ (.cons ru .nil),⟨_,hT2,rfl,_,rfl,rfl⟩⟩
   have n1:b≠e:=λz=>hb (by simp[z])
   have n2:b≠it:=λz=>hb (by simp[z])
   exact (hs2.2 b n1).trans (hk b o n1 n2 eb)
  refine⟨.ref s.heap.objs.size,_,I2,rfl,⟨s.heap.objs.size,x,λys hy=>by rw[I.jd hy hq];exact hx,fr,rfl,rfl⟩,⟨⟨x',?_⟩,?_⟩,λb hb=>?_⟩
  ·have e:(((i+1:Nat)):Int)=(i:Int)+1:=by lia
   rw[e];exact he2
  ·obtain⟨o,e1,r⟩:=hs'.1;exact⟨o,(hs2.2 it (KP hne)).trans e1,r⟩
  ·have n:b≠s.heap.objs.size:=by
    rcases J9.mp hb with z|z
    ·subst z;exact hle
    ·have z:b=it:=by simpa using z
     subst z;obtain⟨o,e1,_⟩:=hit;exact JX (JP e1)
   rw[aj n];exact (hf b hb).1
 done:=by
  intro X hP hw hK hc i pins s σ H E I hf st hg;subst hP hw hK;obtain⟨xs,hq,hx⟩:=hg;obtain⟨⟨old,he⟩,hit⟩:=st;obtain⟨its,rv,p,hz⟩:=I.tuple hq;have ht:s.heap.IsTuple a its.toArray:=p;have ha:a≠it:=by
   rintro rfl;obtain⟨o,e1,c1,_⟩:=hit;obtain⟨o',e2,c2,_⟩:=ht;rw[e1] at e2;cases e2;rw[c1] at c2;exact absurd (Value.type.inj c2) (by decide)
  have hl:=rv.length;have hsz:its.toArray.size=i:=by simp;lia
  refine Of (js (A:=X.A.in1) (I.ok.hd hc) it a ha its.toArray) he (by rw[hsz];exact⟨hit,ht⟩) λh' eb=>⟨rfl,?_⟩
  exact I.turns (t':=s.toks) hf λb o hb e1=>eb b o (λz=>hb (by simp[z])) e1
 self:=λA i s Q E st h=>by
  obtain⟨⟨old,he⟩,_⟩:=st;exact MG he h
section
variable {X:Cx} {es:List Expr} {tk:Nat} {tp:Pos}
noncomputable def qj(K:W.Frag)(ta:TA):TI:=λσ H R=>ta σ H λvs H1=>∃a,vs=[.ref a]/\(∃xs,bz K H1 a xs)/\R (uV K a) H1
theorem Be{ta:TA}{p pos:Pos}(hg:Gl X "enumerate")(hm:X.mg "enumerate"=none)(ha:PA X [e] ta)(h1:autoParam (fT e=true) ℜ0)(hv:autoParam (bootBuiltins "enumerate"=some (.type "enumerate")) ℜ6):
  PI X (.Tuple es tk tp) (.Call (.Name "enumerate" p) [e] [] pos) (qj X.K ta):=by
 intro pins s σ H R I h;refine Call_ (gj I hg hm hv (KW (cp (ha pos pins s σ H _ I h) λus s1 hq1=>?_) (d_ h1) rfl));obtain⟨vs,H1,I1,r1,q1⟩:=hq1;obtain⟨a,e,⟨xs,hq⟩,q⟩:=q1;subst e;obtain⟨u,rfl,ru⟩:=vals1 r1;cases ru;obtain⟨its,rv,pt,hz⟩:=I1.tuple hq;refine ma (show s1.heap.IsTuple a its.toArray from pt) λh' he hit hsz hk=>?_;refine MG he ?_;have I2:Inv X pins σ H1 {s1 with heap:=h'}:=I1.kept (t':=s1.toks) hk
 refine⟨s1.heap.objs.size+1,[s1.heap.objs.size+1,s1.heap.objs.size],_,_,H1,rfl,I2,sG a s1.heap.objs.size (s1.heap.objs.size+1) (K_ (Ly _)),⟨⟨_,he⟩,hit⟩,λb hb=>?_,q⟩;have hb':s1.heap.objs.size<=b:=by
  rcases J9.mp hb with z|z
  ·rw[z];exact K8 _
  ·have z:b=s1.heap.objs.size:=by simpa using z
   rw[z];exact JD _
 exact I1.qm hb' (I1.aQ.fresh hb')
noncomputable def xR(K:W.Frag)(tl:TE):TI:=λσ H R=>tl σ H λx H1=>match x with
 |.ref a=>match sq H1 a with
  |some (true,_)=>R (sT K a) H1
  |some (false,_)=>R (so K a) H1
  |none=>(∃xs,bz K H1 a xs)/\R (so K a) H1
 |_=>False
theorem Fp{l:Expr}{tl:TE}(hl:PE X l tl):PI X tg l (xR X.K tl):=by
 intro pins s σ H R I h;refine cp (hl pins s σ H _ I h) λv s1 hq2=>?_;obtain⟨x,H1,I1,r1,q1⟩:=hq2;obtain⟨a,rfl,q⟩:∃a,x=V.ref a/\(((∃xs,bI X.K H1 a xs)/\R (sT X.K a) H1)\/((∃xs,bz X.K H1 a xs)/\R (so X.K a) H1)):=by
  match x,q1 with
  |.ref a,q1 =>
   simp only at q1
   split at q1
   ·rename_i xs e;exact⟨a,rfl,.inl ⟨⟨xs,gO e⟩,q1⟩⟩
   ·rename_i xs e;exact⟨a,rfl,.inr ⟨⟨xs,gC e⟩,q1⟩⟩
   ·exact⟨a,rfl,.inr q1⟩
 cases r1;rcases q with ⟨⟨xs,hq⟩,q⟩|⟨⟨xs,hq⟩,q⟩
 ·obtain⟨its,rv,p,hz⟩:=I1.list hq;refine LY p.isList ?_;refine⟨s1.heap.objs.size,[s1.heap.objs.size],_,_,H1,rfl,I1.kept (t':=s1.toks) λb o e=>J7 _ e,mG a _,⟨_,JM _ rfl,rfl,rfl⟩,λb hb=>?_,q⟩;have e:b=s1.heap.objs.size:=by simpa using hb
  subst e;exact I1.qm (JD _) (I1.aQ.fresh (JD _))
 ·obtain⟨its,rv,p,hz⟩:=I1.tuple hq;refine L0 (show s1.heap.IsTuple a its.toArray from p) ?_;refine⟨s1.heap.objs.size,[s1.heap.objs.size],_,_,H1,rfl,I1.kept (t':=s1.toks) λb o e=>J7 _ e,kq a _,⟨_,JM _ rfl,rfl,rfl⟩,λb hb=>?_,q⟩;have e:b=s1.heap.objs.size:=by simpa using hb
  subst e;exact I1.qm (JD _) (I1.aQ.fresh (JD _))
end
noncomputable def nF(J:It)(g:TG)(tb:TS)(D:Ends)(σ:St)(H:Hp):Prop:=∃W:Nat->Nat->St->Hp->Prop,(∃m,W 0 m σ H)/\∀i m σ H,W i m σ H ->
 (J.stop i H/\D.nx σ H)\/(J.go i H/\∃N:St->Hp->Prop,(∀σ' H',N σ' H'->∃m',m'<m/\W (i+1) m' σ' H')/\∀x H',J.CW i H x H'->g x σ H' λσ2 H2=>tb {D with nx:=N,ct:=N,bk:=D.nx} σ2 H2)
theorem Ca(wi:TI)(g:TG)(tb:TS)(D:Ends)(σ:St)(H:Hp):Ez wi g tb D σ H=wi σ H λJ H1=>nF J g tb D σ H1:=rfl
noncomputable def i6(J:It)(k:Nat)(g:TG)(tc:TT)(te:TE)(Q:VK)(σ:St)(H1:Hp):Prop:=∀D,H1 D=none ->
 ∃W:Nat->Nat->List V->St->Hp->Prop,(∃m,W 0 m [] (List.replicate k none++σ) (upd H1 D (.lst [])))/\∀i m ys σ' H',W i m ys σ' H'->H' D=some (.lst ys) /\
  ((J.stop i H'/\Q (.ref D) H')\/(J.go i H'/\ys.length<sizeLine/\∀x H2,J.CW i H' x H2->g x σ' H2 λσ3 H3=>tc σ3 H3 λb H4 =>
   if b=true then te σ3 H4 λv H5=>H5 D=some (.lst ys)/\∃m',m'<m/\W (i+1) m' (ys++[v]) σ3 (upd H5 D (.lst (ys++[v])))
   else ∃m',m'<m/\W (i+1) m' ys σ3 H4))
theorem yG(wi:TI)(k:Nat)(g:TG)(tc:TT)(te:TE)(σ:St)(H:Hp)(Q:VK):iI wi k g tc te σ H Q=wi σ H λJ H1=>i6 J k g tc te Q σ H1:=rfl
section
variable {K:W.Frag} {g:TG} {tb:TS} {D:Ends} {σ:St} {H:Hp} {te:TE} {Q:VK}
theorem iZ(Pv:Nat->St->Hp->Prop)(h0:Pv 0 σ H)(hl:∀i σ H,i<=xs.length->Pv i σ H->bI K H a xs)
  (hs:∀i x σ H,xs[i]?=some x->Pv i σ H->g x σ H λσ2 H2=>tb {D with nx:=Pv (i+1),ct:=Pv (i+1),bk:=D.nx} σ2 H2) (hd:∀σ H,Pv xs.length σ H->D.nx σ H):nF (sT K a) g tb D σ H:=yA Pv h0 hl hs hd
theorem qi(Pv:Nat->St->Hp->Prop)(h0:Pv 0 σ H)(hl:∀i σ H,i<=xs.length->Pv i σ H->bz K H a xs)
  (hs:∀i x σ H,xs[i]?=some x->Pv i σ H->g x σ H λσ2 H2=>tb {D with nx:=Pv (i+1),ct:=Pv (i+1),bk:=D.nx} σ2 H2) (hd:∀σ H,Pv xs.length σ H->D.nx σ H):nF (so K a) g tb D σ H:=A1 Pv h0 hl hs hd
theorem rg{n:Nat}(Pv:Nat->St->Hp->Prop)(h0:Pv 0 σ H)
  (hs:∀i σ H,i<n->Pv i σ H->g (.int (lo+i)) σ H λσ2 H2=>tb {D with nx:=Pv (i+1),ct:=Pv (i+1),bk:=D.nx} σ2 H2) (hd:∀σ H,Pv n σ H->D.nx σ H):nF (Bo lo n) g tb D σ H:=vV Pv h0 hs hd
theorem k_(Pv:Nat->St->Hp->Prop)(h0:Pv 0 σ H)(hl:∀i σ H,i<=xs.length->Pv i σ H->bz K H a xs)
  (hs:∀i x σ H p,xs[i]?=some x->Pv i σ H->H p=none->g (.ref p) σ (upd H p (.tup [.int i,x])) λσ2 H2=>tb {D with nx:=Pv (i+1),ct:=Pv (i+1),bk:=D.nx} σ2 H2) (hd:∀σ H,Pv xs.length σ H->D.nx σ H) :
  nF (uV K a) g tb D σ H:=by
 refine⟨λi m σ H=>m=xs.length-i/\i<=xs.length/\Pv i σ H,⟨xs.length,by simp,JL _,h0⟩,?_⟩
 rintro i m σ H ⟨rfl,hi,p⟩;have q:=hl i σ H hi p;by_cases hlt:i<xs.length
 ·refine .inr ⟨⟨xs[i],xs,q,by simp[hlt]⟩,Pv (i+1),λσ' H' p'=>⟨xs.length-(i+1),by lia,rfl,hlt,p'⟩,λx H' y=>?_⟩
  obtain⟨b,y,hy,fr,rfl,rfl⟩:=y;exact hs i y σ H b (hy xs q) p fr
 ·have e:i=xs.length:=by lia
  subst e;exact .inl ⟨⟨xs,q,rfl⟩,hd σ H p⟩
theorem d5{n:Nat}(hn:n<=sizeLine)(Pv:Addr->Nat->List V->Hp->Prop)(h0:∀D,H D=none->Pv D 0 [] (upd H D (.lst [])))(hD:∀D i ys H',Pv D i ys H'->H' D=some (.lst ys)/\ys.length=i)
  (hs:∀D i ys H' (R:VK),i<n->Pv D i ys H'->(∀v H5,H5 D=some (.lst ys)->Pv D (i+1) (ys++[v]) (upd H5 D (.lst (ys++[v])))->R v H5)->te (some (.int (lo+i))::σ) H' R) (hd:∀D ys H',Pv D n ys H'->Q (.ref D) H') :
  i6 (Bo lo n) 1 (b6 0) dY te Q σ H:=by
 intro D hD0;refine⟨λi m ys σ' H'=>m=n-i/\i<=n/\Pv D i ys H'/\∃o,σ'=o::σ,⟨n,by simp,JL _,h0 D hD0,none,rfl⟩,?_⟩
 rintro i m ys σ' H' ⟨rfl,hi,p,o,rfl⟩;obtain⟨hDi,hly⟩:=hD _ _ _ _ p;refine⟨hDi,?_⟩;by_cases hlt:i<n
 ·refine .inr ⟨hlt,by lia,λx H2 y=>?_⟩
  obtain⟨rfl,rfl⟩:=y;unfold b6 dY;dsimp only;rw[if_pos rfl];exact hs D i ys H2 _ hlt p λv H5 q1 q2=>⟨q1,n-(i+1),by lia,rfl,hlt,q2,_,rfl⟩
 ·have e:i=n:=by lia
  subst e;exact .inl ⟨JD _,hd D ys H' p⟩
theorem cq(hn:xs.length<=sizeLine)(Pv:Addr->Nat->List V->Hp->Prop)(h0:∀D,H D=none->Pv D 0 [] (upd H D (.lst [])))(hD:∀D i ys H',Pv D i ys H'->H' D=some (.lst ys)/\ys.length=i)
  (hl:∀D i ys H',Pv D i ys H'->bz K H' a xs)
  (hs:∀D i ys H' x (R:VK),xs[i]?=some x->Pv D i ys H'->(∀v H5,H5 D=some (.lst ys)->Pv D (i+1) (ys++[v]) (upd H5 D (.lst (ys++[v])))->R v H5)->te (some x::σ) H' R) (hd:∀D ys H',Pv D xs.length ys H'->Q (.ref D) H') :
  i6 (so K a) 1 (b6 0) dY te Q σ H:=by
 intro D hD0;refine⟨λi m ys σ' H'=>m=xs.length-i/\i<=xs.length/\Pv D i ys H'/\∃o,σ'=o::σ,⟨xs.length,by simp,JL _,h0 D hD0,none,rfl⟩,?_⟩
 rintro i m ys σ' H' ⟨rfl,hi,p,o,rfl⟩;obtain⟨hDi,hly⟩:=hD _ _ _ _ p;have q:=hl _ _ _ _ p;refine⟨hDi,?_⟩;by_cases hlt:i<xs.length
 ·refine .inr ⟨⟨xs,xs[i],q,by simp[hlt]⟩,by lia,λx H2 y=>?_⟩
  obtain⟨rfl,y⟩:=y;unfold b6 dY;dsimp only;rw[if_pos rfl];exact hs D i ys H2 x _ (y xs q) p λv H5 q1 q2=>⟨q1,xs.length-(i+1),by lia,rfl,hlt,q2,_,rfl⟩
 ·have e:i=xs.length:=by lia
  subst e;exact .inl ⟨⟨xs,q,JD _⟩,hd D ys H' p⟩
end
namespace Ap
theorem u_(i:Nat)(σ:St)(H:Hp)(Q:VK):L2.u_ i σ H Q=∃v,σ[i]?=some (some v)/\Q v H:=rfl
theorem tC(v:V)(σ:St)(H:Hp)(Q:VK):L2.tC v σ H Q=Q v H:=rfl
theorem yK(r:R2)(ta tb:TE)(σ:St)(H:Hp)(Q:VK):L2.yK r ta tb σ H Q=ta σ H λx H1=>tb σ H1 λy H2=>r x y H2 Q:=rfl
theorem Ht(r:V->Hp->VK->Prop)(ta:TE)(σ:St)(H:Hp)(Q:VK):L2.Ht r ta σ H Q=ta σ H λx H1=>r x H1 Q:=rfl
theorem oQ(t:TE)(σ:St)(H:Hp)(Q:Bool->Hp->Prop):L2.oQ t σ H Q=t σ H λx H'=>∃k,x=.bl k/\Q k H':=rfl
theorem Gq(t:TT)(ta tb:TE)(σ:St)(H:Hp)(Q:VK):L2.Gq t ta tb σ H Q=t σ H λc H1=>if c=true then ta σ H1 Q else tb σ H1 Q:=rfl
theorem xy(t u:TT)(σ:St)(H:Hp)(Q:Bool->Hp->Prop):L2.xy t u σ H Q=t σ H λc H1=>if c=true then u σ H1 Q else Q false H1:=rfl
theorem FX(t u:TT)(σ:St)(H:Hp)(Q:Bool->Hp->Prop):L2.FX t u σ H Q=t σ H λc H1=>if c=true then Q true H1 else u σ H1 Q:=rfl
theorem x9(t:TT)(σ:St)(H:Hp)(Q:Bool->Hp->Prop):L2.x9 t σ H Q=t σ H λc H1=>Q (!c) H1:=rfl
theorem kT(r r':R2)(ta tb tc:TE)(σ:St)(H:Hp)(Q:VK):L2.kT r r' ta tb tc σ H Q=ta σ H λx H1=>tb σ H1 λy H2=>r x y H2 λz H3=>∃k,z=.bl k/\(if k=true then tc σ H3 λw' H4=>r' y w' H4 Q else Q (.bl false) H3):=rfl
theorem tK(vs:List V)(σ:St)(H:Hp)(Q:List V->Hp->Prop):L2.tK vs σ H Q=Q vs H:=rfl
theorem oz(σ:St)(H:Hp)(Q:List V->Hp->Prop):L2.oz σ H Q=Q [] H:=rfl
theorem jz(ta:TE)(tr:TA)(σ:St)(H:Hp)(Q:List V->Hp->Prop):L2.jz ta tr σ H Q=ta σ H λx H1=>tr σ H1 λxs H2=>Q (x::xs) H2:=rfl
theorem xC(t:TA)(σ:St)(H:Hp)(Q:VK):L2.xC t σ H Q=t σ H λxs H1=>xs.length<=sizeLine/\∀p,H1 p=none->Q (.ref p) (upd H1 p (.tup xs)):=rfl
theorem zL(t:TA)(σ:St)(H:Hp)(Q:VK):L2.zL t σ H Q=t σ H λxs H1=>xs.length<=sizeLine/\∀p,H1 p=none->Q (.ref p) (upd H1 p (.lst xs)):=rfl
theorem jt(sp:Sp)(dvs:List V)(E:XK)(t:TA)(σ:St)(H:Hp)(Q:VK):L2.jt sp dvs E t σ H Q=t σ H λvs H1=>sp (vs++dvs) H1 Q E:=rfl
theorem Cc(r:List V->Hp->VK->Prop)(t:TA)(σ:St)(H:Hp)(Q:VK):L2.Cc r t σ H Q=t σ H λvs H1=>r vs H1 Q:=rfl
theorem Eb(K:W.Frag)(T:String)(r:V->List V->Hp->VK->Prop)(to:TE)(t:TA)(σ:St)(H:Hp)(Q:VK):L2.Eb K T r to t σ H Q=to σ H λx H1=>FP K T x H1/\t σ H1 λxs H2=>r x xs H2 Q:=rfl
theorem Ae(K:W.Frag)(T:String)(r:V->List V->Hp->VK->Prop)(to:TE)(σ:St)(H:Hp)(Q:VK):L2.Ae K T r to σ H Q=to σ H λx H1=>FP K T x H1/\r x [] H1 Q:=rfl
theorem FW(r:V->Option Int->Option Int->Hp->VK->Prop)(te:TE)(tl th:TO)(σ:St)(H:Hp)(Q:VK):L2.FW r te tl th σ H Q=te σ H λx H1=>tl σ H1 λl H2=>th σ H2 λu H3=>r x l u H3 Q:=rfl
theorem iA(σ:St)(H:Hp)(Q:Option Int->Hp->Prop):L2.iA σ H Q=Q none H:=rfl
theorem qz(t:TE)(σ:St)(H:Hp)(Q:Option Int->Hp->Prop):L2.qz t σ H Q=t σ H λx H1=>∃i,x=.int i/\Q (some i) H1:=rfl
theorem q_(t u:TS)(D:Ends)(σ:St)(H:Hp):L2.q_ t u D σ H=t {D with nx:=u D} σ H:=rfl
theorem jD(te:TE)(g:TG)(D:Ends)(σ:St)(H:Hp):L2.jD te g D σ H=te σ H λx H1=>g x σ H1 D.nx:=rfl
theorem b6(i:Nat)(v:V)(σ:St)(H:Hp)(Q:St->Hp->Prop):L2.b6 i v σ H Q=Q (σ.set i (some v)) H:=rfl
theorem xo(to ti:TE)(t:B4)(v:V)(σ:St)(H:Hp)(Q:St->Hp->Prop):L2.xo to ti t v σ H Q=to σ H λo H1=>ti σ H1 λi H2=>t o i v H2 λH3=>Q σ H3:=rfl
theorem nM(K:W.Frag)(n:Nat)(t:wF)(v:V)(σ:St)(H:Hp)(Q:St->Hp->Prop):L2.nM K n t v σ H Q=∃a xs,v=.ref a/\bz K H a xs/\xs.length=n/\t xs σ H Q:=rfl
theorem fq(t:TG)(u:wF)(v:V)(vs:List V)(σ:St)(H:Hp)(Q:St->Hp->Prop):L2.fq t u (v::vs) σ H Q=t v σ H λσ' H'=>u vs σ' H' Q:=by
 refine propext ⟨λhq1=>?_,λh=>⟨v,vs,rfl,h⟩⟩;obtain⟨a,b,e,h⟩:=hq1
 cases e;exact h
theorem nK(σ:St)(H:Hp)(Q:St->Hp->Prop):L2.nK [] σ H Q=Q σ H:=propext ⟨λh=>h.2,λh=>⟨rfl,h⟩⟩
theorem yP(te:TE)(D:Ends)(σ:St)(H:Hp):L2.yP te D σ H=te σ H D.rt:=rfl
theorem qc(te:TE)(D:Ends)(σ:St)(H:Hp):L2.qc te D σ H=te σ H λ_ H1=>D.nx σ H1:=rfl
theorem nG(c:TT)(t u:TS)(D:Ends)(σ:St)(H:Hp):L2.nG c t u D σ H=c σ H λb H1=>if b=true then t D σ H1 else u D σ H1:=rfl
theorem oZ(D:Ends)(σ:St)(H:Hp):L2.oZ D σ H=D.nx σ H:=rfl
theorem mZ(ta:TA)(σ:St)(H:Hp)(R:It->Hp->Prop):L2.mZ ta σ H R=ta σ H λvs H1=>∃j:Int,vs=[.int j]/\-(2^62)<=j/\j<2^62/\R (Bo 0 j.toNat) H1:=rfl
theorem xR(K:W.Frag)(tl:TE)(σ:St)(H:Hp)(R:It->Hp->Prop):L2.xR K tl σ H R=tl σ H λx H1=>match x with
 |.ref a=>match sq H1 a with
  |some (true,_)=>R (sT K a) H1
  |some (false,_)=>R (so K a) H1
  |none=>(∃xs,bz K H1 a xs)/\R (so K a) H1
 |_=>False:=rfl
theorem qj(K:W.Frag)(ta:TA)(σ:St)(H:Hp)(R:It->Hp->Prop):L2.qj K ta σ H R=ta σ H λvs H1=>∃a,vs=[.ref a]/\(∃xs,bz K H1 a xs)/\R (uV K a) H1:=rfl
theorem rI(C:Int->Int->Prop)(g:Int->Int->V)(i j:Int)(H:Hp)(Q:VK):L2.rI C g (.int i) (.int j) H Q=(C i j/\Q (g i j) H):=by
 refine propext ⟨λhq2=>?_,λh=>⟨i,j,rfl,rfl,h⟩⟩;obtain⟨a,b,e1,e2,h⟩:=hq2
 cases e1;cases e2;exact h
theorem v_(g:Int->Int->V)(i j:Int)(H:Hp)(Q:VK):L2.v_ g (.int i) (.int j) H Q=Q (g i j) H:=by
 refine propext ⟨λhq3=>?_,λh=>⟨i,j,rfl,rfl,h⟩⟩;obtain⟨a,b,e1,e2,h⟩:=hq3
 cases e1;cases e2;exact h
theorem rU(g:Int->V)(i:Int)(H:Hp)(Q:VK):L2.rU g (.int i) H Q=Q (g i) H:=by
 refine propext ⟨λhq4=>?_,λh=>⟨i,rfl,h⟩⟩;obtain⟨a,e1,h⟩:=hq4
 cases e1;exact h
theorem CF(K:W.Frag)(i j:Int)(H:Hp)(Q:VK):wo K (.int i) (.int j) H Q=Q (.int (i+j)) H:=rfl
theorem Hx(K:W.Frag)(i j:Str)(H:Hp)(Q:VK):wo K (.str i) (.str j) H Q=(i.length+j.length<=sizeLine/\Q (.str (i++j)) H):=rfl
theorem Hf(i j:Int)(H:Hp)(Q:VK):G0 (.int i) (.int j) H Q=(wY i j/\Q (.int (i*j)) H):=rfl
theorem IC(i j:Int)(H:Hp)(Q:VK):CB (.int i) (.int j) H Q=Q (.bl (decide (i=j))) H:=by
 have e:decide (V.int i=V.int j)=decide (i=j):=by rw[NM];constructor<;>intro h<;>(try cases h)<;>(try rw[h])<;>rfl
 unfold CB;rw[e];exact propext ⟨λh=>h.2,λh=>⟨rfl,h⟩⟩
theorem EW(i j:Str)(H:Hp)(Q:VK):CB (.str i) (.str j) H Q=Q (.bl (decide (i=j))) H:=by
 have e:decide (V.str i=V.str j)=decide (i=j):=by rw[NM];constructor<;>intro h<;>(try cases h)<;>(try rw[h])<;>rfl
 unfold CB;rw[e];exact propext ⟨λh=>h.2,λh=>⟨rfl,h⟩⟩
theorem IJ(i j:Str)(H:Hp)(Q:VK):GV (.str i) (.str j) H Q=Q (.bl (!decide (i=j))) H:=by
 have e:decide (V.str i=V.str j)=decide (i=j):=by rw[NM];constructor<;>intro h<;>(try cases h)<;>(try rw[h])<;>rfl
 unfold GV;rw[e];exact propext ⟨λh=>h.2,λh=>⟨rfl,h⟩⟩
theorem IB(K:W.Frag)(b:Bool)(H:Hp)(k:Bool):y6 K (.bl b) H k=(k=b):=rfl
theorem Jt(CX:pJ)(P:Program)(w:World)(K:W.Frag)(mg:Str->Option Value)(base:Heap)(N:List Str)(qual:Str)(scope:Scope)(f:Addr)(cd:Value)(A:Around)(outer:List Env)(s:Shared)(H:Hp)(E:XK):(fS CX P w K mg base N qual scope f cd A outer s H E).K=K:=rfl
end Ap
noncomputable def KB(ex:List Addr)(H H':Hp):Prop:=∀b o,H b=some o->b∉ex->H' b=some o
theorem KB.refl(ex:List Addr)(H:Hp):KB ex H H:=λ_ _ e _=>e
theorem KB.trans{H1 H2:Hp}(a:KB ex H H1)(b:KB ex H1 H2):KB ex H H2:=λc o e n=>b c o (a c o e n) n
theorem KB.mono{ex':List Addr}(h:KB ex H H')(s:∀b∈ex,b∈ex'):KB ex' H H':=λb o e n=>h b o e λz=>n (s b z)
theorem KB.all(h:KB [] H H'):KB ex H H':=h.mono (by simp)
theorem KB.new(h:H p=none):KB ex H (upd H p o):=λb u e _=>by rw[aj (aq e h)];exact e
theorem KB.set(h:p∈ex):KB ex H (upd H p o):=λb u e n=>by rw[aj (λ(z:b=p)=>n (by rw[z];exact h))];exact e
theorem KB.free(h:KB ex H H'){b:Addr}(n:b∉ex)(e:H' b=none):H b=none:=by
 cases q:H b with
 |none=>rfl
 |some o=>rw[h b o q n] at e;cases e
theorem KB.IP(h:KB ex H H')(n:a∉ex)(q:bI K H a xs):bI K H' a xs:=by
 rcases q with (q|⟨o,q⟩)|q
 ·exact .inl (.inl (h _ _ q n))
 ·exact .inl (.inr ⟨o,h _ _ q n⟩)
 ·exact .inr q
theorem Co(x:α)(r:List α):bV (x::r) 0=some x:=bq (j:=0) rfl
theorem Ai(a x:α)(r:List α):bV (a::x::r) 1=some x:=bq (j:=1) rfl
theorem Iv(a b x:α)(r:List α):bV (a::b::x::r) 2=some x:=bq (j:=2) rfl
theorem IA(a b c x:α)(r:List α):bV (a::b::c::x::r) 3=some x:=bq (j:=3) rfl
theorem EE{n:Nat}{i:Int}(h0:0<=i)(h:i<n):kK n i=some i.toNat:=by unfold kK;rw[JE h0,JE h]
namespace Ap
theorem fL(K:W.Frag)(p:Addr)(i:Int)(H:Hp)(Q:VK):De K (.ref p) (.int i) H Q=(match sq H p with
  |some (_,xs)=>(match bV xs i with|some v=>Q v H|none=>False)
  |none=>∃xs v,bz K H p xs/\bV xs i=some v/\Q v H):=rfl
theorem Hy(K:W.Frag)(z:Str)(i:Int)(H:Hp)(Q:VK):De K (.str z) (.int i) H Q=(z.length<=sizeLine/\(match bV z.cps.toList i with|some c=>Q (.str ⟨#[c]⟩) H|none=>False)):=rfl
theorem setRef(p:Addr)(k:Int)(v:V)(H:Hp)(Q:Hp->Prop):xx (.ref p) (.int k) v H Q=(match H p with
  |some (.lst xs)=>(match kK xs.length k with|some j=>Q (upd H p (.lst (xs.set j v)))|none=>False)
  |_=>False):=rfl
theorem zW(K:W.Frag)(p:Addr)(H:Hp)(Q:VK):zF K [.ref p] H Q=(match sq H p with
  |some (_,ys)=>Q (.int ys.length) H
  |none=>∃ys,bz K H p ys/\Q (.int ys.length) H):=rfl
theorem Ej(K:W.Frag)(y:Str)(H:Hp)(Q:VK):zF K [.str y] H Q=(y.length<=sizeLine/\Q (.int y.length) H):=rfl
theorem Gb(i j:Int)(H:Hp)(Q:VK):Hq [.int i,.int j] H Q=Q (.int (if j<i then j else i)) H:=rfl
theorem GQ(i j:Int)(H:Hp)(Q:VK):Hw [.int i,.int j] H Q=Q (.int (if j > i then j else i)) H:=rfl
theorem IS(k:Bool)(H:Hp)(Q:VK):Hi [.bl k] H Q=Q (.int (if k=true then 1 else 0)) H:=rfl
theorem IL(i:Int)(H:Hp)(Q:VK):F_ [.int i] H Q=(i.natAbs.log2<1920/\Q (.str (toString i)) H):=rfl
theorem su(K:W.Frag)(p:Addr)(H:Hp)(Q:VK):nI K [.ref p] H Q=(match sq H p with
  |some (true,ys)=>∀l,H l=none->Q (.ref l) (upd H l (.tup ys))
  |some (false,_)=>Q (.ref p) H
  |none=>∃ys,bz K H p ys/\Q (.ref p) H):=rfl
theorem HG(K:W.Frag)(p:Addr)(lo hi:Option Int)(H:Hp)(Q:VK):HV K (.ref p) lo hi H Q=(match sq H p with
  |some (true,xs)=>∀q,H q=none->Q (.ref q) (upd H q (.lst (dJ xs lo hi)))
  |some (false,xs)=>qT K (.ref p) lo hi H Q
  |none=>qT K (.ref p) lo hi H Q):=rfl
theorem Gz(K:W.Frag)(neg:Bool)(x:V)(p:Addr)(H:Hp)(Q:VK):GO K neg x (.ref p) H Q=(match sq H p with
  |some (_,xs)=>cO x=true/\xs.all cO=true/\Q (.bl (if neg then !qI x xs else qI x xs)) H
  |none=>∃xs,bz K H p xs/\cO x=true/\xs.all cO=true/\Q (.bl (if neg then !qI x xs else qI x xs)) H):=rfl
theorem Ic(K:W.Frag)(x:V)(T:String)(H:Hp)(Q:VK):Fq K [x,.ty T] H Q=(T∈["bool","int","str","list","tuple","dict"]/\match EL H x with
  |some t=>Q (.bl (vE t T)) H
  |none=>∃t b,ic K H x t/\W.kitOne K t (.type T)=some b/\Q (.bl b) H):=rfl
theorem addRef(K:W.Frag)(a b:Addr)(H:Hp)(Q:VK):wo K (.ref a) (.ref b) H Q=(match H a,H b with
  |some (.lst xs),some (.lst ys)=>xs.length+ys.length<=sizeLine/\∀p,H p=none->Q (.ref p) (upd H p (.lst (xs++ys)))
  |some (.tup xs),some (.tup ys)=>xs≠[]/\ys≠[]/\xs.length+ys.length<=sizeLine/\∀p,H p=none->Q (.ref p) (upd H p (.tup (xs++ys)))
  |_,_=>False):=rfl
theorem DX(H:Hp)(p:Addr)(xs:List V):sq (upd H p (.lst xs)) p=some (true,xs):=az ae
theorem A9(H:Hp)(p:Addr)(xs:List V):sq (upd H p (.tup xs)) p=some (false,xs):=aC ae
theorem AX(H:Hp)(p:Addr)(o:HO):upd H p o p=some o:=ae
end Ap
theorem ax{t u:TS}{D:Ends}(h:∀N,N=u D->t {D with nx:=N} σ H):q_ t u D σ H:=h _ rfl
structure QE (X:Cx) (e:Expr) (t:TE):Prop where h:PE X e t
structure QT (X:Cx) (e:Expr) (t:TT):Prop where h:PT X e t
structure QW (X:Cx) (e:Expr) (t:TT):Prop where h:PW X e t
structure QA (X:Cx) (es:List Expr) (t:TA):Prop where h:PA X es t
structure QS (X:Cx) (st:Stmt) (t:TS):Prop where h:PS X st t
structure QB (X:Cx) (sts:List Stmt) (t:TS):Prop where h:rK X sts t
structure QI (X:Cx) (tg it:Expr) (t:TI):Prop where h:PI X tg it t
structure QG (X:Cx) (e:Expr) (t:TG):Prop where h:PG X e t
structure Ib (X:Cx) (es:List Expr) (t:wF):Prop where h:GU X es t
structure QO (X:Cx) (e:Option Expr) (t:TO):Prop where h:PO X e t
structure Hc (X:Cx) (es:List Expr) (t:TT):Prop where h:FN X es t
namespace Z
noncomputable def sim(b:Expr):Bool:=match b with
 |.Name .. |.Constant .. |.Call .. |.BinOp .. |.Subscript .. |.Attribute .. |.UnaryOp .. |.Compare .. |.IfExp ..=>true
 |_=>false
theorem Jc(h:sim b=true):uj b:=by
 cases b<;>first | (intro _ _;rfl)|cases h
noncomputable def Ji(b:Expr):Bool:=match b with
 |.Name .. |.Call .. |.Subscript .. |.Attribute ..=>true
 |_=>false
theorem ptr(h:Ji b=true):∀whole,isTrue b env whole=(do let v <- whole;standAt b.pos;holding [v] (truthy v)):=by
 cases b<;>first | (intro _;rfl)|cases h
noncomputable def HS(b:Expr):Bool:=match b with
 |.ListComp .. |.SetComp .. |.DictComp ..=>false
 |_=>true
theorem I_{tg:Option Expr}{l:Nat}(h:HS b=true):swapsWith b tg l env=pure false:=by
 cases b<;>first|rfl|cases h
section
variable {X:Cx}
theorem bf(K:W.Frag)(hK:X.K=K):dc X (binaryOp .Add) (wo K):=by subst hK;exact BN
theorem Ik(K:W.Frag)(hK:X.K=K){k:Nat}(hu:k<cLine):dc X (compareOp .In) (GO K false):=by subst hK;exact Ep hu
theorem aM(K:W.Frag)(hK:X.K=K){k:Nat}(hu:k<cLine):vm X (De K):=by subst hK;exact Js hu
theorem wu(K:W.Frag)(hK:X.K=K):vL X (HV K):=by subst hK;exact BD
theorem cJ(K:W.Frag)(hK:X.K=K):bu X (.builtin "len") (zF K):=by subst hK;exact wb
theorem Dx(K:W.Frag)(hK:X.K=K):bu X (.builtin "len") (λxs H Q=>∃x n,xs=[x]/\Gw K x H n/\Q (.int n) H):=by subst hK;exact i9
theorem HA(K:W.Frag)(hK:X.K=K):bu X (.builtin "isinstance") (Fq K):=by subst hK;exact vD
theorem b_(K:W.Frag)(hK:X.K=K):bu X (.type "tuple") (nI K):=by subst hK;exact pR
theorem CG(K:W.Frag)(hK:X.K=K)(hc:X.calm=true):bu X (.builtin "sum") (λxs H Q=>∃(p:Addr) (ns:List Int),xs=[.ref p]/\bI K H p (ns.map V.int)/\Q (.int ns.sum) H):=by subst hK;exact mR hc
theorem y8(K:W.Frag)(hK:X.K=K):sZ X "str.join" (rJoin K):=by subst hK;exact AS
end
section
variable {X:Cx} {a b c e o:Expr} {es:List Expr} {ta tb tc te to:TE} {t:TA} {pos p p2:Pos} {tA tB':TT} {rest:List Expr} {x:Str}
theorem int{i:Int}:QE X (.Constant (.int i) j pos) (tC (.int i)):=⟨zq⟩
theorem bl{i:Bool}:QE X (.Constant (.bool i) j pos) (tC (.bl i)):=⟨CM⟩
theorem aR:QE X (.Constant .none j pos) (tC .aR):=⟨yB⟩
theorem str{i:Str}:QE X (.Constant (.str i) j pos) (tC (.str i)):=⟨zr⟩
theorem v(i:Nat)(hN:autoParam (X.N[i]?=some x) ℜ0)(hv:autoParam (GS X.env.scope x) ℜ4)(hd:autoParam ((x ==("__debug__":Str))=false) ℜ1)
  (fK:autoParam ((x ==("__classdict__":Str))=false) ℜ1):QE X (.Name x pos) (u_ i):=⟨pv i hN hv hd fK⟩
theorem glob{w:V}{u:Value}(hg:Gl X x)(hm:X.mg x=some u)(r:RelV w u)(hd:autoParam ((x ==("__debug__":Str))=false) ℜ1):QE X (.Name x pos) (tC w):=⟨sS hg hm r hd⟩
theorem op{o:Operator}{r:R2}(ho:dc X (binaryOp o) r)(ha:QE X a ta)(hb:QE X b tb):QE X (.BinOp a o b pos) (yK r ta tb):=⟨He ho ha.h hb.h⟩
theorem un{o:UnaryOp}{r:V->Hp->VK->Prop}(ho:HU X (unaryOp o) r)(ha:QE X a ta):QE X (.UnaryOp o a pos) (Ht r ta):=⟨GD ho ha.h⟩
theorem cmp{o:CmpOp}{r:R2}(ho:dc X (compareOp o) r)(ha:QE X a ta)(hb:QE X b tb)(hm:autoParam (behindInMarks o b=false) ℜ0):QE X (.Compare a [o] [b] pos) (yK r ta tb):=⟨A8 ho ha.h hb.h hm⟩
theorem chain{o o':CmpOp}{r r':R2}(ho:dc X (compareOp o) r)(ho':dc X (compareOp o') r')(ha:QE X a ta)(hb:QE X b tb)(hc:QE X c tc)(hm:autoParam (lastMarks [o,o'] [b,c]=false) ℜ5):QE X (.Compare a [o,o'] [b,c] pos) (kT r r' ta tb tc):=⟨xT ho ho' ha.h hb.h hc.h hm⟩
theorem Bf(hc:QT X c tA)(ha:QE X a ta)(hb:QE X b tb):QE X (.IfExp c a b pos) (Gq tA ta tb):=⟨zk hc.h ha.h hb.h⟩
theorem slice{r:V->Option Int->Option Int->Hp->VK->Prop}{lo hi:Option Expr}{tl th:TO}(hr:vL X r)(he:QE X e te)(hl:QO X lo tl)(hu:QO X hi th):QE X (.Subscript e (.Slice lo hi none p2) pos) (FW r te tl th):=⟨zc hr he.h hl.h hu.h⟩
theorem Aj:QO X none iA:=⟨An⟩
theorem uF(he:QE X e te):QO X (some e) (qz te):=⟨BY he.h⟩
theorem ix{r:R2}(hr:vm X r)(ha:QE X a ta)(hb:QE X b tb)(hs:autoParam (sim b=true) ℜ0):QE X (.Subscript a b pos) (yK r ta tb):=⟨CS hr ha.h hb.h (Jc hs)⟩
theorem tup{k:Nat}(h:QA X es t):QE X (.Tuple es k pos) (xC t):=⟨EI h.h⟩
theorem lst(h:QA X es t):QE X (.List es pos) (zL t):=⟨DL h.h⟩
theorem nil:QA X [] oz:=⟨yW⟩
theorem cons(ha:QE X e te)(hr:QA X es t)(h:autoParam (fT e=true) ℜ0):QA X (e::es) (jz te t):=⟨IM ha.h hr.h h⟩
theorem consts{vs:List V}(h:tB es=some vs):QA X es (tK vs):=⟨mK h⟩
theorem cb{id:String}(hc:bu X (.builtin id) r)(hg:Gl X x)(hm:X.mg x=none)(hv:bootBuiltins x=some (.builtin id))(ha:QA X (e::es) t)(h1:autoParam (fT e=true) ℜ0)(h2:autoParam (es.all fT=true) ℜ0)(hn:autoParam (x≠"__name__") ℜ1)(hdb:autoParam ((x ==("__debug__":Str))=false) ℜ1):
  QE X (.Call (.Name x p) (e::es) [] pos) (Cc r t):=⟨Gd hc hg hm hv ha.h h1 h2 hn hdb⟩
theorem ct{T:String}(hc:bu X (.type T) r)(hg:Gl X x)(hm:X.mg x=none)(hv:bootBuiltins x=some (.type T))(ha:QA X (e::es) t)(h1:autoParam (fT e=true) ℜ0)(h2:autoParam (es.all fT=true) ℜ0)(hn:autoParam (x≠"__name__") ℜ1)(hdb:autoParam ((x ==("__debug__":Str))=false) ℜ1):
  QE X (.Call (.Name x p) (e::es) [] pos) (Cc r t):=⟨G_ hc hg hm hv ha.h h1 h2 hn hdb⟩
theorem Jr{T:String}(hg:Gl X x)(hm:X.mg x=none)(hv:bootBuiltins x=some (.type T))(hn:autoParam (x≠"__name__") ℜ1)(hd:autoParam ((x ==("__debug__":Str))=false) ℜ1):QE X (.Name x pos) (tC (.ty T)):=⟨Du hg hm hv hn hd⟩
theorem fn{CX:pJ}{k:Nat}{ps:List Str}{E:XK}(F:au X.prog X.w X.K X.mg X.base CX k x ps sp)(hr:bM k X.A)(hg:Gl X x)(hx:Passes CX X E)(ha:QA X (e::es) t)(h1:autoParam (fT e=true) ℜ0)(h2:autoParam (es.all fT=true) ℜ0)(hdb:autoParam ((x ==("__debug__":Str))=false) ℜ1):
  QE X (.Call (.Name x p) (e::es) [] pos) (jt sp [] E t):=⟨HC F hr hg hx ha.h h1 h2 hdb⟩
theorem bm(K:W.Frag)(hK:X.K=K){name:Str}{apos:Pos}{T id:String}{r:V->List V->Hp->VK->Prop}(pa:PlainAttrs T)(slot:Slot T name id)(hty:typeOf (.builtin id)=pure (.type "method_descriptor"))(hm:sZ X id r)(ho:QE X o to)(ha:QA X (e::es) t)
  (hbase:autoParam (attributeBase o name X.env (eval o X.env)=eval o X.env) ℜ0) (hline:autoParam ((apos.endLine == pos.line)=true) ℜ0) (h:autoParam ((e::es).all fT=true) ℜ0) (hl:autoParam ((e::es).length<30) ℜ1):QE X (.Call (.Attribute o name apos) (e::es) [] pos) (Eb K T r to t):=by
 subst hK;exact⟨ET pa slot hty hm ho.h ha.h hbase hline h hl⟩
theorem comp{wi:TI}{tc:TT}(S:aG osc ON scope own N)(hosc:X.env.scope=osc)(hON:X.N=ON)(hc:X.calm=true)(hi:QI X tg iter wi)
  (hg:∀C s H fp,QG (aS X scope N C s H fp) tg g) (ht:∀C s H fp,Hc (aS X scope N C s H fp) ifs tc) (he:∀C s H fp,QE (aS X scope N C s H fp) elt te) (hs:autoParam (∀x,foldedSetIterable iter X.env x=pure x) ℜ3) :
  QE X (.ListComp elt [⟨tg,iter,ifs,0⟩] scope pos) (iI wi own.length g tc te):=⟨AA S hosc hON hc hi.h (λC s H fp=>(hg C s H fp).h) (λC s H fp=>(ht C s H fp).h) (λC s H fp=>(he C s H fp).h) hs⟩
theorem aZ{o:CmpOp}{r:R2}(ho:dc X (compareOp o) r)(ha:QE X a ta)(hb:QE X b tb)(hm:autoParam (behindInMarks o b=false) ℜ0):QT X (.Compare a [o] [b] pos) (oQ (yK r ta tb)):=⟨A_ ho ha.h hb.h hm⟩
theorem tw(h:QW X e tA):QT X e tA:=⟨h.h.pt⟩
theorem EZ(ha:QT X a tA):QT X (.UnaryOp .Not a pos) (x9 tA):=⟨Es ha.h⟩
noncomputable def C4(K:W.Frag)(ta:TE):TT:=λσ H Q=>ta σ H λx H'=>∃k,y6 K x H' k/\Q k H'
theorem uZ(K:W.Frag)(hK:X.K=K)(ha:QE X a ta)(he:autoParam (Ji a=true) ℜ0):QT X a (C4 K ta):=by subst hK;exact⟨yJ ha.h (ptr he)⟩
theorem mV(ha:QT X a tA):QW X (.BoolOp .And [a] pos) tA:=⟨C6 ha.h⟩
theorem HR(ha:QT X a tA):QW X (.BoolOp .Or [a] pos) tA:=⟨Fe ha.h⟩
theorem vn(ha:QT X a tA)(hb:QW X (.BoolOp .And (b::rest) pos) tB'):QW X (.BoolOp .And (a::b::rest) pos) (xy tA tB'):=⟨Dl ha.h hb.h⟩
theorem Ja(ha:QT X a tA)(hb:QW X (.BoolOp .Or (b::rest) pos) tB'):QW X (.BoolOp .Or (a::b::rest) pos) (FX tA tB'):=⟨G5 ha.h hb.h⟩
theorem aT(hN:X.N.Nodup)(hi:X.N[i]?=some x)(hx:Loc X.env.scope x)(hf:autoParam (X.fn x=true\/X.env.scope.names.lookup x=some .local) ℜ2):QG X (.Name x pos) (b6 i):=⟨BR hN hi hx hf⟩
theorem ll(K:W.Frag)(hK:X.K=K){k n:Nat}{tg:wF}(hc:X.calm=true)(h:Ib X es tg)(hn:autoParam ((assignEach es X.env).length=n) ℜ0)(hst:autoParam ((assignEach es X.env).findIdx? (·.1)=none) ℜ0):QG X (.Tuple es k pos) (nM K n tg):=by subst hK;exact⟨Dm hc h.h hn hst⟩
theorem gh:Ib X [] nK:=⟨BL⟩
theorem bG{u:wF}(h1:QG X e g)(h2:Ib X es u)(hs:autoParam ((assignEach (e::es) X.env).map (·.2)=assign e X.env::(assignEach es X.env).map (·.2)) ℜ0):Ib X (e::es) (fq g u):=⟨zA h1.h h2.h hs⟩
theorem z_{i:Expr}{ti:TE}(ho:QE X o to)(hi:QE X i ti)
  (ha:autoParam (∀v,assign (.Subscript o i pos) X.env v=(do
   let ov <- holding [v] (eval o X.env)
   let iv <- holding [v,ov] (eval i X.env)
   standAt pos
   holding [v,ov,iv] (setItem ov iv v)
   release [v,ov,iv] [])) ℜ3):QG X (.Subscript o i pos) (xo to ti xx):=⟨Ff ho.h hi.h uset ha⟩
theorem vW{ta:TA}(hg:Gl X "range")(hm:X.mg "range"=none)(ha:QA X [a] ta)(h:autoParam (fT a=true) ℜ0):QI X tg (.Call (.Name "range" p) [a] [] pos) (mZ ta):=⟨rh hg hm ha.h h⟩
theorem enum(K:W.Frag)(hK:X.K=K){k:Nat}{tp:Pos}{ta:TA}(hg:Gl X "enumerate")(hm:X.mg "enumerate"=none)(ha:QA X [e] ta)(h1:autoParam (fT e=true) ℜ0):QI X (.Tuple es k tp) (.Call (.Name "enumerate" p) [e] [] pos) (qj K ta):=by subst hK;exact⟨Be hg hm ha.h h1⟩
theorem any(K:W.Frag)(hK:X.K=K){l:Expr}{tl:TE}(hl:QE X l tl):QI X tg l (xR K tl):=by subst hK;exact⟨Fp hl.h⟩
theorem lZ:Hc X [] dY:=⟨B1⟩
end
section
variable {X:Cx} {e o tg:Expr} {te to:TE} {st:Stmt} {sts xs ys:List Stmt} {t u:TS} {pos pos':Pos} {x:Str}
theorem bH:QB X [] oZ:=⟨Ax⟩
theorem aA(h:QS X st t):QB X [st] t:=⟨AZ h.h⟩
theorem ao(h:QS X st t)(h2:QB X sts u):QB X (st::sts) (q_ t u):=⟨yV h.h h2.h⟩
theorem set(hN:X.N.Nodup)(hi:X.N[i]?=some x)(hx:Loc X.env.scope x)(he:QE X e te)(hs:autoParam (HS e=true) ℜ0)(hf:autoParam (X.fn x=true\/X.env.scope.names.lookup x=some .local) ℜ2):
  QS X (.Assign [.Name x pos'] e pos) (jD te (b6 i)):=⟨Fi hN hi hx he.h (I_ hs) hf⟩
theorem setC{p2:Pos}{wi:TI}(hN:X.N.Nodup)(hj:X.N[j]?=some x)(hx:Loc X.env.scope x)(S:aG osc ON scope own N)(hosc:X.env.scope=osc)(hON:X.N=ON)(hc:X.calm=true)(hi:QI X tg iter wi)
  (hg:∀C s H fp,QG (aS X scope N C s H fp) tg g) (ht:∀C s H fp,Hc (aS X scope N C s H fp) ifs tc) (he:∀C s H fp,QE (aS X scope N C s H fp) elt te)
  (hsw:autoParam (swapsWith (.ListComp elt [⟨tg,iter,ifs,0⟩] scope p2) (some (.Name x pos')) pos.line X.env=pure true) ℜ0)
  (hf:autoParam (X.fn x=true\/X.env.scope.names.lookup x=some .local) ℜ2) (hs:autoParam (∀x,foldedSetIterable iter X.env x=pure x) ℜ3) :
  QS X (.Assign [.Name x pos'] (.ListComp elt [⟨tg,iter,ifs,0⟩] scope p2) pos) (jD (iI wi own.length g tc te) (b6 j)):=⟨qP hN hj hx S hosc hON hc hi.h (λC s H fp=>(hg C s H fp).h) (λC s H fp=>(ht C s H fp).h) (λC s H fp=>(he C s H fp).h) hsw hf hs⟩
theorem asg(he:QE X e te)(hg:QG X tg g)(hs:autoParam (swapsWithSole [tg] e pos.line X.env=pure false) ℜ0)(hw:autoParam (swappedStores [tg] e X.env=pure none) ℜ0)
  (h1:autoParam ((assignEach [tg] X.env).map (·.2)=[assign tg X.env]) ℜ0):QS X (.Assign [tg] e pos) (jD te g):=⟨DH he.h hg.h hs hw h1⟩
theorem ret(he:QE X e te):QS X (.Return (some e) pos) (yP te):=⟨Et he.h⟩
theorem expr(he:QE X e te)(hs:autoParam (HS e=true) ℜ0):QS X (.Expr e pos) (qc te):=⟨Bg he.h (I_ hs)⟩
theorem dA{c:Expr}(hc:QT X c tc)(ha:QB X xs t)(hb:QB X ys u):QS X (.If c xs ys pos) (nG tc t u):=⟨HM hc.h ha.h hb.h⟩
theorem lg{wi:TI}(hp:PassesOwn (model X.prog X.w) X.A X.env X.xe)(hc:X.calm=true)(hi:QI X tg iter wi)(hg:QG X tg g)(hb:QB X xs t)(hs:autoParam (∀x,foldedSetIterable iter X.env x=pure x) ℜ3):QS X (.For tg iter xs [] pos) (Ez wi g t):=⟨E7 hp hc hi.h hg.h hb.h hs⟩
theorem ia{c:Expr}(hp:PassesOwn (model X.prog X.w) X.A X.env X.xe)(hc:QT X c tc)(hb:QB X xs t):QS X (.While c xs [] pos) (xE tc t):=⟨wM hp hc.h hb.h⟩
end
end Z
namespace Ap
theorem C4(K:W.Frag)(ta:TE)(σ:St)(H:Hp)(Q:Bool->Hp->Prop):L2.Z.C4 K ta σ H Q=ta σ H λx H'=>∃k,y6 K x H' k/\Q k H':=rfl
end Ap
theorem HasFn.eW{ps:List Str}{k:Nat}(F:HasFn K mg x st ps)(S:ay N ps (af st))(len:∀vs H Q E,sp vs H Q E->vs.length=ps.length)
  (hbody:∀(f:Addr) (cdv:Value) (A:Around) (outer:List Env) (s:Shared) (H:Hp) (vs:List V) (Q:VK) (E:XK),bM k (A.deeper (envOfC x (af st) s.heap.objs.size f cdv))->sp vs H Q E ->
   ∃t,QB (fS aY P w K mg base N x (af st) f cdv A outer s H E).qG (aU st) t/\t {nx:=λ_ H'=>Q .aR H',rt:=Q} (start N vs) H):au P w K mg base aY (k+1) x ps sp:=
 F.ok S len λf cdv A outer s H vs Q E hr h=>let ⟨t,q,r⟩:=hbody f cdv A outer s H vs Q E hr h;⟨t,q.h,r⟩
theorem AQ{ps:List Str}{k:Nat}(F:lW K x x st f fd)(S:ay N ps (af st))(len:∀vs H Q E,sp vs H Q E->vs.length=ps.length)
  (hbody:∀(cdv:Value) (A:Around) (outer:List Env) (s:Shared) (H:Hp) (vs:List V) (Q:VK) (E:XK),bM k (A.deeper (envOfC x (af st) s.heap.objs.size f cdv))->sp vs H Q E ->
   ∃t,QB (fS aY P w K mg base N x (af st) f cdv A outer s H E).qG (aU st) t/\t {nx:=λ_ H'=>Q .aR H',rt:=Q} (start N vs) H):cN P w K mg base aY (k+1) f fd ps sp:=
 F.ok S len λcdv A outer s H vs Q E hr h=>let ⟨t,q,r⟩:=hbody cdv A outer s H vs Q E hr h;⟨t,q.h,r⟩
noncomputable def Jd(e:Addr)(cls:Value)(d:Option Addr)(h:Heap):Prop:=∃o vs,h.get? e=some o/\o.cls=cls/\o.dict=d/\o.data=.fields vs
noncomputable def Io(c:Addr)(n:Nat)(h:Heap):Prop:=∃(its:List Value) (m:Nat),h.get? c=some {cls:=.type "list",data:=.seq its.toArray m}/\its.length=n/\∀v∈its,∃(i:Int) (t:Tok),v=.int i t/\0<=i
inductive T where
 |il (n:Nat)|aR|bl (b:Bool)|int (i:Int)|str (x:Str)|tup (ts:List T)|lst (ts:List T)|Jg (ts:List T)|mE (lo hi:Int)|Jf (ts:List T)|Jk (ks:List Key) (ts:List T)|exc (c:Value) (f:Option (Str×Int))|adr (a:Addr)|ins (a c:Addr) (ks:List Str) (ts:List T)
variable{u:T}{ts ys:List T}
abbrev lX:=Addr->Prop
noncomputable def FR(K:W.Frag)(a:Addr)(xs:List V):Prop:=∃(o:Obj) (its:Array Value) (n:Nat),K.lookup a=some o/\o.cls=.type "tuple"/\o.data=.seq its n/\its.size<=sizeLine/\Vals xs its.toList
noncomputable def Jq(K:W.Frag)(a:Addr)(xs:List V):Prop:=∃(o:Obj) (its:Array Value) (n:Nat),K.lookup a=some o/\o.cls=.type "list"/\o.dict=none/\o.data=.seq its n/\its.size<=sizeLine/\Vals xs its.toList
noncomputable def LB(K:W.Frag)(H:Hp)(B:lX)(a:Addr)(xs:List V):Prop:=(¬ B a/\Rd H a (.lst xs))\/Jq K a xs
mutual
inductive Rep (K:W.Frag) (H:Hp) (B:lX):V->T->Prop
 |aR:Rep K H B .aR .aR
 |bl (b:Bool):Rep K H B (.bl b) (.bl b)
 |int (i:Int):Rep K H B (.int i) (.int i)
 |str (x:Str):Rep K H B (.str x) (.str x)
 |tup {a:Addr} {vs:List V} {ts:List T} (n:¬ B a) (h:H a=some (.tup vs)) (r:cU K H B vs ts):Rep K H B (.ref a) (.tup ts)
 |Jf {a:Addr} {vs:List V} {ts:List T} (h:FR K a vs) (r:cU K H B vs ts):Rep K H B (.ref a) (.Jf ts)
 |lst {a:Addr} {vs:List V} {ts:List T} (n:¬ B a) (h:H a=some (.lst vs)) (r:cU K H B vs ts):Rep K H B (.ref a) (.lst ts)
 |Jg {a:Addr} {vs:List V} {ts:List T} (h:LB K H B a vs) (r:cU K H B vs ts):Rep K H B (.ref a) (.Jg ts)
 |mE {a:Addr} {lo hi:Int} (n:¬ B a) (h:H a=some (.mE lo hi)):Rep K H B (.ref a) (.mE lo hi)
 |Jk {a:Addr} {ks:List Key} {vs:List V} {ts:List T} (n:¬ B a) (h:Rd H a (.dK (ks.zip vs))) (l:ks.length=vs.length) (r:cU K H B vs ts):Rep K H B (.ref a) (.Jk ks ts)
 |exc {a:Addr} {c:Value} (n:¬ B a) (h:H a=some (.ext (Jd a c none))):Rep K H B (.ref a) (.exc c none)
 |Jw {a d:Addr} {c:Value} {x:Str} {i:Int} (n:¬ B a) (h:H a=some (.ext (Jd a c (some d)))) (m:¬ B d) (g:H d=some (.xd [(x,.int i)])):Rep K H B (.ref a) (.exc c (some (x,i)))
 |il {a:Addr} {n:Nat} (m:¬ B a) (h:H a=some (.ext (Io a n))):Rep K H B (.ref a) (.il n)
 |adr (a:Addr):Rep K H B (.ref a) (.adr a)
 |ins {a dx c:Addr} {ks:List Str} {vs:List V} {ts:List T} (n:¬ B a) (h:H a=some (.ins c dx (ks.zip vs))) (l:ks.length=vs.length) (r:cU K H B vs ts):Rep K H B (.ref a) (.ins a c ks ts)
inductive cU (K:W.Frag) (H:Hp) (B:lX):List V->List T->Prop
 |nil:cU K H B [] []
 |cons {v:V} {t:T} {vs:List V} {ts:List T} (h:Rep K H B v t) (r:cU K H B vs ts):cU K H B (v::vs) (t::ts)
end
section
variable {K:W.Frag} {H:Hp} {B:lX} {v:V}
theorem cU.IQ{vs:List V}(h:cU K H B vs []):vs=[]:=by cases h;rfl
theorem cU.CY{vs:List V}{t:T}(h:cU K H B vs (t::ts)):∃v ws,vs=v::ws/\Rep K H B v t/\cU K H B ws ts:=by cases h with|cons h r=>exact⟨_,_,rfl,h,r⟩
end
theorem Paired.x8{β:Type}{P:α->β->Prop}{ys:List β}(h:Paired P [] ys):ys=[]:=by cases h;rfl
theorem Paired.gX{β:Type}{P:α->β->Prop}{x:α}{xs:List α}{ys:List β}(h:Paired P (x::xs) ys):∃y zs,ys=y::zs/\P x y/\Paired P xs zs:=by cases h with|cons h r=>exact⟨_,_,rfl,h,r⟩
section
variable {K:W.Frag} {H H':Hp} {B B':lX}
theorem cU.length{vs:List V}(r:cU K H B vs ts):vs.length=ts.length:=by
 induction ts generalizing vs with
 |nil=>obtain rfl:=r.IQ;rfl
 |cons t ts ih=>obtain⟨v,ws,rfl,_,r⟩:=r.CY;exact Kt (·+1) (ih r)
theorem cU.get{vs:List V}{i:Nat}{t:T}(r:cU K H B vs ts)(e:ts[i]?=some t):∃v,vs[i]?=some v/\Rep K H B v t:=by
 induction ts generalizing vs i with
 |nil=>cases e
 |cons u ts ih =>
  obtain⟨v,ws,rfl,h,r⟩:=r.CY
  cases i with
  |zero=>cases e;exact⟨_,rfl,h⟩
  |succ i=>exact ih (vs:=ws) (i:=i) r e
end
noncomputable def mP:T->Bool
 |.aR|.bl _|.int _|.str _=>true
 |_=>false
inductive Sl where
 |un|tr (t:T)|bx (c:T)|pb (c:T)
abbrev Mu:=List Sl
inductive R where
 |tr (t:T)|br (i:Nat)|fr (c:T)
structure Fx where
 K:W.Frag
 H0:Hp
 P:Nat->Option Addr
 Bc:lX
 bh:∀b,Bc b->∃o,H0 b=some o
 G:Addr->Option HO
noncomputable def more(B:lX)(a:Addr):lX:=λb=>b=a\/B b
abbrev UE:=Mu->(R->Mu->Prop)->Prop
abbrev UT:=Mu->(Bool->Mu->Prop)->Prop
abbrev UA:=Mu->(List R->Mu->Prop)->Prop
structure Ed where
 nx:Mu->Prop
 rt:R->Mu->Prop
 bk:Mu->Prop:=λ_=>False
 ct:Mu->Prop:=λ_=>False
abbrev US:=Ed->Mu->Prop
namespace Y
noncomputable def CK:T->T->Bool
 |.aR,.aR=>true
 |.bl a,.bl b=>a == b
 |.bl a,.int b=>(if a then 1 else 0) == b
 |.int a,.bl b=>a ==(if b then 1 else 0)
 |.int a,.int b=>a == b
 |.str a,.str b=>a == b
 |_,_=>false
theorem G8{B:lX}{x y:V}{t:T}(h1:Rep K H B x t)(h2:Rep K H B y u)(f1:mP t=true)(f2:mP u=true):cO x=true/\cO y=true/\wC x y=CK t u:=by
 cases h1<;>first | (cases f1;done) | (cases h2<;>first | (cases f2;done)|exact⟨rfl,rfl,rfl⟩)
noncomputable def Cp(K:W.Frag)(neg:Bool):R2:=λx y H Q=>∃a b xs ys,x=.ref a/\y=.ref b/\((bI K H a xs/\bI K H b ys)\/(bz K H a xs/\bz K H b ys))/\xs.all cO=true/\ys.all cO=true /\
 ∀c,c=(xs.length == ys.length && (List.range (min xs.length ys.length)).all λj=>match xs[j]?,ys[j]? with|some x,some y=>wC x y|_,_=>true)->Q (.bl (if neg then !c else c)) H
theorem EV(hu:X.A.units<cLine):dc X (compareOp .Eq) (Cp X.K false):=by
 intro pins s σ H x y v u Q I rx ry h;obtain⟨a,b,xs,ys,rfl,rfl,hq,fx,fy,q⟩:=h
 cases rx;cases ry
 have item:∀(its its2:List Value),Vals xs its->Vals ys its2->∀j (h1:j<its.toArray.size) (h2:j<its2.toArray.size),SeqAt.EqAt X.A.in1 s its.toArray[j] its2.toArray[j] (match xs[j]?,ys[j]? with|some x,some y=>wC x y|_,_=>true):=λits its2 r1 r2 j h1 h2=>by
  have l1:=r1.length;have l2:=r2.length;rw[J8] at h1 h2;obtain⟨u1,e1,g1⟩:=r1.get (i:=j) (x:=xs[j]) (Jx (by lia))
  obtain⟨u2,e2,g2⟩:=r2.get (i:=j) (x:=ys[j]) (Jx (by lia))
  rw[Jx (show j<xs.length by lia),Jx (show j<ys.length by lia)]
  have z1:its.toArray[j]=u1:=by
   rw[Jx h1] at e1;simpa using e1
  have z2:its2.toArray[j]=u2:=by
   rw[Jx h2] at e2;simpa using e2
  rw[z1,z2];exact nk g1 g2 (Lc.mp fx _ (JN _)) (Lc.mp fy _ (JN _))
 rcases hq with ⟨ha,hb⟩|⟨ha,hb⟩
 ·obtain⟨its,r1,p1,_⟩:=I.list ha;obtain⟨its2,r2,p2,_⟩:=I.list hb;have l1:=r1.length;have l2:=r2.length;by_cases e:xs.length=ys.length
  ·refine SeqAt.eq_listAt p1.isList p2.isList (by rw[J8,J8];lia) hu (item its its2 r1 r2) ⟨.bl _,H,I,rfl,q _ ?_⟩
   rw[J8,<- l1,<- e,L1,Kw,O5]
  ·refine NR p1.isList p2.isList (by rw[J8,J8,ND];lia) hu ⟨.bl _,H,I,rfl,q _ ?_⟩
   rw[Ka.mpr e,Np]
 ·obtain⟨its,r1,p1,_⟩:=I.tuple ha;obtain⟨its2,r2,p2,_⟩:=I.tuple hb;have l1:=r1.length;have l2:=r2.length;refine SeqAt.eq_tupleAt p1 p2 hu (item its its2 r1 r2) ⟨.bl _,H,I,rfl,q _ ?_⟩;rw[J8,J8,<- l1,<- l2,Bool.and_comm];rfl
noncomputable def HE(K:W.Frag):R2:=λx y H Q=>CB x y H Q\/Cp K false x y H Q
theorem Dk(K:W.Frag)(hK:X.K=K)(hu:X.A.units<cLine):dc X (compareOp .Eq) (HE K):=by subst hK;exact CI.or (EV hu)
theorem gY:∀(n:Nat) (acc:List Value) (k:Nat),acc.length=n->(∀j v,acc[j]?=some v->∃t,v=Value.int (lo+((k+j:Nat):Int)) t)->Vals ((List.range' k n).map λk=>V.int (lo+(k:Nat))) acc
 |0,acc,k,h,_=>by cases acc with|nil=>exact .nil|cons a b=>cases h
 |n+1,[],k,h,_=>by cases h
 |n+1,a::acc,k,h,g=>by
  rw[Ld,Kg];refine .cons ?_ (gY n acc (k+1) (by simpa using h) λj v e=>?_)
  ·obtain⟨t,e⟩:=g 0 a rfl;exact⟨t,by simpa using e⟩
  ·obtain⟨t,e2⟩:=g (j+1) v (by simpa using e)
   exact⟨t,by rw[e2];congr 2;lia⟩
noncomputable def AB:List V->Hp->VK->Prop:=λxs H Q=>(∃j,xs=[.int j]/\∀p,H p=none->Q (.ref p) (upd H p (.mE 0 j)))\/(∃i j,xs=[.int i,.int j]/\∀p,H p=none->Q (.ref p) (upd H p (.mE i j)))
theorem qB:bu X (.type "range") AB:=by
 intro pins s σ H xs us Q I r h;rcases h with ⟨j,rfl,q⟩|⟨i,j,rfl,q⟩
 ·obtain⟨u,rfl,t,rfl⟩:=vals1 r;refine call_range_1 ?_;exact⟨.ref s.heap.objs.size,_,I.laid (o:=.mE 0 j) (λb ob q=>J7 _ q) (JD _) (show b9 X.prog X.w _ _ _ (.mE 0 j) from⟨_,_,_,JM _ rfl⟩),rfl,q _ (I.aQ.fresh (JD _))⟩
 ·obtain⟨u,w',rfl,⟨t,rfl⟩,⟨t',rfl⟩⟩:=vals2 r;refine call_range_2 ?_;exact⟨.ref s.heap.objs.size,_,I.laid (o:=.mE i j) (λb ob q=>J7 _ q) (JD _) (show b9 X.prog X.w _ _ _ (.mE i j) from⟨_,_,_,JM _ rfl⟩),rfl,q _ (I.aQ.fresh (JD _))⟩
section
variable {X:Cx} {a b c e o:Expr} {es rest:List Expr} {ua ub uc ue uo:UE} {uA uB:UT} {us:UA} {pos p p2 p3:Pos} {x:Str}
noncomputable def wQ(xs:List α)(lo hi:Option Int):List α:=(xs.drop (HT.bW xs.length 0 lo)).take (HT.bW xs.length xs.length hi-HT.bW xs.length 0 lo)
noncomputable def GK(K:W.Frag):V->Option Int->Option Int->Hp->VK->Prop:=λx lo hi H Q=>∃a xs,x=.ref a/\bz K H a xs/\HT.bW xs.length 0 lo=0/\HT.bW xs.length xs.length hi=xs.length/\Q (.ref a) H
theorem i4{A:Around}{s:Shared}{t sl:Addr}{vl vu:Value}{lo hi:Option Int}(ht:IsTup s.heap t items)(hs:s.heap.IsSliceOf sl vl vu .none)(pl:IsPart vl lo)(pu:IsPart vu hi)
  (h1:HT.bW items.size 0 lo=0) (h2:HT.bW items.size items.size hi=items.size) (h:Q (.ref t) s):wpAny (model prog w) A (getItem (.ref t) (.ref sl)) Q E s:=by
 obtain⟨os,hos,hcs,uR⟩:=id hs;have hTs:s.TypeIs (.ref sl) "slice":=⟨os,hos,hcs⟩;unfold getItem
 try with_reducible refine KH ?_
 first|refine Jy (JJ ?_)|skip
 refine Jy (wpAny_sequenceKey ht.typeIs (by decide) ?_)
 refine Jy (Kz (name:=Str.ofString "__getitem__") ht.typeIs Lj
  (KC Lj ht.typeIs entry_tuple_getitem ?_ (args_tuple_getitem _ _)))
 show wpAny _ _ (Builtin.Tuple.tupleItemsOf (.ref t) >>= _) _ _ s;refine Jy (tupleItemsOf_ ht ?_);refine Jy (Na hTs ?_);rw[JE (by decide)]
 refine Jy (HT.eX hs pl pu ?_);show wpAny _ _ (if (((HT.bW items.size 0 lo:Nat):Int) == 0 && (1:Int) == 1 && (HT.bW items.size items.size hi-HT.bW items.size 0 lo) == items.size)=true then _ else _) _ _ s
 rw[JE (by rw[h1,h2];simp)]
 unfold Builtin.Tuple.tupleIsExact;refine Jy ?_;refine Jy (Na ht.typeIs (JJ ?_));rw[JE (by decide)]
 exact Jy (NC (JJ ⟨_,rfl,JJ h⟩))
theorem Er:vL X (GK X.K):=by
 intro pins s σ H x v vl vu lo hi sl Q I rx hs pl pu h;obtain⟨a,xs,rfl,hx,h1,h2,q⟩:=h;cases rx;obtain⟨its,r,ht,hz⟩:=I.tuple hx;have hlen:its.toArray.size=xs.length:=by rw[J8];exact r.length.symm
 exact⟨"tuple",_,Lj.lookup,ht.typeIs,i4 ht hs pl pu (by rw[hlen];exact h1) (by rw[hlen];exact h2) ⟨.ref a,H,I,rfl,q⟩⟩
noncomputable def Gr(K:W.Frag):V->Option Int->Option Int->Hp->VK->Prop:=λx lo hi H Q=>HF K x lo hi H Q\/qT K x lo hi H Q\/GK K x lo hi H Q
theorem GZ(K:W.Frag)(hK:X.K=K):vL X (Gr K):=by subst hK;exact t8.or (rM.or Er)
end
end Y
abbrev UI:=Mu->(List T->Option (Nat×List T)->Mu->Prop)->Prop
noncomputable def wR(K:W.Frag)(tl:TE):TI:=λσ H R=>tl σ H λx H1=>∃a,x=V.ref a/\(((∃xs,bI K H1 a xs)/\R (sT K a) H1)\/((∃xs,bz K H1 a xs)/\R (so K a) H1))
theorem Dy{l:Expr}{tl:TE}(hl:PE X l tl):PI X tg l (wR X.K tl):=by
 intro pins s σ H R I h;refine cp (hl pins s σ H _ I h) λv s1 hq2=>?_;obtain⟨x,H1,I1,r1,q1⟩:=hq2;obtain⟨a,rfl,q⟩:=q1;cases r1;rcases q with ⟨⟨xs,hq⟩,q⟩|⟨⟨xs,hq⟩,q⟩
 ·obtain⟨its,rv,p,hz⟩:=I1.list hq;refine LY p.isList ?_;refine⟨s1.heap.objs.size,[s1.heap.objs.size],_,_,H1,rfl,I1.kept (t':=s1.toks) λb o e=>J7 _ e,mG a _,⟨_,JM _ rfl,rfl,rfl⟩,λb hb=>?_,q⟩;have e:b=s1.heap.objs.size:=by simpa using hb
  subst e;exact I1.qm (JD _) (I1.aQ.fresh (JD _))
 ·obtain⟨its,rv,p,hz⟩:=I1.tuple hq;refine L0 (show s1.heap.IsTuple a its.toArray from p) ?_;refine⟨s1.heap.objs.size,[s1.heap.objs.size],_,_,H1,rfl,I1.kept (t':=s1.toks) λb o e=>J7 _ e,kq a _,⟨_,JM _ rfl,rfl,rfl⟩,λb hb=>?_,q⟩;have e:b=s1.heap.objs.size:=by simpa using hb
  subst e;exact I1.qm (JD _) (I1.aQ.fresh (JD _))
namespace Y
theorem vQ{α:Type _}{l:List α}(h:l.length=1):∃y,l=[y]:=by
 rcases l with _|⟨a,_|⟨b,t⟩⟩
 ·cases h
 ·exact⟨a,rfl⟩
 ·cases h
theorem xZ{α:Type _}{l:List α}(h:l.length=2):∃y z,l=[y,z]:=by
 rcases l with _|⟨a,t⟩
 ·cases h
 ·obtain⟨b,rfl⟩:=vQ (Nat.succ.inj h);exact⟨a,b,rfl⟩
theorem zd{α:Type _}{l:List α}(h:l.length=3):∃x y z,l=[x,y,z]:=by
 rcases l with _|⟨a,t⟩
 ·cases h
 ·obtain⟨b,c,rfl⟩:=xZ (Nat.succ.inj h);exact⟨a,b,c,rfl⟩
theorem Hn{α:Type _}{l:List α}(h:l.length=4):∃w x y z,l=[w,x,y,z]:=by
 rcases l with _|⟨a,t⟩
 ·cases h
 ·obtain⟨b,c,d,rfl⟩:=zd (Nat.succ.inj h);exact⟨a,b,c,d,rfl⟩
end Y
abbrev IY:=List T->(R->List T->Prop)->Prop
noncomputable def Bp(K:W.Frag)(f:Addr)(cdv:Value):Prop:=∃(o:Obj) (fd:FuncData),K.lookup f=some o/\o.data=.func fd/\fd.code=cdv
noncomputable def lB(K:W.Frag)(k:Bool)(H:Hp)(a:Addr)(xs:List V):Prop:=if k=true then bI K H a xs else bz K H a xs
noncomputable def lG(k:Bool)(h:Heap)(it a:Addr)(i:Nat):Prop:=if k=true then h.IsListIter it a i else h.IsTupleIter it a i
noncomputable def eI(k:Bool)(h:Heap)(a:Addr)(items:Array Value):Prop:=if k=true then h.IsList a items else h.IsTuple a items
theorem sX{A:Around}(k:Bool)(hh:A.handled=none)(it l:Addr)(hne:l≠it)(items:Array Value):Draws prog w A it [it,l] items.size (λi v=>items[i]?=some v) (λi h=>lG k h it l i/\eI k h l items):=by
 cases k with
 |true=>exact Draws.list hh it l hne items
 |false=>exact js hh it l hne items
theorem Inv.xg{s:Shared}{k:Bool}(I:Inv X pins σ H s)(h:lB X.K k H a xs):∃its:List Value,Vals xs its/\eI k s.heap a its.toArray:=by
 cases k with
 |true=>obtain⟨its,r,p,_⟩:=I.list h;exact⟨its,r,p.isList⟩
 |false=>obtain⟨its,r,p,_⟩:=I.tuple h;exact⟨its,r,p⟩
theorem Inv.xc{s:Shared}{k:Bool}{ys:List V}(I:Inv X pins σ H s)(h:lB X.K k H a xs)(h':lB X.K k H a ys):xs=ys:=by
 cases k with
 |true=>exact I.km h h'
 |false=>exact I.jd h h'
theorem eI.ty{k:Bool}(x:eI k h a items):∃o,h.get? a=some o/\(o.cls=.type "list"\/o.cls=.type "tuple")/\∃n,o.data=.seq items n:=by
 cases k with
 |true=>obtain⟨o,e,c,n,d⟩:=(show h.IsList a items from x);exact⟨o,e,.inl c,n,d⟩
 |false=>obtain⟨o,e,c,n,d⟩:=(show h.IsTuple a items from x);exact⟨o,e,.inr c,n,d⟩
theorem lG.ty{k:Bool}(x:lG k h it a i):∃o,h.get? it=some o/\(o.cls=.type "list_iterator"\/o.cls=.type "tuple_iterator")/\o.data=.fields #[.ref a,.int i 0]:=by
 cases k with
 |true=>obtain⟨o,e,c,d⟩:=(show h.IsListIter it a i from x);exact⟨o,e,.inl c,d⟩
 |false=>obtain⟨o,e,c,d⟩:=(show h.IsTupleIter it a i from x);exact⟨o,e,.inr c,d⟩
noncomputable def FO(k:Bool):String:=if k=true then "list_iterator" else "tuple_iterator"
theorem zV(x:h.IsTuple a items)(o:Obj):(h.push o).IsTuple a items:=by
 obtain⟨ob,e,r⟩:=x;exact⟨ob,J7 _ e,r⟩
theorem GP{k:Bool}(e:h.get? it=some {cls:=.type (FO k),data:=.fields #[.ref a,.int 0 0]}):lG k h it a 0:=by
 cases k with
 |true=>exact⟨_,e,rfl,rfl⟩
 |false=>exact⟨_,e,rfl,rfl⟩
noncomputable def qr(K:W.Frag):Sp:=λvs H Q _=>∃(a:Addr) (ns:List Int),vs=[.ref a]/\bI K H a (ns.map V.int)/\ns.length<=63/\∀H',Q (.bl true) H'
namespace Y
theorem Ek(hu:X.A.units<cLine):dc X (compareOp .NotEq) (Cp X.K true):=by
 intro pins s σ H x y v u Q I rx ry h;obtain⟨a,b,xs,ys,rfl,rfl,hq,fx,fy,q⟩:=h
 cases rx;cases ry
 have item:∀(its its2:List Value),Vals xs its->Vals ys its2->∀j (h1:j<its.toArray.size) (h2:j<its2.toArray.size),SeqAt.EqAt X.A.in1 s its.toArray[j] its2.toArray[j] (match xs[j]?,ys[j]? with|some x,some y=>wC x y|_,_=>true):=λits its2 r1 r2 j h1 h2=>by
  have l1:=r1.length;have l2:=r2.length;rw[J8] at h1 h2;obtain⟨u1,e1,g1⟩:=r1.get (i:=j) (x:=xs[j]) (Jx (by lia))
  obtain⟨u2,e2,g2⟩:=r2.get (i:=j) (x:=ys[j]) (Jx (by lia))
  rw[Jx (show j<xs.length by lia),Jx (show j<ys.length by lia)]
  have z1:its.toArray[j]=u1:=by
   rw[Jx h1] at e1;simpa using e1
  have z2:its2.toArray[j]=u2:=by
   rw[Jx h2] at e2;simpa using e2
  rw[z1,z2];exact nk g1 g2 (Lc.mp fx _ (JN _)) (Lc.mp fy _ (JN _))
 rcases hq with ⟨ha,hb⟩|⟨ha,hb⟩
 ·obtain⟨its,r1,p1,_⟩:=I.list ha;obtain⟨its2,r2,p2,_⟩:=I.list hb;have l1:=r1.length;have l2:=r2.length;by_cases e:xs.length=ys.length
  ·refine SeqAt.RcNeAt.lists p1.isList p2.isList (by rw[J8,J8];lia) hu (item its its2 r1 r2) X.prog X.w X.xe _ ⟨.bl _,H,I,rfl,q _ ?_⟩
   rw[J8,<- l1,<- e,L1,Kw,O5]
   try rfl
  ·refine N5 p1.isList p2.isList (by rw[J8,J8,ND];lia) hu X.prog X.w X.xe _ ⟨.bl true,H,I,rfl,?_⟩
   exact q false (by rw[Ka.mpr e,Np])
 ·obtain⟨its,r1,p1,_⟩:=I.tuple ha;obtain⟨its2,r2,p2,_⟩:=I.tuple hb;have l1:=r1.length;have l2:=r2.length;refine SeqAt.RcNeAt.tuples p1 p2 hu (item its its2 r1 r2) X.prog X.w X.xe _ ⟨.bl _,H,I,rfl,q _ ?_⟩;rw[J8,J8,<- l1,<- l2,Bool.and_comm]
  try rfl
noncomputable def Gx(K:W.Frag):R2:=λx y H Q=>GV x y H Q\/Cp K true x y H Q
theorem El(K:W.Frag)(hK:X.K=K)(hu:X.A.units<cLine):dc X (compareOp .NotEq) (Gx K):=by subst hK;exact Dd.or (Ek hu)
end Y
open PySem PySem.Spec PyProof PyProof.Rows
namespace Y
theorem fC:∀{us:List Value} {ns:List Int},IntsAre us ns->Vals (ns.map V.int) us
 |_,_,.nil=>.nil
 |_,_,.cons n t h=>.cons ⟨t,rfl⟩ (fC h)
theorem gn:∀{us:List Value} {ns:List Int},IntsAre us ns->us.length=ns.length
 |_,_,.nil=>rfl
 |_,_,.cons n t h=>by simp[gn h]
theorem eC:∀{us:List Value} {ns:List Int} {i:Nat} {v:Value},IntsAre us ns->us[i]?=some v->∃t,v=.int (ns.getD i 0) t
 |_,_,_,_,.nil,e=>by simp at e
 |_,_,0,_,.cons n t h,e=>⟨t,by simpa using e.symm⟩
 |_,_,i+1,_,.cons n t h,e=>by
  obtain⟨t',e'⟩:=eC (i:=i) h (by simpa using e)
  exact⟨t',by simpa using e'⟩
section
variable {prog:Program} {w:World} {A:Around} {E:Value->Shared->Prop} {s:Shared}
theorem o_{l:Addr}{vs:List Value}{Q:List Value->Shared->Prop}(hl:IsTup s.heap l vs.toArray)(hsz:vs.length<=sizeLine)
  (h:Q vs {s with heap:=(s.heap.push (seqObj "list" #[] 0)).update s.heap.objs.size (Obj.mapSeq (·++vs.toArray))}):wpAny (model prog w) A (collect (.ref l)) Q E s:=by
 obtain⟨o,ho,hc,n,hd⟩:=id hl;unfold collect;refine Jy (wpAny_runValue (LO entry_proto_collect' ?_));show wpAny _ _ (do again (.builtin "list.__iadd__" ⟨[<- newList [],.ref l],[]⟩)) _ _ s
 refine Jy (N6 (JJ ⟨Code.quiet_builtin _ (by decide +kernel),LO entry_list_iadd' ?_⟩))
 show wpAny _ _ (Builtin.List.listExtendWith (.ref s.heap.objs.size) (.ref l) (.ref s.heap.objs.size)) _ _ {s with heap:=s.heap.push (seqObj "list" #[] 0)}
 unfold Builtin.List.listExtendWith;have ho':(s.heap.push (seqObj "list" #[] 0)).get? l=some o:=J7 _ ho;refine Jy (Na (T:="tuple") ⟨o,ho',hc⟩ ?_);have ht:(Value.type "tuple" == Value.type "tuple")=true:=by rfl
 rw[JE (by rw[ht];simp)]
 refine Jy (NN ho' hd ?_);refine Jy (NN (xs:=#[]) (n:=0) (JM _ rfl) rfl ?_);rw[JA (by simp)]
 refine Jy (listUpdate_at (xs:=#[]) (n:=0) (JM _ rfl) rfl ?_ (JL _) (by show (#[]++vs.toArray).size<=sizeLine+1;simp only[Array.size_append,J8,K2];lia))
 refine JJ ?_;show wpAny (model prog w) A (load s.heap.objs.size >>= _) Q E {s with heap:=(s.heap.push (seqObj "list" #[] 0)).update s.heap.objs.size (Obj.mapSeq (·++vs.toArray))}
 refine Jy (wpAny_load (Nb (JM _ rfl) _) ?_);show wpAny _ _ (pure ((#[]:Array Value)++vs.toArray).toList) Q E _;rw[show ((#[]:Array Value)++vs.toArray).toList=vs by simp]
 exact JJ h
theorem rR{l:Addr}{vs:List Value}(hl:IsTup s.heap l vs.toArray)(hI:IntsAre vs ns)(h64:vs.length<64)
  (h:∀(out:Array Value) (ns':List Int),IntsAre out.toList ns'->ns'.Perm ns->ns'.Pairwise (·<=·)->Q (.ref (s.heap.objs.size+1)) {s with heap:=sortedAll s.heap vs out}) :
  wpAny (model prog w) A (call (.builtin "sorted") [.ref l]) Q E s:=by
 have hz:vs.length<=sizeLine:=JF (Ll h64) (by decide)
 refine Calls.call_function_entry kind_sorted plain_sorted entry_sorted (args_sorted1 _) ?_;unfold Builtin.«sorted»;refine Jy (m:=checkCount "sorted" 1 1 _) (JJ ?_);refine Jy (o_ hl hz ?_);refine Jy (N6 ?_ hz);have hs:((s.heap.push (seqObj "list" #[] 0)).update s.heap.objs.size (Obj.mapSeq (·++vs.toArray))).objs.size=s.heap.objs.size+1:=by rw[Heap.size_update,size_push']
 have ho:(((s.heap.push (seqObj "list" #[] 0)).update s.heap.objs.size (Obj.mapSeq (·++vs.toArray))).push (seqObj "list" vs.toArray 0)).get? (s.heap.objs.size+1)=some (seqObj "list" vs.toArray 0):=by
  rw[<- hs];exact JM _ rfl
 show wpAny _ _ _ _ _ {s with heap:=((s.heap.push (seqObj "list" #[] 0)).update s.heap.objs.size (Obj.mapSeq (·++vs.toArray))).push (seqObj "list" vs.toArray 0)}
 rw[hs];refine Jy (KH (KC slot_list_sort ⟨_,ho,rfl⟩ entry_list_sort (list_sort_tree ho hI h64 λout ns' a1 a2 a3=>⟨_,rfl,?_⟩) (args_list_sort _)));exact JJ ⟨_,rfl,h out ns' a1 a2 a3⟩
end
noncomputable def CV(K:W.Frag):List V->Hp->VK->Prop:=λxs H Q=>∃p ns,xs=[.ref p]/\bz K H p (ns.map V.int)/\ns.length<64/\∀ns':List Int,ns'.Perm ns->ns'.Pairwise (·<=·)->∀l,H l=none->Q (.ref l) (upd H l (.lst (ns'.map V.int)))
theorem vx(K:W.Frag)(hK:X.K=K):bu X (.builtin "sorted") (CV K):=by
 subst hK;intro pins s σ H xs us Q I r h;obtain⟨p,ns,rfl,hq,h64,q⟩:=h;obtain⟨u,rfl,ru⟩:=vals1 r;cases ru;obtain⟨its,rv,pl,hz⟩:=I.tuple hq;have hi:=intsAre_of rv;refine rR pl hi (by rw[gn hi];exact h64) λout ns' a1 a2 a3=>?_
 obtain⟨e,he⟩:=sortedAll_at s.heap its out;refine⟨.ref (s.heap.objs.size+1),_,I.laid (t':=s.toks) (λb ob q=>sortedAll_old q) (K8 _) (show b9 X.prog X.w _ _ _ (.lst (ns'.map V.int)) from⟨?_,out.toList,e,fC a1,by simpa using he⟩),rfl,q ns' a2 a3 _ (I.aQ.fresh (K8 _))⟩
 rw[Jz,a2.length_eq];exact JF (Ll h64) (by decide)
theorem yZ(l:List Nat):∀(n a:Nat),((List.range n).map (λk=>a+k)).filterMap (l[·]?)=(l.drop a).take n
 |0,_=>by simp
 |n+1,a=>by
  rw[NY,JR,List.filterMap_append,yZ l n a,List.take_add_one,Le]
  cases h:l[a+n]?<;>simp[h]
theorem qD(lo hi:Option Int)(n:Nat):Builtin.Str.strSliceIndices lo hi 1 n=(List.range (HT.bW n n hi-HT.bW n 0 lo)).map (λk=>HT.bW n 0 lo+k):=by
 have ea:∀(v:Int),max 0 (min (if v<0 then v+(n:Int) else v) (n:Int))=(((if v<0 then (v+(n:Int)).toNat else min v.toNat n):Nat):Int):=by
  intro v;split<;>lia
 have e:Builtin.Str.strSliceIndices lo hi 1 n=sliceRange (HT.bW n 0 lo) (HT.bW n n hi) 1:=by
  cases lo with
  |none=>cases hi with
   |none=>rfl
   |some j=>show sliceRange 0 (max 0 (min (if j<0 then j+(n:Int) else j) (n:Int))) 1=_;rw[ea];rfl
  |some i=>cases hi with
   |none=>show sliceRange (max 0 (min (if i<0 then i+(n:Int) else i) (n:Int))) n 1=_;rw[ea];rfl
   |some j=>show sliceRange (max 0 (min (if i<0 then i+(n:Int) else i) (n:Int))) (max 0 (min (if j<0 then j+(n:Int) else j) (n:Int))) 1=_;rw[ea,ea];rfl
 rw[e];generalize HT.bW n 0 lo=a;generalize HT.bW n n hi=b;unfold sliceRange;simp only[show ((1:Int) > 0)=True from by simp,Mt,Int.one_mul]
 have c:(if (a:Int)<(b:Int) then ((b:Int)-a+1-1) / 1 else 0).toNat=b-a:=by split<;>lia
 rw[c];refine List.map_congr_left λk _=>?_;lia
theorem sA(z:Str)(lo hi:Option Int):Txt.slice z lo hi=⟨((z.cps.toList.drop (HT.bW z.cps.toList.length 0 lo)).take (HT.bW z.cps.toList.length z.cps.toList.length hi-HT.bW z.cps.toList.length 0 lo)).toArray⟩:=by
 have hl:z.cps.toList.length=z.length:=Km;rw[hl];have hp:(Builtin.Str.strSliceIndices lo hi 1 z.length).filterMap (z.cps[·]?)=(z.cps.toList.drop (HT.bW z.length 0 lo)).take (HT.bW z.length z.length hi-HT.bW z.length 0 lo):=by
  rw[qD];have:=yZ z.cps.toList (HT.bW z.length z.length hi-HT.bW z.length 0 lo) (HT.bW z.length 0 lo)
  simpa using this
 unfold Txt.slice;split
 ·rename_i h;rw[qD] at h;simp at h;have h2:=HT.r9 z.length z.length (JD _) hi;have h3:=HT.r9 z.length 0 (JL _) lo;have a0:HT.bW z.length 0 lo=0:=by lia
  have b0:HT.bW z.length z.length hi=z.length:=by lia
  rw[a0,b0,Lf,Nc,<- hl,Kq]
 ·rw[hp]
noncomputable def jC(z:Str)(lo hi:Option Int):Str:=⟨(wQ z.cps.toList lo hi).toArray⟩
theorem vF(z:Str)(lo hi:Option Int):Txt.slice z lo hi=jC z lo hi:=sA z lo hi
noncomputable def IE:V->Option Int->Option Int->Hp->VK->Prop:=λx lo hi H Q=>∃z,x=.str z/\z.length<=sizeLine/\Q (.str (jC z lo hi)) H
theorem nH:vL X IE:=by
 intro pins s σ H x v vl vu lo hi sl Q I rx hs pl pu h;obtain⟨z,rfl,hz,q⟩:=h;rw[<- vF] at q;obtain⟨t,rfl⟩:=rx;refine⟨"str",_,PySem.F.slot_str_getitem.lookup,O2 _ _ _,?_⟩
 cases pl<;>cases pu
 ·exact LI (l:=none) (u:=none) (st:=none) hs rfl (Nd ⟨JF (Txt.slice_le z _ _) hz,λt' k=>⟨.str _,H,I.tok _,⟨_,rfl⟩,q⟩⟩)
 ·exact LI (l:=none) (u:=some (_,_)) (st:=none) hs rfl (Nd ⟨JF (Txt.slice_le z _ _) hz,λt' k=>⟨.str _,H,I.tok _,⟨_,rfl⟩,q⟩⟩)
 ·exact LI (l:=some (_,_)) (u:=none) (st:=none) hs rfl (Nd ⟨JF (Txt.slice_le z _ _) hz,λt' k=>⟨.str _,H,I.tok _,⟨_,rfl⟩,q⟩⟩)
 ·exact LI (l:=some (_,_)) (u:=some (_,_)) (st:=none) hs rfl (Nd ⟨JF (Txt.slice_le z _ _) hz,λt' k=>⟨.str _,H,I.tok _,⟨_,rfl⟩,q⟩⟩)
noncomputable def kl(z y:Str)(i:Int):Bool:=decide (fromIndex z.length i+y.length<=z.length) && Builtin.Str.subAt z y (fromIndex z.length i)
noncomputable def xG:V->List V->Hp->VK->Prop:=λx vs H Q=>∃z y i,x=.str z/\vs=[.str y,.int i]/\Q (.bl (kl z y i)) H
theorem sy:sZ X "str.startswith" xG:=by
 intro pins s σ H x xs v us Q I rx rs h;obtain⟨z,y,i,rfl,rfl,q⟩:=h;obtain⟨t,rfl⟩:=rx;obtain⟨_,_,rfl,r1,rs⟩:=Paired.gX rs;obtain⟨_,_,rfl,r2,rs⟩:=Paired.gX rs;obtain rfl:=Paired.x8 rs;obtain⟨u1,rfl⟩:=r1;obtain⟨u2,rfl⟩:=r2;exact call_gives PySem.F.slot_str_startswith (O2 _ _ _) PySem.F.entry_str_startswith (PySem.F.args_str_startswith_3 _ _ _) (gives_str_startswith_from z y i t _ _) ⟨.bl _,H,I,rfl,q⟩
end Y
abbrev Xw:=T->Mu->Prop
abbrev UX:=Mu->(R->Mu->Prop)->Xw->Prop
abbrev Jp:=Ed->Xw->Mu->Prop
noncomputable def EU(K:W.Frag)(mg:Str->Option Value)(x:Str)(f:Addr)(cdv:Value):Prop:=mg x=some (.ref f)/\∃(o:Obj) (fd:FuncData),K.lookup f=some o/\o.data=.func fd/\fd.code=cdv
abbrev UJ:=Mu->(Mu->Prop)->Prop
noncomputable def j9(n m:Nat)(e:Nat->Bool):Bool:=(List.range (min n m)).all e && n == m
inductive mr:Nat->T->T->Bool->Prop
 |flat {n:Nat} {t u:T} (f1:mP t=true) (f2:mP u=true):mr n t u (Y.CK t u)
 |tup {n:Nat} {xs ys:List T} (e:Nat->Bool) (h:∀(j:Nat) (x y:T),xs[j]?=some x->ys[j]?=some y->mr n x y (e j)):mr (n+1) (.tup xs) (.tup ys) (j9 xs.length ys.length e)
 |lst {n:Nat} {xs ys:List T} (e:Nat->Bool) (h:∀(j:Nat) (x y:T),xs[j]?=some x->ys[j]?=some y->mr n x y (e j)):mr (n+1) (.lst xs) (.lst ys) (j9 xs.length ys.length e)
theorem zR{t:T}{v:V}{B:lX}(h1:Rep K H B v t)(h2:Rep K H B v u)(f1:mP t=true)(f2:mP u=true):Y.CK t u=true:=by
 cases h1<;>first | (cases f1;done) | (cases h2<;>first | (cases f2;done)|simp[Y.CK])
theorem iU{n m:Nat}{e:Nat->Bool}(h:n=m)(h2:∀j,j<n->e j=true):j9 n m e=true:=by
 subst h;unfold j9;rw[L1,Kw,MO,Lc];intro j hj;exact h2 j (by simpa using hj)
theorem mr.same{n:Nat}{t:T}{b:Bool}(d:mr n t u b):∀{K:W.Frag} {H:Hp} {B:lX} {v:V},Rep K H B v t->Rep K H B v u->b=true:=by
 induction d with
 |flat f1 f2=>exactλh1 h2=>zR h1 h2 f1 f2
 |tup e h ih =>
  rename_i nn xs ys;intro K H B v h1 h2
  cases h1 with
  |tup n1 a1 r1=>cases h2 with
   |tup n2 a2 r2 =>
    rw[a1] at a2;cases a2;refine iU (r1.length.symm.trans r2.length) λj hj=>?_;have hx:=Jx hj;have hj2:j<ys.length:=by rw[<- r2.length,r1.length];exact hj
    have hy:=Jx hj2;obtain⟨v1,g1,p1⟩:=r1.get hx;obtain⟨v2,g2,p2⟩:=r2.get hy;rw[g1] at g2;cases g2;exact ih j _ _ hx hy p1 p2
 |lst e h ih =>
  rename_i nn xs ys;intro K H B v h1 h2
  cases h1 with
  |lst n1 a1 r1=>cases h2 with
   |lst n2 a2 r2 =>
    rw[a1] at a2;cases a2;refine iU (r1.length.symm.trans r2.length) λj hj=>?_;have hx:=Jx hj;have hj2:j<ys.length:=by rw[<- r2.length,r1.length];exact hj
    have hy:=Jx hj2;obtain⟨v1,g1,p1⟩:=r1.get hx;obtain⟨v2,g2,p2⟩:=r2.get hy;rw[g1] at g2;cases g2;exact ih j _ _ hx hy p1 p2
section
variable {X:Cx} {pins:List (Addr×Obj)} {σ:St} {H:Hp} {s:Shared} {B:lX}
theorem eY{A:Around}{n:Nat}{xs:List T}{vs:List V}{e:Nat->Bool}(r1:cU X.K H B vs xs)(r2:cU X.K H B ws ys)(g1:Vals vs its)(g2:Vals ws its2)
  (ih:∀(j:Nat) (x y:T),xs[j]?=some x->ys[j]?=some y->∀(v w:V) (a b:Value),Rep X.K H B v x->Rep X.K H B w y->RelV v a->RelV w b->SeqAt.EqAt A s a b (e j)) :
  ∀j (h1:j<its.toArray.size) (h2:j<its2.toArray.size),SeqAt.EqAt A s its.toArray[j] its2.toArray[j] (e j):=by
 intro j h1 h2;have l1:=g1.length;have l2:=g2.length;have l3:=r1.length;have l4:=r2.length;rw[J8] at h1 h2;have hx:=Jx (show j<xs.length by lia)
 have hy:=Jx (show j<ys.length by lia)
 obtain⟨v1,q1,p1⟩:=r1.get hx;obtain⟨v2,q2,p2⟩:=r2.get hy;obtain⟨u1,e1,f1⟩:=g1.get q1;obtain⟨u2,e2,f2⟩:=g2.get q2;have z1:its.toArray[j]=u1:=by
  rw[Jx h1] at e1;simpa using e1
 have z2:its2.toArray[j]=u2:=by
  rw[Jx h2] at e2;simpa using e2
 rw[z1,z2];exact ih j _ _ hx hy v1 v2 u1 u2 p1 p2 f1 f2
theorem ft{vs:List V}{xs:List T}(e:Nat->Bool)(r1:cU X.K H B vs xs)(r2:cU X.K H B ws ys)(g1:Vals vs its)(g2:Vals ws its2):((List.range (min its.toArray.size its2.toArray.size)).all e && its.toArray.size == its2.toArray.size)=j9 xs.length ys.length e:=by
 have l1:=g1.length;have l2:=g2.length;have l3:=r1.length;have l4:=r2.length;unfold j9;rw[J8,J8,<- l1,<- l2,l3,l4]
theorem yq{n:Nat}{t:T}{b:Bool}(d:mr n t u b):∀(I:Inv X pins σ H s) {A:Around} (hu:A.units+n<cLine) (v w:V) (a c:Value),Rep X.K H B v t->Rep X.K H B w u->RelV v a->RelV w c->SeqAt.EqAt A s a c b:=by
 induction d with
 |flat f1 f2 =>
  intro I A hu v w a c h1 h2 r1 r2;obtain⟨z1,z2,z3⟩:=Y.G8 h1 h2 f1 f2;rw[<- z3];exact nk r1 r2 z1 z2
 |tup e h ih =>
  intro I A hu v w a c h1 h2 r1 r2;rename_i n xs ys;have h1':=h1;have h2':=h2
  cases h1 with
  |tup n1 a1 q1=>cases h2 with
   |tup n2 a2 q2 =>
    rename_i p1 vs p2 ws
    cases r1;cases r2
    by_cases z:p1=p2
    ·subst z;rw[(mr.tup (n:=n) e h).same h1' h2'];exact SeqAt.EqAt.same _
    ·obtain⟨its,g1,pl1,_⟩:=I.tuple (bz.of a1);obtain⟨its2,g2,pl2,_⟩:=I.tuple (bz.of a2);rw[<- ft (X:=X) e q1 q2 g1 g2];exact Nz z (SeqAt.RcAt.tuples pl1 pl2 (by lia) (eY (n:=n) q1 q2 g1 g2 λj x y hx hy v w a c=>ih j x y hx hy I (A:=A.in1) (by show A.units+1+n<cLine;lia) v w a c))
 |lst e h ih =>
  intro I A hu v w a c h1 h2 r1 r2;rename_i n xs ys;have h1':=h1;have h2':=h2
  cases h1 with
  |lst n1 a1 q1=>cases h2 with
   |lst n2 a2 q2 =>
    rename_i p1 vs p2 ws
    cases r1;cases r2
    by_cases z:p1=p2
    ·subst z;rw[(mr.lst (n:=n) e h).same h1' h2'];exact SeqAt.EqAt.same _
    ·obtain⟨its,g1,pl1,_⟩:=I.list (bI.of a1);obtain⟨its2,g2,pl2,_⟩:=I.list (bI.of a2);have sz:=ft (X:=X) e q1 q2 g1 g2;rw[<- sz];by_cases hs:its.toArray.size=its2.toArray.size
     ·rw[hs,L1,Kw,MO,<- hs];exact Nz z (SeqAt.RcAt.lists pl1.isList pl2.isList hs (by lia) (eY (n:=n) q1 q2 g1 g2 λj x y hx hy v w a c=>ih j x y hx hy I (A:=A.in1) (by show A.units+1+n<cLine;lia) v w a c))
     ·rw[Ka.mpr hs,Ou];exact Nz z (SeqAt.RcAt.lists_lengths pl1.isList pl2.isList (ND.mpr hs) (by lia))
end
namespace Y
noncomputable def rb(K:W.Frag)(n:Nat)(neg:Bool):R2:=λx y H Q=>∃(B:lX) (a b:Addr) (vs ws:List V) (xs ys:List T) (e:Nat->Bool),x=.ref a/\y=.ref b/\((bz K H a vs/\bz K H b ws)\/(bI K H a vs/\bI K H b ws))/\cU K H B vs xs/\cU K H B ws ys /\
 (∀(j:Nat) (x y:T),xs[j]?=some x->ys[j]?=some y->mr n x y (e j))/\Q (.bl (if neg then !j9 xs.length ys.length e else j9 xs.length ys.length e)) H
theorem B8{X:Cx}{n:Nat}(hu:X.A.units+n+1<cLine):dc X (compareOp .Eq) (rb X.K n false):=by
 intro pins s σ H x y v u Q I rx ry h;obtain⟨B,a,b,vs,ws,xs,ys,e,rfl,rfl,hq,r1,r2,ih,q⟩:=h
 cases rx;cases ry
 have it:∀(j:Nat) (x y:T),xs[j]?=some x->ys[j]?=some y->∀(v w:V) (a b:Value),Rep X.K H B v x->Rep X.K H B w y->RelV v a->RelV w b->SeqAt.EqAt X.A.in1 s a b (e j):=λj x y hx hy v w a c=>yq (ih j x y hx hy) I (A:=X.A.in1) (by show X.A.units+1+n<cLine;lia) v w a c
 rcases hq with ⟨ha,hb⟩|⟨ha,hb⟩
 ·obtain⟨its,g1,p1,_⟩:=I.tuple ha;obtain⟨its2,g2,p2,_⟩:=I.tuple hb;refine SeqAt.eq_tupleAt p1 p2 (by lia) (eY (n:=n) r1 r2 g1 g2 it) ⟨.bl _,H,I,rfl,?_⟩
  rw[ft (X:=X) e r1 r2 g1 g2];exact q
 ·obtain⟨its,g1,p1,_⟩:=I.list ha;obtain⟨its2,g2,p2,_⟩:=I.list hb;have sz:=ft (X:=X) e r1 r2 g1 g2;by_cases hs:its.toArray.size=its2.toArray.size
  ·rw[hs,L1,Kw,MO,<- hs] at sz;refine SeqAt.eq_listAt p1.isList p2.isList hs (by lia) (eY (n:=n) r1 r2 g1 g2 it) ⟨.bl _,H,I,rfl,?_⟩
   rw[sz];exact q
  ·rw[Ka.mpr hs,Ou] at sz;refine NR p1.isList p2.isList (ND.mpr hs) (by lia) ⟨.bl _,H,I,rfl,?_⟩
   rw[sz];exact q
theorem BQ{X:Cx}{n:Nat}(hu:X.A.units+n+1<cLine):dc X (compareOp .NotEq) (rb X.K n true):=by
 intro pins s σ H x y v u Q I rx ry h;obtain⟨B,a,b,vs,ws,xs,ys,e,rfl,rfl,hq,r1,r2,ih,q⟩:=h
 cases rx;cases ry
 have it:∀(j:Nat) (x y:T),xs[j]?=some x->ys[j]?=some y->∀(v w:V) (a b:Value),Rep X.K H B v x->Rep X.K H B w y->RelV v a->RelV w b->SeqAt.EqAt X.A.in1 s a b (e j):=λj x y hx hy v w a c=>yq (ih j x y hx hy) I (A:=X.A.in1) (by show X.A.units+1+n<cLine;lia) v w a c
 rcases hq with ⟨ha,hb⟩|⟨ha,hb⟩
 ·obtain⟨its,g1,p1,_⟩:=I.tuple ha;obtain⟨its2,g2,p2,_⟩:=I.tuple hb;refine SeqAt.RcNeAt.tuples p1 p2 (by lia) (eY (n:=n) r1 r2 g1 g2 it) X.prog X.w X.xe _ ⟨.bl _,H,I,rfl,?_⟩
  rw[ft (X:=X) e r1 r2 g1 g2];exact q
 ·obtain⟨its,g1,p1,_⟩:=I.list ha;obtain⟨its2,g2,p2,_⟩:=I.list hb;have sz:=ft (X:=X) e r1 r2 g1 g2;by_cases hs:its.toArray.size=its2.toArray.size
  ·rw[hs,L1,Kw,MO,<- hs] at sz;refine SeqAt.RcNeAt.lists p1.isList p2.isList hs (by lia) (eY (n:=n) r1 r2 g1 g2 it) X.prog X.w X.xe _ ⟨.bl _,H,I,rfl,?_⟩
   rw[sz];exact q
  ·rw[Ka.mpr hs,Ou] at sz;refine N5 p1.isList p2.isList (ND.mpr hs) (by lia) X.prog X.w X.xe _ ⟨.bl true,H,I,rfl,?_⟩
   have q2:=q;rw[<- sz] at q2;exact q2
end Y
theorem kY{A:Around}{k:Nat}(hr:bM k A):A.units+4+1<cLine:=K9 (Nat.add_le_add_left (by decide:4+1<=64) _) hr.units
namespace Y
noncomputable def Ip(K:W.Frag):R2:=λx y H Q=>HE K x y H Q\/rb K 4 false x y H Q
theorem Dp(K:W.Frag)(hK:X.K=K)(hu:X.A.units+4+1<cLine):dc X (compareOp .Eq) (Ip K):=by subst hK;exact (Dk X.K rfl (by lia)).or (B8 hu)
noncomputable def Dr(K:W.Frag):R2:=λx y H Q=>Gx K x y H Q\/rb K 4 true x y H Q
theorem nQ(K:W.Frag)(hK:X.K=K)(hu:X.A.units+4+1<cLine):dc X (compareOp .NotEq) (Dr K):=by subst hK;exact (El X.K rfl (by lia)).or (BQ hu)
end Y
theorem kW{k:Str}{t t':Tok}{prog:Program}{w:World}{A:Around}{E:Value->Shared->Prop}{Q:Option Fin×Unit->Shared->Prop}(hit:items[j]?=some (.str k t'))(hno:∀m,m<j->∃y ty,items[m]?=some (.str y ty)/\y≠k):∀(m i c:Nat) (s:Shared),i+m=j->m<c->Q (some (.done (.ret (.int (j:Nat) s.toks))),()) {s with toks:=s.toks+1} ->
  wpAny (model prog w) A (forIn (List.range' i c) ((none,()):Option Fin×Unit) λi __s=>match items[i]? with
      |some y=>do
       let __do_lift <- eqBool y (Value.str k t)
       if __do_lift=true then do
         let __do_lift <- retInt (i:Nat)
         pure (ForInStep.done (some __do_lift,()))
        else pure (ForInStep.yield (none,()))
      |x=>pure (ForInStep.yield (none,()))) Q E s:=by
 intro m
 induction m with
 |zero =>
  intro i c s e hc h
  cases c with
  |zero=>exact absurd hc (L4 _)
  |succ c =>
   obtain rfl:i=j:=e;rw[Ld,LN];simp only[hit];refine Jy (Jy (NI ?_));rw[Kc rfl]
   wp_walk
   exact h
 |succ m ih =>
  intro i c s e hc h
  cases c with
  |zero=>exact absurd hc (L4 _)
  |succ c =>
   obtain⟨y,ty,hy,ne⟩:=hno i (by lia)
   rw[Ld,LN];simp only[hy];refine Jy (Jy (NI ?_));rw[Ke ne];exact JJ (ih (i+1) c s (by lia) (by lia) h)
theorem uY{n:Nat}{dd:Option Addr}{sl:Array (Option Value)}{k:Str}{t t':Tok}(hit:items[j]?=some (.str k t'))(hno:∀m,m<j->∃y ty,items[m]?=some (.str y ty)/\y≠k):
  Meets (Builtin.«tuple.index» ⟨[.ref p,.str k t],[]⟩) (λA R s=>s.heap.get? p=some {cls:=.type "tuple",dict:=dd,data:=.seq items n,slots:=sl}/\R (.ok (.ret (.int (j:Nat) s.toks))) {s with toks:=s.toks+1}):=by
 intro prog w A R s h;obtain⟨hp,g,d,tk,os⟩:=s;obtain⟨ho,h⟩:=h;unfold Builtin.«tuple.index»;simp only[Std.Legacy.Range.forIn_eq_forIn_range'];wp_walk using M_ ho;have hj:j<items.size:=by
  rcases Kx j items.size with z|z
  ·exact z
  ·rw[N7.mpr z] at hit;cases hit
 refine kW hit hno j 0 _ _ (Lb _) ?_ ?_
 ·simp[Std.Legacy.Range.size];exact hj
 ·exact JJ h
noncomputable def IU(K:W.Frag):V->List V->Hp->VK->Prop:=λx vs H Q=>∃(a:Addr) (ws:List Str) (k:Str) (j:Nat),x=.ref a/\bz K H a (ws.map V.str)/\vs=[.str k]/\ws[j]?=some k/\(∀m,m<j->ws[m]?≠some k)/\Q (.int (j:Nat)) H
theorem iH:∀{ws:List Str} {its:List Value},Vals (ws.map V.str) its->∀(m:Nat) (y:Str),ws[m]?=some y->∃t,its[m]?=some (.str y t):=λr m y e=>by
 obtain⟨u,h1,h2⟩:=r.get (i:=m) (x:=V.str y) (by rw[JC,e];rfl)
 obtain⟨t,rfl⟩:=(show RelV (.str y) u from h2);exact⟨t,h1⟩
theorem DQ:sZ X "tuple.index" (IU X.K):=by
 intro pins s σ H x xs v us Q I rx rs h;obtain⟨a,ws,k,j,rfl,hq,rfl,hj,hno,q⟩:=h;obtain rfl:v=Value.ref a:=rx;obtain⟨u,rfl,t,rfl⟩:=vals1 rs;obtain⟨its,r,pl,hz⟩:=I.tuple hq;obtain⟨⟨oc,od,oda,osl⟩,ho,hc,n,hd⟩:=id pl;obtain rfl:oc=.type "tuple":=hc;obtain rfl:oda=.seq its.toArray n:=hd;obtain⟨t',hit⟩:=iH r j k hj;refine MC PySem.F.slot_tuple_index ⟨_,ho,rfl⟩ PySem.F.entry_tuple_index (PySem.F.args_tuple_index_2 _ _) (uY (j:=j) (t':=t') (by rw[Kn];exact hit) λm hm=>?_) ⟨ho,⟨.int (j:Nat),H,I.tok _,⟨_,rfl⟩,q⟩⟩
 have hl:m<ws.length:=Mc hm (J6.mp hj).1;have e:=Jx hl;obtain⟨ty,hy⟩:=iH r m _ e;exact⟨_,ty,by rw[Kn];exact hy,λz=>hno m hm (by rw[e,z])⟩
open Builtin Builtin.Str
open PySem PySem.Spec PyProof PyProof.Rows
noncomputable def sh(K:W.Frag)(a:Addr):It:=
 ⟨λi H=>∃x,getL K a i H x,λi H x H'=>∃p y,(∀xs,bI K H a xs->xs[i]?=some y)/\H p=none/\x=.ref p/\H'=upd H p (.tup [.int i,y]),IG K a⟩
theorem r8{P:Program}{w:World}{K:W.Frag}{es:List Expr}{tk:Nat}{tp:Pos}(a it e:Addr)(hne:e≠it):Turn P w K (.Tuple es tk tp) (sh K a) [e,it] e (λi h=>(∃old,IsEnum h e it i old)/\h.IsListIter it a i) where
 mem:=by simp
 obj:=λi h st b hb=>by
  obtain⟨⟨old,he⟩,o,eo,c,d⟩:=st;rcases J9.mp hb with z|z
  ·subst z;exact⟨_,he,λv z=>by cases z⟩
  ·have z:b=it:=by simpa using z
   subst z;exact⟨o,eo,λv z=>by rw[d] at z;cases z⟩
 keep:=λi h h' st k=>by
  obtain⟨⟨old,he⟩,o,eo,r⟩:=st;exact⟨⟨old,k e (by simp) _ he⟩,o,k it (by simp) o eo,r⟩
 item:=by
  intro X hP hw hK hc i pins s σ H E I hf st hg;subst hP hw hK;obtain⟨x,xs,hq,hx⟩:=hg;obtain⟨⟨old,he⟩,hit⟩:=st;obtain⟨its,rv,p,hz⟩:=I.list hq;obtain⟨u,hu,ru⟩:=rv.get hx;obtain⟨g0,g1,g2,g3,g4,g5⟩:=hf e (by simp)
  obtain⟨f0,f1,f2,f3,f4,f5⟩:=hf it (by simp)
  have ht:s.heap.IsList a its.toArray:=p.isList;have ha:a≠it:=by
   rintro rfl;obtain⟨o,e1,c1,_⟩:=hit;obtain⟨o',e2,c2,_⟩:=ht;rw[e1] at e2;cases e2;rw[c1] at c2;exact absurd (Value.type.inj c2) (by decide)
  have hea:e≠a:=by
   rintro rfl;obtain⟨o',e2,c2,_⟩:=ht;have e1:s.heap.get? e=some _:=he;rw[e1] at e2;cases e2;exact absurd (Value.type.inj c2) (by decide)
  have hi:i<its.toArray.size:=by
   have:=(J6.mp hu).1
   simpa using this
  refine NQ (Draws.list (A:=X.A.in1) (I.ok.hd hc) it a ha its.toArray) he ⟨hit,ht⟩ hi hne (by simp[hne,hea]) λx' h' tk' hP ho hs' hT hsz hk=>?_
  have ex:x'=u:=by
   have hP':its.toArray[i]?=some x':=hP;rw[Kn,hu] at hP';exact (Option.some.inj hP').symm
  subst ex;refine⟨.ref s.heap.objs.size,rfl,N4 ho λh2 he2 hs2=>?_⟩;have fr:H s.heap.objs.size=none:=I.aQ.fresh (JD _);have hle:e≠s.heap.objs.size:=JX (JP he);have hT2:h2.get? s.heap.objs.size=some {cls:=.type "tuple",data:=.seq #[.int i tk',x']}:=(hs2.2 _ (KP hle)).trans hT;have I2:Inv X pins σ (upd H s.heap.objs.size (.tup [.int i,x])) {s with heap:=h2,toks:=tk'+1}:=by
   refine I.oy (fp:=[e,it]) hf (JD _) (λb o hb eb=>?_) ⟨by show 2<=sizeLine;decide,[.int i tk',x'],.cons ⟨_,rfl⟩ (.cons ru .nil),⟨_,hT2,rfl,_,rfl,rfl⟩⟩
   have n1:b≠e:=λz=>hb (by simp[z])
   have n2:b≠it:=λz=>hb (by simp[z])
   exact (hs2.2 b n1).trans (hk b o n1 n2 eb)
  refine⟨.ref s.heap.objs.size,_,I2,rfl,⟨s.heap.objs.size,x,λys hy=>by rw[I.km hy hq];exact hx,fr,rfl,rfl⟩,⟨⟨x',?_⟩,?_⟩,λb hb=>?_⟩
  ·have e:(((i+1:Nat)):Int)=(i:Int)+1:=by lia
   rw[e];exact he2
  ·obtain⟨o,e1,r⟩:=hs'.1;exact⟨o,(hs2.2 it (KP hne)).trans e1,r⟩
  ·have n:b≠s.heap.objs.size:=by
    rcases J9.mp hb with z|z
    ·subst z;exact hle
    ·have z:b=it:=by simpa using z
     subst z;obtain⟨o,e1,_⟩:=hit;exact JX (JP e1)
   rw[aj n];exact (hf b hb).1
 done:=by
  intro X hP hw hK hc i pins s σ H E I hf st hg;subst hP hw hK;obtain⟨xs,hq,hx⟩:=hg;obtain⟨⟨old,he⟩,hit⟩:=st;obtain⟨its,rv,p,hz⟩:=I.list hq;have ht:s.heap.IsList a its.toArray:=p.isList;have ha:a≠it:=by
   rintro rfl;obtain⟨o,e1,c1,_⟩:=hit;obtain⟨o',e2,c2,_⟩:=ht;rw[e1] at e2;cases e2;rw[c1] at c2;exact absurd (Value.type.inj c2) (by decide)
  have hl:=rv.length;have hsz:its.toArray.size=i:=by simp;lia
  refine Of (Draws.list (A:=X.A.in1) (I.ok.hd hc) it a ha its.toArray) he (by rw[hsz];exact⟨hit,ht⟩) λh' eb=>⟨rfl,?_⟩
  exact I.turns (t':=s.toks) hf λb o hb e1=>eb b o (λz=>hb (by simp[z])) e1
 self:=λA i s Q E st h=>by
  obtain⟨⟨old,he⟩,_⟩:=st;exact MG he h
section
variable {X:Cx} {es:List Expr} {tk:Nat} {tp:Pos}
noncomputable def j_(K:W.Frag)(ta:TA):TI:=λσ H R=>ta σ H λvs H1=>∃a,vs=[.ref a]/\(∃xs,bI K H1 a xs)/\R (sh K a) H1
theorem yT{e:Expr}{ta:TA}{p pos:Pos}(hg:Gl X "enumerate")(hm:X.mg "enumerate"=none)(ha:PA X [e] ta)(h1:autoParam (fT e=true) ℜ0)(hv:autoParam (bootBuiltins "enumerate"=some (.type "enumerate")) ℜ6):
  PI X (.Tuple es tk tp) (.Call (.Name "enumerate" p) [e] [] pos) (j_ X.K ta):=by
 intro pins s σ H R I h;refine Call_ (gj I hg hm hv (KW (cp (ha pos pins s σ H _ I h) λus s1 hq1=>?_) (d_ h1) rfl));obtain⟨vs,H1,I1,r1,q1⟩:=hq1;obtain⟨a,e,⟨xs,hq⟩,q⟩:=q1;subst e;obtain⟨u,rfl,ru⟩:=vals1 r1;cases ru;obtain⟨its,rv,pt,hz⟩:=I1.list hq;refine call_enumerate_list pt.isList λh' he hit hsz hk=>?_;refine MG he ?_;have I2:Inv X pins σ H1 {s1 with heap:=h'}:=I1.kept (t':=s1.toks) hk
 refine⟨s1.heap.objs.size+1,[s1.heap.objs.size+1,s1.heap.objs.size],_,_,H1,rfl,I2,r8 a s1.heap.objs.size (s1.heap.objs.size+1) (K_ (Ly _)),⟨⟨_,he⟩,hit⟩,λb hb=>?_,q⟩;have hb':s1.heap.objs.size<=b:=by
  rcases J9.mp hb with z|z
  ·rw[z];exact K8 _
  ·have z:b=s1.heap.objs.size:=by simpa using z
   rw[z];exact JD _
 exact I1.qm hb' (I1.aQ.fresh hb')
end
noncomputable def zI(K:W.Frag)(ws:List Str)(v:Value):Prop:=∃p,v=.ref p/\FR K p (ws.map V.str)
structure lJ (K:W.Frag) (a:Addr) (D:List (Str×List Str)):Prop where
 low:(a == sysModules)=false
 ex:∃o es ep,K.lookup a=some o/\o.ExactDict/\o.data=.dict es ep/\KTD.Rows (zI K) es.toList D
section
variable {prog:Program} {w:World} {A:Around} {E:Value->Shared->Prop} {s:Shared} {K:W.Frag} {a:Addr} {D:List (Str×List Str)} {k:Str} {tk:Tok}
theorem lJ.typeIs(T:lJ K a D)(X:K.In s.heap):s.TypeIs (.ref a) "dict":=let ⟨o,_,_,ho,hc,_⟩:=T.ex;⟨o,X _ _ ho,hc.1⟩
theorem zo{Q:Option Value->Shared->Prop}(T:lJ K a D)(X:K.In s.heap)(h1:∀d v,KTD.datumAt k D=some d->zI K d v->Q (some v) {s with toks:=s.toks+1})(h2:KTD.datumAt k D=none->Q none {s with toks:=s.toks+1}):
  wpAny (model prog w) A (dictGet a (.str k tk)) Q E s:=by
 obtain⟨o,es,ep,ho,hc,hd,hr⟩:=T.ex;have ho:=X _ _ ho;unfold dictGet
 try with_reducible refine KH ?_
 refine Jy (wpAny_pyHash_str (Jy (KTD.kt_dictFind_strs (s:={s with toks:=s.toks+1}) ho hd (by obtain⟨l⟩:=es;simpa using hr.exact) ?_)))
 have hq:Q (findBy (λk v=>v.isStr k) es k) {s with toks:=s.toks+1}:=by
  have hf:findBy (λk v=>v.isStr k) es k=(es.toList.find? λe=>e.key.isStr k).map (·.val):=by
   obtain⟨l⟩:=es;simp[findBy]
  rw[hf]
  cases hat:KTD.datumAt k D with
  |some d=>obtain⟨v,hv,hfl⟩:=hr.find_some hat;rw[hv];exact h1 d v hat hfl
  |none=>rw[hr.find_none hat];exact h2 hat
 rw[findBy_of_findIdx?] at hq
 cases hi:es.findIdx? λe=>e.key.isStr k with
 |none=>rw[hi] at hq;exact JJ hq
 |some i=>rw[hi] at hq;exact Jy (MH (s:={s with toks:=s.toks+1}) ho hd (JJ hq))
end
namespace Y
noncomputable def Ha(neg:Bool):R2:=λx y H Q=>∃a o,y=.ref a/\jB H a x o/\Q (.bl (if neg then !o.isSome else o.isSome)) H
theorem yt{X:Cx}(hu:X.A.units+1<cLine):dc X (compareOp .NotIn) (Ha true):=by
 intro pins s σ H x y v u Q I rx ry h;obtain⟨a,o,rfl,g,q⟩:=h;obtain rfl:u=Value.ref a:=ry;exact Ba hu I g rx λs' I'=>⟨.bl (!o.isSome),H,I',rfl,q⟩
theorem jf:∀(more kvs:List (Key×V)),((kvs++more).map (·.1)).Nodup->f7 kvs more=kvs++more
 |[],kvs,_=>by rw[Kp];rfl
 |p::r,kvs,h=>by
  have hn:fB kvs p.1=none:=by
   cases hv:fB kvs p.1 with
   |none=>rfl
   |some v =>
    have hm:=AH hv;rw[JR,Kg] at h;have:=List.nodup_append.mp h;exact absurd rfl (this.2.2 _ hm _ JH)
  show f7 (putK kvs p.1 p.2) r=_;rw[xD p.2 hn,jf r _ (by rw[JU];exact h),JU]
  rfl
noncomputable def Gg:V->List V->Hp->VK->Prop:=λx vs H Q=>∃z y,x=.str z/\vs=[.str y]/\Q (.int (Txt.find z y)) H
theorem AG{X:Cx}:sZ X "str.find" Gg:=by
 intro pins s σ H x xs v us Q I rx rs h;obtain⟨z,y,rfl,rfl,q⟩:=h;obtain⟨t,rfl⟩:=rx;obtain⟨u,rfl,k,rfl⟩:=vals1 rs;exact SC.find ⟨.int _,H,I.tok _,⟨_,rfl⟩,q⟩
end Y
open Builtin Builtin.Str
open PySem PySem.Spec PyProof PyProof.Rows
open Builtin Builtin.Str
section
variable {prog:Program} {w:World} {A:Around} {E:Value->Shared->Prop} {h:Heap} {g:Array GenState} {d:Drawn} {t:Nat} {os:OsState} {a:Addr} {items:Array Value} {cn:Nat}
theorem BC:typeLookup (.type "list") "keys"=pure none:=am_miss_of_fast (by kernel_rfl)
theorem rS:typeLookup (.type "list") "__getattr__"=pure none:=by rw[typeLookup_type,builtinLookup_eq_fast];kernel_rfl
theorem xw{name:Str}{tk:Tok}{Q:Fin->Shared->Prop}(hx:h.get? a=some {cls:=.type "list",dict:=none,data:=.seq items cn,slots:=#[]})(hmiss:typeLookup (.type "list") name=pure none)(hnc:(["__module__","__name__","__qualname__","__doc__","__annotations__"]:List Str).contains name=false)(hh:A.handled=none)
  (hq:∀h' tk' e,Heap.NewAttrErr h h' e (.ref a) name->E (.ref e) ⟨h',g,d,tk',os⟩) (hsz:name.length+100<=sizeLine:=by size_fits) :
  wpAny (model prog w) A (Builtin.«object.__getattribute__» ⟨[.ref a,.str name tk],[]⟩) Q E ⟨h,g,d,t,os⟩:=by
 have hT:(⟨h,g,d,t,os⟩:Shared).TypeIs (.ref a) "list":=⟨_,hx,rfl⟩;unfold Builtin.«object.__getattribute__»
 repeat (any_goals (first|assumption|wp_step))
 rw[JA (by rw[hnc];decide)]
 repeat (any_goals (first|assumption|wp_step))
 exact wpAny_raiseAttrError hh hq (attrMsg_fits (by decide +kernel) hsz)
theorem B_{name:Str}{tk:Tok}{R:Result->Shared->Prop}(hx:h.get? a=some {cls:=.type "list",dict:=none,data:=.seq items cn,slots:=#[]})(hmiss:typeLookup (.type "list") name=pure none)(hnc:(["__module__","__name__","__qualname__","__doc__","__annotations__"]:List Str).contains name=false)(hh:A.handled=none)
  (hq:∀h' tk' e,Heap.NewAttrErr h h' e (.ref a) name->R (.error (.ref e)) ⟨h',g,d,tk',os⟩) (hsz:name.length+100<=sizeLine:=by size_fits) :
  codeAny (model prog w) A (.call (.builtin "list.__getattribute__") ⟨[.ref a,.str name tk],[]⟩) R ⟨h,g,d,t,os⟩:=
 codeAny_call_builtin L9.plain F.entry_list_ga (L9.check _ _ _ _ _ _ _ _ (show (⟨h,g,d,t,os⟩:Shared).TypeIs (.ref a) "list" from⟨_,hx,rfl⟩) (F.args_list_getattribute_2 _ _) (xw hx hmiss hnc hh hq hsz))
theorem Gh{name:Str}{tk:Tok}{Q:Value->Shared->Prop}(hx:h.get? a=some {cls:=.type "list",dict:=none,data:=.seq items cn,slots:=#[]})(hmiss:typeLookup (.type "list") name=pure none)(hnc:(["__module__","__name__","__qualname__","__doc__","__annotations__"]:List Str).contains name=false)(hh:A.handled=none)
  (hq:∀h' tk' e,Heap.NewAttrErr h h' e (.ref a) name->E (.ref e) ⟨h',g,d,tk',os⟩) (hsz:name.length+100<=sizeLine:=by size_fits) :
  wpAny (model prog w) A (getAttrBy (.ref a) (.str name tk) false) Q E ⟨h,g,d,t,os⟩:=by
 have hT:(⟨h,g,d,t,os⟩:Shared).TypeIs (.ref a) "list":=⟨_,hx,rfl⟩;have f1:=sub_AttributeError;have f2:=L9.lookup;have f3:=L9.bind (.ref a);have f5:=rS
 repeat (any_goals (first|assumption|wp_step))
 refine B_ hx hmiss hnc hh (λh' tk' e x=>?_) hsz;obtain⟨t',u',he⟩:=x.there;show wpAny _ _ (getattributeRaised _ _ _ _ _ _ _) _ _ _;unfold getattributeRaised
 repeat (any_goals (first|assumption|wp_step))
 exact hq _ _ _ x
theorem Cr{name:Str}{Q:Option Value->Shared->Prop}(hx:h.get? a=some {cls:=.type "list",dict:=none,data:=.seq items cn,slots:=#[]})(hmiss:typeLookup (.type "list") name=pure none)(hnc:(["__module__","__name__","__qualname__","__doc__","__annotations__"]:List Str).contains name=false)(hh:A.handled=none)
  (hq:∀h' tk',(∀b o,h.get? b=some o->h'.get? b=some o)->Q none ⟨h',g,d,tk',os⟩) (hsz:name.length+100<=sizeLine:=by size_fits) :
  wpAny (model prog w) A (getAttr? (.ref a) name) Q E ⟨h,g,d,t,os⟩:=by
 have f1:=sub_AttributeError;unfold getAttr? getAttrBy?;refine Jy (wpAny_mkText (Jy (MP (Gh hx hmiss hnc hh (λh' tk' e x=>?_) hsz))));obtain⟨t',u',he⟩:=x.there;have k:=x.keeps
 repeat (any_goals (first|assumption|wp_step))
 exact hq _ _ x.keeps
end
section
variable {prog:Program} {w:World} {K:Type} [DecidableEq K] {knd:KeyKind prog w K} {A:Around} {R:Result->Shared->Prop}
theorem iF:plainId "dict.update.loop"=true:=by decide +kernel
theorem hG:entryFor table "dict.update.loop"=some Builtin.«dict.update.loop»:=entryFor_of_fast (by kernel_rfl)
theorem rY(kvs:List (K×Value))(k:K)(v:Value):(stored kvs k v).length<=kvs.length+1:=by
 unfold stored;split
 ·rw[Jz];lia
 ·rw[J5];simp
theorem kx:∀(more kvs:List (K×Value)),(merged kvs more).length<=kvs.length+more.length
 |[],kvs=>by unfold merged;simp
 |p::more,kvs=>by
  have h1:=kx more (stored kvs p.1 p.2);have h2:=rY kvs p.1 p.2;have e:merged kvs (p::more)=merged (stored kvs p.1 p.2) more:=rfl;rw[e,JK];lia
theorem Cg{it l dd:Addr}{items:Array Value}{more:List (K×Value)}(hh:A.handled=none)(hn:more.length=items.size)(h1:dd≠it)(h2:dd≠l)(h3:it≠l)(ps:Nat->Addr)(hps:∀i,i<items.size->items[i]?=some (.ref (ps i))/\ps i≠it/\ps i≠dd)(hsz:more.length<=20000):
  ∀(k i:Nat) (s:Shared),items.size-i=k->i<=items.size->s.heap.IsListIter it l i->s.heap.IsList l items->s.heap.DictOf knd dd (merged [] (more.take i)) ->
  (∀j,j<items.size->∃key v,s.heap.IsTuple (ps j) #[key,v]/\∃kk,more[j]?=some (kk,v)/\knd.is kk key=true) ->
  (∀h' tk,h'.DictOf knd dd (merged [] more)->(∀b o,b≠it->b≠dd->s.heap.get? b=some o->h'.get? b=some o)->R (.ok (.ret .none)) {s with heap:=h',toks:=tk}) ->
  codeAny (model prog w) A (.builtin "dict.update.loop" ⟨[.ref dd,.ref it,rawInt i,.none],[]⟩) R s:=by
 intro k
 induction k with
 |zero =>
  intro i s hk hi hit hl hd hp hR;have hin:i=items.size:=by lia
  subst hin;refine LO hG ?_;rw[Mg iF _];show wpAny _ A.in1 (pyNext (.ref it) >>= _) _ _ s;refine Jy (wpAny_pyNext_list_end hh hit hl (by simp) λh' he=>?_)
  refine Jy (JJ (JJ ?_));refine hR h' s.toks ?_ λb o b1 b2 e=>he b o b1 e;rw[Kj (by lia)] at hd
  exact hd.extBut he h1
 |succ k ih =>
  intro i s hk hi hit hl hd hp hR;have hlt:i<items.size:=by lia
  refine LO hG ?_;rw[Mg iF _];show wpAny _ A.in1 (pyNext (.ref it) >>= _) _ _ s;obtain⟨e1,e2,e3⟩:=hps i hlt;refine Jy (Ob hit hl e1 λh' hit' hs'=>?_);obtain⟨key,v,ht,kk,em,hkk⟩:=hp i hlt;have ht':h'.IsTuple (ps i) #[key,v]:=by obtain⟨o,ho,r⟩:=ht;exact⟨o,(hs'.2 _ e2).trans ho,r⟩
  have hd':h'.DictOf knd dd (merged [] (more.take i)):=by obtain⟨o,es,ep,ho,r⟩:=hd;exact⟨o,es,ep,(hs'.2 _ h1).trans ho,r⟩
  refine Jy (KH (Jy (wpAny_tryCatch ?_)));unfold Dict.pairItems;refine Jy (Na ht'.typeIs ?_);rw[JE (by decide)]
  obtain⟨o,ho,hoc,nn,hod⟩:=id ht';refine Jy (Md ho hod (JJ ?_));show wpAny _ A.in1 (holding [key,v] (dictSet dd key v)) _ _ _;refine KH (wpAny_dictSet_pairs hkk hd' (λh2' hd2 hs2=>?_) ?_)
  rotate_left
  ·exact JF (kx _ _) (JF (by rw[K2,Lb,JT];exact JF (Nat.min_le_right _ _) hsz) (by decide))
  have et:merged [] (more.take (i+1))=stored (merged [] (more.take i)) kk v:=by
   have hlt':i<more.length:=by lia
   have:more[i]=(kk,v):=by rw[Jx hlt'] at em;exact Option.some.inj em
   rw[MQ hlt',this];unfold merged;rw[List.foldl_append];rfl
  refine JJ ⟨O7 iF _,?_⟩;have:=ih (i+1) {s with heap:=h2',toks:=s.toks+1} (by lia) hlt (by obtain⟨o,ho,r⟩:=hit';exact⟨o,(hs2.2 _ (KP h1)).trans ho,r⟩) (by obtain⟨o,ho,r⟩:=hl;exact⟨o,(hs2.2 _ (KP h2)).trans ((hs'.2 _ (KP h3)).trans ho),r⟩) (by rw[et];exact hd2) (λj hj=>by
   obtain⟨key,v,⟨o,ho,r⟩,rr⟩:=hp j hj;obtain⟨f1,f2,f3⟩:=hps j hj;exact⟨key,v,⟨o,(hs2.2 _ f3).trans ((hs'.2 _ f2).trans ho),r⟩,rr⟩) (λh3' tk hd3 hk3=>hR h3' tk hd3 λb o b1 b2 e=>hk3 b o b1 b2 ((hs2.2 _ b2).trans ((hs'.2 _ b1).trans e)))
  exact this
theorem sf{E:Value->Shared->Prop}{s:Shared}{l:Addr}{items:Array Value}{cn:Nat}{more:List (K×Value)}{Q:Value->Shared->Prop}(hl:s.heap.get? l=some {cls:=.type "list",dict:=none,data:=.seq items cn,slots:=#[]})(hh:A.handled=none)(hn:more.length=items.size)(hsz:more.length<=20000)
  (ps:Nat->Addr) (hps:∀i,i<items.size->items[i]?=some (.ref (ps i))) (hp:∀j,j<items.size->∃key v,s.heap.IsTuple (ps j) #[key,v]/\∃kk,more[j]?=some (kk,v)/\knd.is kk key=true)
  (h:∀h' tk,h'.DictOf knd s.heap.objs.size (merged [] more)->(∀b o,s.heap.get? b=some o->h'.get? b=some o)->Q (.ref s.heap.objs.size) {s with heap:=h',toks:=tk}) :
  wpAny (model prog w) A (call (.type "dict") [.ref l]) Q E s:=by
 refine callType_codes (Q₁:=λobj s₁=>obj=.ref s.heap.objs.size/\s₁={s with heap:=s.heap.push {cls:=.type "dict",data:=.dict #[]}}) F.kt_called_dict (F.kt_typeCall_dict_1 _) F.entry_dict_init (kt_code_dict_new _ ⟨rfl,rfl⟩) ?_
 rintro obj s₁ ⟨rfl,rfl⟩;have hnew:(s.heap.push {cls:=.type "dict",data:=.dict #[]}).DictOf knd s.heap.objs.size []:=Heap.DictOf.new s.heap;refine⟨hnew.typeIs,F.args_dict_init_2 _ _,?_⟩;unfold Builtin.«dict.__init__»;refine Jy ?_;unfold Builtin.Dict.selfAndRest;refine Jy (wpAny_notOrdered_dict hnew.typeIs ?_);show wpAny _ _ (pure (s.heap.objs.size,[Value.ref l])) _ _ _;refine JJ ?_;show wpAny _ _ (Builtin.Dict.updateFrom "dict.__init__" s.heap.objs.size (.ref l) [] .none) _ _ _;unfold Builtin.Dict.updateFrom;have hl1:(s.heap.push {cls:=.type "dict",data:=.dict #[]}).get? l=some {cls:=.type "list",dict:=none,data:=.seq items cn,slots:=#[]}:=J7 _ hl;have hT:({s with heap:=s.heap.push {cls:=.type "dict",data:=.dict #[]}}:Shared).TypeIs (.ref l) "list":=⟨_,hl1,rfl⟩
 refine Jy (Na hT ?_);rw[JE (by decide)]
 refine Jy ?_;refine Cr hl1 BC (by decide +kernel) hh (λh1 tk1 k1=>?_)
 rw[JE (show (none:Option Value).isNone=true from rfl)];have hl2:h1.IsList l items:=⟨_,k1 _ _ hl1,rfl,cn,rfl⟩;have up:∀b o,s.heap.get? b=some o->h1.get? b=some o:=λb o e=>k1 b o (J7 _ e);obtain⟨od,es,ep,hod,hor⟩:=hnew;have hdl:s.heap.objs.size<h1.objs.size:=JP (k1 _ _ hod);have hll:l<s.heap.objs.size:=JP hl;have hpl:∀j,j<items.size->ps j<s.heap.objs.size:=λj hj=>by obtain⟨key,v,⟨o,ho,_⟩,_⟩:=hp j hj;exact JP ho
 refine Jy (NC (Jy (LY hl2 (JJ ⟨O7 iF _,?_⟩))));refine Cg (knd:=knd) (it:=h1.objs.size) (l:=l) (items:=items) (more:=more) (A:=A.in1) hh hn (JX hdl) (K_ hll) (K_ (Mc hll hdl)) ps (λi hi=>⟨hps i hi,JX (Mc (hpl i hi) hdl),JX (hpl i hi)⟩) hsz _ 0 _ rfl (JL _) ⟨_,JM _ rfl,rfl,rfl⟩ ?_ ⟨od,es,ep,J7 _ (k1 _ _ hod),hor⟩ (λj hj=>?_) (λh' tk hd hk=>⟨rfl,h h' tk hd λb o e=>hk b o ?_ ?_ (J7 _ (up b o e))⟩)
 ·obtain⟨o,ho,r⟩:=hl2;exact⟨o,J7 _ ho,r⟩
 ·obtain⟨key,v,⟨o,ho,r⟩,rr⟩:=hp j hj;exact⟨key,v,⟨o,J7 _ (up _ _ ho),r⟩,rr⟩
 ·exact JX (Mc (JP e) hdl)
 ·exact JX (JP e)
end
theorem nc{α β:Type}{F:α->β->Prop}:∀{l₁:List α} {l₂:List β},l₁.length=l₂.length->(∀(j:Nat) a b,l₁[j]?=some a->l₂[j]?=some b->F a b)->Paired F l₁ l₂
 |[],[],_,_=>.nil
 |[],_::_,h,_=>by cases h
 |_::_,[],h,_=>by cases h
 |a::l₁,b::l₂,h,f=>.cons (f 0 a b rfl rfl) (nc (Nat.succ.inj h) λj x y hx hy=>f (j+1) x y (by simpa using hx) (by simpa using hy))
noncomputable def Az(K:W.Frag)(H:Hp)(vs:List V)(kvs:List (Key×V)):Prop:=vs.length=kvs.length/\∀(j:Nat) (k:Key) (x:V),kvs[j]?=some (k,x)->∃p,vs[j]?=some (.ref p)/\H p=some (.tup [kV k,x])
noncomputable def E3(K:W.Frag):List V->Hp->VK->Prop:=λxs H Q=>∃l vs kvs,xs=[.ref l]/\H l=some (.lst vs)/\Az K H vs kvs/\kvs.length<=20000/\∀p,H p=none->Q (.ref p) (upd H p (.dK (f7 [] kvs)))
theorem j7{X:Cx}(K:W.Frag)(hc:X.calm=true):bu X (.type "dict") (E3 K):=by
 intro pins s σ H xs us Q I r h;obtain⟨l,vs,kvs,rfl,hl,hp,hk,q⟩:=h;obtain⟨u,rfl,e0⟩:=vals1 r;have e1:u=.ref l:=e0;subst e1;obtain⟨hlen,its,n,hv,hget⟩:=(show b9 X.prog X.w H s.heap l (.lst vs) from I.aQ l _ hl);have hsz:its.toArray.size=kvs.length:=by rw[<- hp.1,J8,<- Paired.length hv]
 have key:∀j,j<kvs.length->∃p k x,kvs[j]?=some (k,x)/\its[j]?=some (.ref p)/\∃ku xu,s.heap.IsTuple p #[ku,xu]/\iD k ku=true/\RelV x xu:=λj hj=>by
  obtain⟨p,e1,e2⟩:=hp.2 j kvs[j].1 kvs[j].2 (Jx hj);obtain⟨u,e3,e4⟩:=Vals.get hv e1;have e5:u=.ref p:=e4;subst e5;obtain⟨_,ts,tv,hT⟩:=(show b9 X.prog X.w H s.heap p (.tup [kV kvs[j].1,kvs[j].2]) from I.aQ p _ e2);obtain⟨ku,xu,rfl,r1,r2⟩:=vals2 tv;exact⟨p,_,_,Jx hj,e3,ku,xu,hT.to,pQ (P:=X.prog) (w:=X.w) r1,r2⟩
 obtain⟨f,hf⟩:=Classical.axiomOfChoice (r:=λ(j:Nat) (y:Addr×Value×Value)=>∀hj:j<kvs.length,s.heap.IsTuple y.1 #[y.2.1,y.2.2]/\iD kvs[j].1 y.2.1=true/\RelV kvs[j].2 y.2.2/\its[j]?=some (.ref y.1)) (λj=>by
  by_cases hj:j<kvs.length
  ·obtain⟨p,k,x,e1,e2,ku,xu,hT,h1,h2⟩:=key j hj;rw[Jx hj] at e1;have e1':kvs[j]=(k,x):=Option.some.inj e1;exact⟨(p,ku,xu),λ_=>⟨hT,by rw[e1'];exact h1,by rw[e1'];exact h2,e2⟩⟩
  ·exact⟨(0,.none,.none),λh=>absurd h hj⟩)
 let mv:List (Key×Value):=(List.range kvs.length).map λj=>((kvs[j]?.getD (.inl 0,.aR)).1,(f j).2.2)
 have hmv:mv.length=kvs.length:=by simp[mv]
 have hmj:∀j (hj:j<kvs.length),mv[j]?=some (kvs[j].1,(f j).2.2):=λj hj=>by
  simp only[mv,JC,List.getElem?_range hj,Option.map_some,Jx hj,Option.getD_some]
 have at':∀j (hj:j<kvs.length),∃ku xu,s.heap.IsTuple (f j).1 #[ku,xu]/\iD kvs[j].1 ku=true/\RelV kvs[j].2 xu/\its[j]?=some (.ref (f j).1)/\mv[j]?=some (kvs[j].1,xu):=λj hj=>by
  obtain⟨h1,h2,h3,h4⟩:=hf j hj;exact⟨_,_,h1,h2,h3,h4,hmj j hj⟩
 have hKV:KV kvs mv:=by
  refine nc (by rw[hmv]) λj a b ha hb=>?_
  have hj:j<kvs.length:=by
   rcases Kx j kvs.length with c|c
   ·exact c
   ·rw[Lh.mpr c] at ha;cases ha
  obtain⟨ku,xu,_,_,h2,_,h3⟩:=at' j hj;rw[Jx hj] at ha;cases ha;rw[h3] at hb;cases hb;exact⟨rfl,h2⟩
 refine sf (knd:=cg X.prog X.w) hget (I.ok.hd hc) (by rw[hmv,hsz]) (by rw[hmv];exact hk) (λj=>(f j).1) (λi hi=>?_) (λj hj=>?_) (λh' tk hd hkp=>?_)
 ·rw[hsz] at hi;obtain⟨_,_,_,_,_,e,_⟩:=at' i hi;rw[Kn];exact e
 ·rw[hsz] at hj;obtain⟨ku,xu,hT,h1,_,_,h3⟩:=at' j hj;exact⟨ku,xu,hT,_,h3,h1⟩
 ·have hz:(f7 [] kvs).length<=sizeLine:=by
   have h1:=gW kvs [];rw[K2] at h1;exact JF (show _<=20000 by lia) (by decide)
  exact⟨.ref s.heap.objs.size,_,I.laid (t':=tk) hkp (JD _) (zN hz (Ka.mpr (KP (JX I.big))) (hKV.merge .nil) hd),rfl,q _ (I.aQ.fresh (JD _))⟩
open PySem PySem.Spec PyProof PyProof.Rows
namespace Z
section
variable {X:Cx} {CX:pJ} {k:Nat} {f C:Addr} {fd:FuncData} {ps:List Str} {sp:Sp} {E:XK} {x m nm:Str} {p pos pos' apos:Pos} {e o i value:Expr} {es:List Expr} {ta tv td ty:TE} {t:TA}
theorem fld(K:W.Frag)(hK:X.K=K)(he:QE X e ta)(hb:autoParam (attributeBase e nm X.env (eval e X.env)=eval e X.env) ℜ0):QE X (.Attribute e nm pos) (yi K ta nm):=by subst hK;exact⟨Fc he.h hb⟩
theorem yO(K:W.Frag)(hK:X.K=K)(ha:QE X o ta)(hv:QE X value tv)(hs:autoParam (swapsWith value (some (.Attribute o nm pos')) pos.line X.env=pure false) ℜ0):QS X (.Assign [.Attribute o nm pos'] value pos) (yd K ta tv nm):=by subst hK;exact⟨DZ ha.h hv.h hs⟩
theorem B5(K:W.Frag)(hK:X.K=K){pl:Sem Bool}(he:QE X o ta)(c:lV K C)(hm:Meth K C m f)(F:cN X.prog X.w K X.mg X.base CX k f fd ps sp)(hr:bM k X.A)(hb:Binds K fd ps [])(hx:Passes CX X E)(ha:QA X (e::es) t)
  (hst:autoParam (starEach (e::es) X.env=(false,eval e X.env)::starEach es X.env) ℜ0) (hpl:autoParam ((backTo pos (starEach es X.env)).any (·.1)=false) ℜ0)
  (ht:autoParam (eval (.Call (.Attribute o m apos) (e::es) [] pos) X.env=(do
   let ov <- eval o X.env
   standAt apos.atName
   let (f,first) <- holding [ov] (getMethod ov m pl)
   callWith pos f first (backTo pos (starEach (e::es) X.env)) (backToKw pos (keywordEach [] X.env)))) ℜ0) :
  QE X (.Call (.Attribute o m apos) (e::es) [] pos) (kE C m sp [] E ta t):=by subst hK;exact⟨Bw (pl:=pl) he.h c hm F hr hb .nil hx ha.h hst hpl ht⟩
theorem p_(K:W.Frag)(hK:X.K=K){pl:Sem Bool}(he:QE X o ta)(c:lV K C)(hm:Meth K C m f)(F:cN X.prog X.w K X.mg X.base CX k f fd ps sp)(hr:bM k X.A)(hb:Binds K fd ps [])(hx:Passes CX X E)
  (ht:autoParam (eval (.Call (.Attribute o m apos) [] [] pos) X.env=(do
   let ov <- eval o X.env
   standAt apos.atName
   let (f,first) <- holding [ov] (getMethod ov m pl)
   callWith pos f first (backTo pos (starEach [] X.env)) (backToKw pos (keywordEach [] X.env)))) ℜ0) :
  QE X (.Call (.Attribute o m apos) [] [] pos) (kE C m sp [] E ta oz):=by subst hK;exact⟨Ac (pl:=pl) he.h c hm F hr hb .nil hx ht⟩
theorem make(K:W.Frag)(hK:X.K=K)(M:Mk K C f)(F:cN X.prog X.w K X.mg X.base CX k f fd ps sp)(hr:bM (k+1) X.A)(hg:Gl X x)(hm:X.mg x=some (.ref C))(hb:Binds K fd ps [])(hx:Passes CX X E)
  (ha:QA X (e::es) t) (hdb:autoParam ((x ==("__debug__":Str))=false) ℜ1) (he:autoParam (starEach (e::es) X.env=(false,eval e X.env)::starEach es X.env) ℜ0) (hpl:autoParam ((backTo pos (starEach es X.env)).any (·.1)=false) ℜ0) :
  QE X (.Call (.Name x p) (e::es) [] pos) (pH C sp [] E t):=by subst hK;exact⟨Bh M F hr hg hm hb .nil hx ha.h hdb he hpl⟩
theorem vv(hu:X.A.units+1<cLine)(ho:QE X o td)(hi:QE X i ty)(hs:xY i:=by exactλ_ _=>rfl):QE X (.Subscript o i pos) (qf td ty):=⟨AM hu ho.h hi.h hs⟩
theorem dput(hu:X.A.units+1<cLine)(ho:QE X o td)(hi:QE X i ty)(hv:QE X value tv)(hs:autoParam (swapsWith value (some (.Subscript o i pos')) pos.line X.env=pure false) ℜ0):QS X (.Assign [.Subscript o i pos'] value pos) (pX td ty tv):=⟨AW hu ho.h hi.h hv.h hs⟩
end
end Z
namespace Ap
theorem yi(K:W.Frag)(ta:TE)(f:Str)(σ:St)(H:Hp)(Q:VK):L2.yi K ta f σ H Q=ta σ H λx H1=>∃a C dx fs v,x=.ref a/\H1 a=some (.ins C dx fs)/\lV K C/\bK K C f/\fs.lookup f=some v/\Q v H1:=rfl
theorem yd(K:W.Frag)(ta tv:TE)(f:Str)(D:Ends)(σ:St)(H:Hp):L2.yd K ta tv f D σ H=tv σ H λy H1=>ta σ H1 λx H2=>∃a C dx fs,x=.ref a/\H2 a=some (.ins C dx fs)/\lV K C/\bK K C f/\fs.length<1000/\D.nx σ (upd H2 a (.ins C dx (dD f y fs))):=rfl
theorem kE(C:Addr)(m:Str)(sp:Sp)(dvs:List V)(E:XK)(ta:TE)(t:TA)(σ:St)(H:Hp)(Q:VK):L2.kE C m sp dvs E ta t σ H Q=ta σ H λx H1=>∃a dx fs,x=.ref a/\H1 a=some (.ins C dx fs)/\fs.lookup m=none/\t σ H1 λvs H2=>sp (x::(vs++dvs)) H2 Q E:=rfl
theorem pH(C:Addr)(sp:Sp)(dvs:List V)(E:XK)(t:TA)(σ:St)(H:Hp)(Q:VK):L2.pH C sp dvs E t σ H Q=t σ H λvs H1=>∀x dx,H1 x=none->H1 dx=none->dx≠x->sp (.ref x::(vs++dvs)) (upd (upd H1 dx (.own x)) x (.ins C dx [])) (λv H2=>v=.aR/\Q (.ref x) H2) E:=rfl
theorem qf(td ty:TE)(σ:St)(H:Hp)(Q:VK):L2.qf td ty σ H Q=td σ H λx H1=>ty σ H1 λy H2=>∃a v,x=.ref a/\jB H2 a y (some v)/\Q v H2:=rfl
theorem pX(td ty tv:TE)(D:Ends)(σ:St)(H:Hp):L2.pX td ty tv D σ H=tv σ H λv H1=>td σ H1 λx H2=>ty σ H2 λy H3=>∃a H4,x=.ref a/\EF H3 a y v H4/\D.nx σ H4:=rfl
end Ap
section
variable {prog:Program} {w:World} {A:Around} {E:Value->Shared->Prop} {s:Shared} {K:W.Frag} {a:Addr} {D:List (Str×List Str)} {k:Str} {tk:Tok}
theorem wg{ws:List Str}{Q:Value->Shared->Prop}(T:lJ K a D)(X:K.In s.heap)(hk:KTD.datumAt k D=some ws)(h:∀v,zI K ws v->Q v {s with toks:=s.toks+1}):wpAny (model prog w) A (getItem (.ref a) (.str k tk)) Q E s:=by
 have hT:=T.typeIs X;unfold getItem
 try with_reducible refine KH ?_
 refine Jy (wpAny_sequenceKey hT (by decide) ?_)
 refine Jy (Kz (name:=Str.ofString "__getitem__") hT PySem.F.slot_dict_getitem
  (KC PySem.F.slot_dict_getitem hT PySem.F.entry_dict_getitem ?_ (args_dict_getitem _ _)))
 show wpAny _ _ (dictGet a (.str k tk) >>= _) _ _ s;refine Jy (zo T X (λd v e r=>?_) λe=>?_)
 ·rw[hk] at e;cases e;exact JJ ⟨v,rfl,JJ (h v r)⟩
 ·rw[hk] at e;cases e
end
variable{Q:Value->Shared->Prop}{X:Cx}{body e:Expr}{c' d f kS:Addr}{D:List (Str×List Str)}{a b:List Nat}{q x:Str}{e1 ep i:Nat}{α:Type}{p:Array Nat}{N:List Str}{σf:List (Option V)}{scope:Scope}{cl:List (Str×Addr)}{params:Arguments}{ctv pm:Value}{H H1:Hp}{h h':Heap}{P:PySem.Fin->Shared->Prop}{us:List Value}{kz ns:List Int}{xs:List V}{K:W.Frag}{es:Array DictEntry}{prog:Program}
noncomputable def zT(K:W.Frag)(D:List (Str×List Str))(te:TE):TE:=λσ H Q=>te σ H λy H1=>∃k ws,y=.str k/\KTD.datumAt k D=some ws/\∀p,FR K p (ws.map V.str)->Q (.ref p) H1
theorem EN{o:Expr}{te:TE}{pos:Pos}(ho:PE X o (tC (.ref d)))(hD:lJ X.K d D)(he:PE X e te)(hs:xY e):PE X (.Subscript o e pos) (zT X.K D te):=by
 intro pins s σ H Q I h;refine sL PySem.F.slot_dict_getitem.lookup hs (cp (ho pins s σ H (λv H'=>v=.ref d/\H'=H) I ⟨rfl,rfl⟩) λu s1 hq1=>?_);obtain⟨x,H1,I1,rx,ex,eh⟩:=hq1;subst ex eh;obtain rfl:u=Value.ref d:=rx;refine cp (he pins s1 σ H1 _ I1 h) λiv s2 hq2=>?_;obtain⟨y,H2,I2,ry,k,ws,ek,e1,q⟩:=hq2;subst ek;obtain⟨t,rfl⟩:=ry;refine⟨hD.typeIs I2.iP,wg hD I2.iP e1 λv r=>?_⟩;obtain⟨p,rfl,r⟩:=r;exact⟨.ref p,H2,I2.tok _,rfl,q p r⟩
theorem Z.seq{tg l:Expr}{tl:TE}(K:W.Frag)(hK:X.K=K)(hl:QE X l tl):QI X tg l (wR K tl):=by subst hK;exact⟨Dy hl.h⟩
theorem Ap.wR(K:W.Frag)(tl:TE)(σ:St)(H:Hp)(R:It->Hp->Prop):L2.wR K tl σ H R=tl σ H λx H1=>∃a,x=V.ref a/\(((∃xs,bI K H1 a xs)/\R (sT K a) H1)\/((∃xs,bz K H1 a xs)/\R (so K a) H1)):=rfl
namespace Y
noncomputable def HB(K:W.Frag):List V->Hp->VK->Prop:=λxs H Q=>∃(p:Addr) (ns:List Int),xs=[.ref p]/\(bI K H p (ns.map V.int)\/bz K H p (ns.map V.int))/\Q (.int ns.sum) H
theorem vI(K:W.Frag)(hK:X.K=K)(hc:X.calm=true):bu X (.builtin "sum") (HB K):=by
 subst hK;intro pins s σ H xs us Q I r h;obtain⟨p,ns,rfl,hq,q⟩:=h;rcases hq with hq|hq
 ·exact mR hc pins s σ H _ us Q I r ⟨p,ns,rfl,hq,q⟩
 ·obtain⟨u,rfl,ru⟩:=vals1 r;cases ru;obtain⟨its,rv,pl,hz⟩:=I.tuple hq;have hi:=intsAre_of rv;obtain⟨xs,hx⟩:=hi.allInts.items;have hl':s.heap.IsTuple p (intItems xs):=by rw[<- hx];exact pl
  refine W.ktm_sumG (I.ok.hd hc) hl' λh' tk t' hk=>?_;have e1:ns=xs.toList.map (·.1):=by rw[<- nums_intItems,<- hx];exact hi.numsOf.symm
  have e2:preSum (numAt xs) xs.size=ns.sum:=by rw[preSum_eq,Kj (by simp),e1]
  rw[e2];exact⟨.int ns.sum,H,I.kept hk,⟨_,rfl⟩,q⟩
noncomputable def HL:V->List V->Hp->VK->Prop:=λx vs H Q=>∃(a:Addr) (ws:List Str) (k:Str) (j:Nat),x=.ref a/\H a=some (.lst (ws.map V.str))/\vs=[.str k]/\ws[j]?=some k/\(∀m,m<j->ws[m]?≠some k)/\Q (.int (j:Nat)) H
theorem uJ:H_ X "list.index" HL:=by
 intro pins s σ H x xs v us Q I rx rs h;obtain⟨a,ws,k,j,rfl,hH,rfl,hj,hno,q⟩:=h;cases rx;obtain⟨u,rfl,t,rfl⟩:=vals1 rs;obtain⟨z,its,n,r,hl,e⟩:=I.qM hH;obtain⟨t',hit⟩:=iH r j k hj;have hjl:j<ws.length:=(J6.mp hj).1;rw[Jz] at z hl;have hji:j<its.toArray.size:=by rw[J8];lia
 have sz:(sizeLine:Int)<2^63-1:=by decide
 have hje:its.toArray[j]=.str k t':=by
  have:its.toArray[j]?=some (.str k t'):=by rw[Kn];exact hit
  exact (KI.mp this).2
 have hall:∀(m:Nat) (hm:m<its.toArray.size),∃y ty,its.toArray[m]=.str y ty/\ws[m]?=some y:=λm hm=>by
  have hm':m<ws.length:=by rw[J8] at hm;lia
  have e1:=Jx hm';obtain⟨ty,hy⟩:=iH r m _ e1;have:its.toArray[m]?=some (.str ws[m] ty):=by rw[Kn];exact hy
  exact⟨_,ty,(KI.mp this).2,e1⟩
 refine MC PySem.F.slot_list_index ⟨_,e,rfl⟩ PySem.F.entry_list_index (PySem.F.args_list_index_2 _ _) (SeqAt.list_indexAt a its.toArray n none _ (.str k t) (λy=>match y with|.str y _=>y == k|_=>false) j hji (by lia) (by rw[hje];exact Kw k) λm hm hmj=>?_) ⟨e,λy hy=>?_,⟨.int (j:Nat),H,I.tok _,⟨_,rfl⟩,q⟩⟩
 ·obtain⟨y,ty,ey,ew⟩:=hall m hm;rw[ey];exact Ka.mpr λz=>hno m hmj (by rw[ew,z])
 ·obtain⟨m,hm,rfl⟩:=Ow.mp hy;obtain⟨y,ty,ey,ew⟩:=hall m hm;rw[ey];exact SeqAt.EqAt.str_str _ _ _ _
end Y
open PySem PySem.Spec PyProof PyProof.Rows PySem.W
namespace SP
section
variable (k:Nat->Int)
noncomputable def R(i j:Nat):Prop:=k i<k j\/(k i=k j/\i<j)
variable {k}
theorem R.le{a b:Nat}(h:R k a b):k a<=k b:=by unfold R at h;lia
end
structure PI (n m:Nat) (p:Array Nat) (a:List Nat):Prop where
 eq:p.toList=a++List.range' m (n-m)
 perm:a.Perm (List.range m)
 le:m<=n
section
variable {n m:Nat} {p:Array Nat} {a:List Nat}
theorem PI.len(h:PI n m p a):a.length=m:=by rw[h.perm.length_eq,Ky]
theorem PI.lt(h:PI n m p a){x:Nat}(hx:x∈a):x<m:=KJ.mp (h.perm.mem_iff.mp hx)
theorem PI.size(h:PI n m p a):p.size=n:=by
 have:=h.len;have:=h.le;rw[<- Km,h.eq,J5,List.length_range',h.len];lia
theorem PI.at(h:PI n m p a){x:Nat}(hi:a[i]?=some x):p.getD i 0=x:=by
 have:p[i]?=some x:=by
  rw[<- Kh,h.eq,Kf (J6.mp hi).1];exact hi
 rw[N0,this];rfl
theorem PI.nx(h:PI n m p a)(hm:m<n):p.getD m 0=m:=by
 have:p[m]?=some m:=by
  rw[<- Kh,h.eq,JY (by rw[h.len];exact JD m),h.len,Lo,List.getElem?_range' (by lia)];simp
 rw[N0,this];rfl
theorem PI.step(h:PI n m p a)(hm:m<n):PI n (m+1) p (a++[m]):=by
 refine⟨?_,?_,hm⟩
 ·rw[h.eq,JU,show n-m=(n-(m+1))+1 by lia,Ld];rfl
 ·rw[NY];exact h.perm.append_right [m]
theorem PI.last(h:PI n m p a){y:Nat}(e:a=b++[y]):p.getD (m-1) 0=y:=by
 refine h.at ?_;have:=h.len;rw[e,J5] at this;simp only[JK,K2] at this;rw[e,JY (by lia),show m-1-b.length=0 by lia];rfl
end
theorem yz{xs:Array α}{k l:Nat}{y:α}(hy:xs[k]?=some y)(hl:l<=k):(bubble xs k (k-l)).toList=xs.toList.take l++y::(xs.toList.drop l).take (k-l)++xs.toList.drop (k+1):=by
 have hk:k<xs.size:=(KI.mp hy).1;have hL:xs.toList.length=xs.size:=by simp
 apply NA;intro i;rw[Kh,getElem?_bubble hk _ (by lia),show k-(k-l)=l by lia]
 rw[JU,Mh];have ht:(xs.toList.take l).length=l:=by rw[JT];lia
 rw[ht];by_cases h1:i<l
 ·rw[JE h1,JA (by lia),JA (by lia),LP,JE h1,Kh]
 ·rw[JA h1];by_cases h2:i=l
  ·subst h2;rw[JE rfl,Lo,hy];rfl
  ·rw[JA h2,show i-l=(i-l-1)+1 by lia,KQ,NS,Mh]
   have hm:((xs.toList.drop l).take (k-l)).length=k-l:=by rw[JT,Ks];lia
   rw[hm];by_cases h3:i-l-1<k-l
   ·rw[JE h3,JE (by lia),LP,JE h3,Le,Kh]
    congr 1;lia
   ·rw[JA h3,JA (by lia),Le,Kh]
    congr 1;lia
theorem yc{xs:Array α}{j:Nat}(hi:i<=j)(hj:j<=xs.size):(mirror xs i j ((j-i) / 2)).toList=xs.toList.take i++((xs.toList.drop i).take (j-i)).reverse++xs.toList.drop j:=by
 have hL:xs.toList.length=xs.size:=by simp
 apply NA;intro k;rw[Kh,getElem?_mirror_all hj,JU,Mh];have ht:(xs.toList.take i).length=i:=by rw[JT];lia
 have hm:((xs.toList.drop i).take (j-i)).length=j-i:=by rw[JT,Ks];lia
 rw[ht];by_cases h1:k<i
 ·rw[JE h1,JA (by lia),LP,JE h1,Kh]
 ·rw[JA h1,Mh,LF,hm];by_cases h2:k<j
  ·rw[JE (by lia),JE (by lia),List.getElem?_reverse (by lia),hm,LP,JE (by lia),Le,Kh]
   congr 1;lia
  ·rw[JA (by lia),JA (by lia),Le,Kh]
   congr 1;lia
theorem PI.rev{n m:Nat}{c:List Nat}(h:PI n m p (b++c)):PI n m (kas_rev p b.length m) (b++c.reverse):=by
 have hl:b.length+c.length=m:=by rw[<- h.len,J5]
 refine⟨?_,((List.reverse_perm c).append_left b).trans h.perm,h.le⟩;unfold kas_rev;rw[yc (by lia) (by rw[h.size];exact h.le),h.eq,JU b c,MD,Ox,show m-b.length=c.length by lia,MD,<- JU b c,List.drop_left' (by rw[J5];exact hl)]
theorem oI{m:Nat}(h:a.length=m)(hm:1<=m):∃b y,a=b++[y]:=by
 rcases Oy a with rfl|⟨b,y,rfl⟩
 ·cases h;exact absurd hm (by decide)
 ·exact⟨b,y,by simp⟩
section
variable {k:Nat->Int} {n:Nat} {cmp:Nat->Nat->(Bool->Shared->Prop)->Shared->Prop} {I:Shared->Prop}
noncomputable def pA(k:Nat->Int)(n:Nat)(cmp:Nat->Nat->(Bool->Shared->Prop)->Shared->Prop)(I:Shared->Prop):Prop:=∀i j C s,i<n->j<n->I s->(∀s',I s'->C (decide (k i<k j)) s')->cmp i j C s
theorem rp(hc:pA k n cmp I){G:Nat->Shared->Prop}:∀(f m:Nat) (a:List Nat) (s:Shared),PI n m p a->1<=m->f=n-m->a.Pairwise (R k)->I s ->
  (∀m' a' s',PI n m' p a'->m<=m'->a'.Pairwise (R k)->I s'->(∀b y,a'=b++[y]->m'<n->k m'<k y)->G m' s')->(kas_asc p f m).kasWp cmp G s
 |0,m,a,s,h,h1,hf,hp,hI,g=>g m a s h (JD m) hp hI λ_ _ _ hl=>by have:=h.le;lia
 |f+1,m,a,s,h,h1,hf,hp,hI,g=>by
  have hm:m<n:=by lia
  obtain⟨b,y,e⟩:=oI h.len h1;show cmp (p.getD m 0) (p.getD (m-1) 0) _ s;rw[h.nx hm,h.last e];have hy:y<m:=h.lt (by rw[e];simp)
  refine hc m y _ s hm (by lia) hI λs' hI'=>?_
  by_cases c:k m<k y
  ·rw[Kc c];exact g m a s' h (JD m) hp hI' λb' y' e' _=>by
    rw[e] at e';have:[y]=[y']:=(List.append_inj' e' rfl).2
    cases this;exact c
  ·rw[Ke c];refine rp hc f (m+1) (a++[m]) s' (h.step hm) (by lia) (by lia) ?_ hI' λm' a' s2 h' hm' hp' hI2 gl=>g m' a' s2 h' (by lia) hp' hI2 gl
   refine KD.mpr ⟨hp,by simp,λx hx z hz=>?_⟩
   rw[JQ.mp hz];have hxm:=h.lt hx;have:k x<=k y:=by
    rw[e] at hx hp;rcases K0.mp hx with hx|hx
    ·exact ((KD.mp hp).2.2 x hx y (by simp)).le
    ·rw[JQ.mp hx];exact MK _
   unfold R;lia
structure DI (k:Nat->Int) (b c:List Nat):Prop where
 EC:b.Pairwise λx y=>R k y x
 less:∀y∈b,∀x∈c,k x<k y
 one:∀x∈c,∀y∈c,k x=k y
 up:c.Pairwise (· < ·)
theorem DI.rise{c:List Nat}(h:DI k b c):(b++c.reverse).reverse.Pairwise (R k):=by
 rw[Nl,Mi];refine KD.mpr ⟨?_,MR.mpr h.EC,λx hx y hy=>.inl (h.less y (Lz.mp hy) x hx)⟩;exact M7 (λ{x y} hx hy hl=>.inr ⟨h.one x hx y hy,hl⟩) h.up
theorem DI.next{c:List Nat}{x:Nat}(h:DI k b c)(hc:c≠[])(hx:∀y∈c,k x<k y):DI k (b++c.reverse) [x]:=by
 refine⟨KD.mpr ⟨h.EC,MR.mpr (M7 (λ{x y} hx hy hl=>.inr ⟨h.one x hx y hy,hl⟩) h.up),λy hy z hz=>.inl (h.less y hy z (Lz.mp hz))⟩,λy hy z hz=>?_,λy hy z hz=>?_,by simp⟩
 ·rw[JQ.mp hz];rcases K0.mp hy with hy|hy
  ·obtain⟨w,hw⟩:=NF c hc;exact Int.lt_trans (hx w hw) (h.less y hy w hw)
  ·exact hx y (Lz.mp hy)
 ·rw[JQ.mp hy,JQ.mp hz]
theorem DI.more{c:List Nat}{x:Nat}(h:DI k b c)(he:∀y∈c,k x=k y)(hc:c≠[])(hl:∀y∈c,y<x):DI k b (c++[x]):=by
 refine⟨h.EC,λy hy z hz=>?_,λy hy z hz=>?_,KD.mpr ⟨h.up,by simp,λy hy z hz=>by rw[JQ.mp hz];exact hl y hy⟩⟩
 ·rcases K0.mp hz with hz|hz
  ·exact h.less y hy z hz
  ·rw[JQ.mp hz];obtain⟨w,hw⟩:=NF c hc;rw[he w hw];exact h.less y hy w hw
 ·rcases K0.mp hy with hy|hy<;>rcases K0.mp hz with hz|hz
  ·exact h.one y hy z hz
  ·rw[JQ.mp hz];exact (he y hy).symm
  ·rw[JQ.mp hy];exact he z hz
  ·rw[JQ.mp hy,JQ.mp hz]
theorem jP(hc:pA k n cmp I){G:Array Nat×Nat×Nat->Shared->Prop}:∀(f:Nat) (p:Array Nat) (m q:Nat) (b c:List Nat) (s:Shared),PI n m p (b++c)->c.length=q+1->DI k b c->f=n-m->I s ->
  (∀p' m' q' b' c' s',PI n m' p' (b'++c')->c'.length=q'+1->DI k b' c'->I s'->G (p',m',q') s')->(kas_desc f p m q).kasWp cmp G s
 |0,p,m,q,b,c,s,h,hl,hd,hf,hI,g=>g p m q b c s h hl hd hI
 |f+1,p,m,q,b,c,s,h,hl,hd,hf,hI,g=>by
  have hm:m<n:=by lia
  obtain⟨c0,y,e⟩:=oI hl (by lia)
  have hbl:b.length+(q+1)=m:=by rw[<- hl,<- J5,h.len]
  have ne:c≠[]:=by rw[e];simp
  have hy:y∈c:=by rw[e];simp
  have hya:y<m:=h.lt (JV _ hy);have e1:p.getD m 0=m:=h.nx hm;have e2:p.getD (m-1) 0=y:=h.last (b:=b++c0) (by rw[e,JU])
  show cmp (p.getD m 0) (p.getD (m-1) 0) _ s;rw[e1,e2];refine hc m y _ s hm (by lia) hI λs' hI'=>?_
  by_cases c1:k m<k y
  ·rw[Kc c1];have hx:∀z∈c,k m<k z:=λz hz=>by rw[hd.one z hz y hy];exact c1
   show KasT.kasWp cmp (if q > 0 then _ else _) G s'
   by_cases hq:q > 0
   ·rw[JE hq,show m-(q+1)=b.length by lia]
    exact jP hc f _ (m+1) 0 (b++c.reverse) [m] s' (h.rev.step hm) rfl (hd.next ne hx) (by lia) hI' g
   ·rw[JA hq];have e3:c.reverse=c:=by
     have:c.length=1:=by lia
     obtain⟨z,rfl⟩:=Og.mp this;rfl
    exact jP hc f p (m+1) 0 (b++c.reverse) [m] s' (by rw[e3];exact h.step hm) rfl (hd.next ne hx) (by lia) hI' g
  ·rw[Ke c1];show cmp y m _ s';refine hc y m _ s' (by lia) hm hI' λs2 hI2=>?_
   by_cases c2:k y<k m
   ·rw[Kc c2];exact g p m q b c s2 h hl hd hI2
   ·rw[Ke c2];refine jP hc f p (m+1) (q+1) b (c++[m]) s2 (by rw[<- JU];exact h.step hm) (by rw[J5,hl];rfl) (hd.more (λz hz=>?_) ne λz hz=>h.lt (JV _ hz)) (by lia) hI2 g
    rw[hd.one z hz y hy];lia
theorem sU(hc:pA k n cmp I){G:Nat×Array Nat->Shared->Prop}{m:Nat}{s:Shared}(h:PI n m p a)(h1:1<=m)(hr:a.reverse.Pairwise (R k))(hI:I s)
  (g:∀m' p' a' s',PI n m' p' a'->1<=m'->a'.Pairwise (R k)->I s'->G (m',p') s'):(kas_tail3 m n p).kasWp cmp G s:=by
 unfold kas_tail3;rw[Mw];have hv:=PI.rev (b:=[]) (c:=a) h;exact rp hc (n-m) m a.reverse s hv h1 rfl hr hI λm' a' s' h' hm' hp' hI' _=>g m' _ a' s' h' (by lia) hp' hI'
theorem tZ(hc:pA k n cmp I){G:Nat×Array Nat->Shared->Prop}{m:Nat}{s:Shared}(h:PI n m p a)(hm:m<n)(hd:DI k a [m])(hI:I s)
  (g:∀m' p' a' s',PI n m' p' a'->1<=m'->a'.Pairwise (R k)->I s'->G (m',p') s'):(kas_descPart m n p).kasWp cmp G s:=by
 unfold kas_descPart;rw[Mw];refine jP hc (n-(m+1)) p (m+1) 0 a [m] s (h.step hm) rfl hd rfl hI λp' m' q' b' c' s' h' hl' hd' hI'=>?_;have hbl:b'.length+(q'+1)=m':=by rw[<- hl',<- J5,h'.len]
 show KasT.kasWp cmp (if q' > 0 then _ else _) G s'
 by_cases hq:q' > 0
 ·rw[JE hq];show (kas_tail3 m' n (kas_rev p' (m'-(q'+1)) m')).kasWp cmp G s';rw[show m'-(q'+1)=b'.length by lia]
  exact sU hc h'.rev (by lia) hd'.rise hI' g
 ·rw[JA hq];have e3:c'.reverse=c':=by
   have:c'.length=1:=by lia
   obtain⟨z,rfl⟩:=Og.mp this;rfl
  exact sU hc h' (by lia) (by rw[<- e3];exact hd'.rise) hI' g
theorem xn(hc:pA k n cmp I){G:Nat×Array Nat->Shared->Prop}{s:Shared}(hn:1<=n)(hI:I s)
  (g:∀m' p' a' s',PI n m' p' a'->1<=m'->a'.Pairwise (R k)->I s'->G (m',p') s'):(kas_count n (List.toArray (List.range n))).kasWp cmp G s:=by
 unfold kas_count;rw[Mw];have h0:PI n 1 (List.toArray (List.range n)) [0]:=by
  refine⟨?_,List.Perm.refl _,hn⟩;show List.range n=[0]++List.range' 1 (n-1);rw[Nf,show n=(n-1)+1 by lia,Ld];rfl
 refine rp hc (n-1) 1 [0] s h0 (JD 1) rfl (by simp) hI λm a s' h hm hp hI' gl=>?_
 show KasT.kasWp cmp (if (m == n)=true then _ else _) G s'
 by_cases e:m=n
 ·subst e;rw[JE (Kw m)];exact g m _ a s' h hm hp hI'
 ·rw[JA (by simpa using e)]
  have hmn:m<n:=by have:=h.le;lia
  obtain⟨b,y,ea⟩:=oI h.len hm;have ky:=gl b y ea hmn;have hya:y<m:=h.lt (by rw[ea];simp)
  by_cases h2:m > 1
  ·rw[JE h2];obtain⟨x,r,ex⟩:∃x r,a=x::r:=by
    cases a with
    |nil=>have:=h.len;rw[K2] at this;lia
    |cons x r=>exact⟨x,r,rfl⟩
   have hxa:x<m:=h.lt (by rw[ex];simp)
   show cmp ((List.toArray (List.range n)).getD 0 0) ((List.toArray (List.range n)).getD (m-1) 0) _ s';rw[h.at (i:=0) (x:=x) (by rw[ex];rfl),h.last ea]
   refine hc x y _ s' (by lia) (by lia) hI' λs2 hI2=>?_
   by_cases c:k x<k y
   ·rw[Kc c];exact g m _ a s2 h hm hp hI2
   ·rw[Ke c];have hv:=PI.rev (b:=[]) (c:=a) h;refine tZ hc hv hmn ⟨MR.mpr hp,λz hz w hw=>?_,λz hz w hw=>by rw[JQ.mp hz,JQ.mp hw],by simp⟩ hI2 g
    rw[JQ.mp hw];have hz':=Lz.mp hz;have hxz:k x<=k z:=by
     rw[ex] at hz' hp;rcases J9.mp hz' with rfl|hz'
     ·exact MK _
     ·exact ((Kk.mp hp).1 z hz').le
    lia
  ·rw[JA h2];have hm1:m=1:=by lia
   have hb:b=[]:=by
    have:=h.len;rw[ea,J5,hm1] at this;simp only[JK,K2] at this;exact KU.mp (by lia)
   subst hb;refine tZ hc h hmn ⟨by rw[ea];simp,λz hz w hw=>?_,λz hz w hw=>by rw[JQ.mp hz,JQ.mp hw],by simp⟩ hI' g
   rw[JQ.mp hw];rw[ea] at hz;rw[JQ.mp hz];exact ky
theorem kX(hc:pA k n cmp I){G:Nat->Shared->Prop}{t:Nat}(h:PI n t p a)(ht:t<n)(hp:a.Pairwise (R k)):∀(f l r:Nat) (s:Shared),l<=r->r<=t->r-l<=f->(∀i x,i<l->a[i]?=some x->k x<=k t)->(∀i x,r<=i->a[i]?=some x->k t<k x)->I s ->
  (∀l' s',l'<=t->(∀i x,i<l'->a[i]?=some x->k x<=k t)->(∀i x,l'<=i->a[i]?=some x->k t<k x)->I s'->G l' s')->(kas_place p t f l r).kasWp cmp G s
 |0,l,r,s,h1,h2,h3,hlo,hhi,hI,g=>g l s (by lia) hlo (λi x hi e=>hhi i x (by lia) e) hI
 |f+1,l,r,s,h1,h2,h3,hlo,hhi,hI,g=>by
  show KasT.kasWp cmp (if l >= r then _ else _) G s
  by_cases hlr:l >= r
  ·rw[JE hlr];exact g l s (by lia) hlo (λi x hi e=>hhi i x (by lia) e) hI
  ·rw[JA hlr];have hmid:(l+r) / 2<a.length:=by rw[h.len];lia
   have em:a[(l+r) / 2]?=some a[(l+r) / 2]:=Jx hmid;have hma:a[(l+r) / 2]<t:=h.lt (JN hmid);have mono:∀i j x y,i<=j->a[i]?=some x->a[j]?=some y->k x<=k y:=λi j x y hij ex ey=>by
    rcases Kx i j with c|c
    ·obtain⟨hi,rfl⟩:=J6.mp ex;obtain⟨hj,rfl⟩:=J6.mp ey;exact (L6.mp hp i j hi hj c).le
    ·have:i=j:=Nat.le_antisymm hij c;subst this;rw[ex] at ey;cases ey;exact MK _
   show cmp (p.getD t 0) (p.getD ((l+r) / 2) 0) _ s;rw[h.nx ht,h.at em];refine hc t _ _ s ht (by lia) hI λs' hI'=>?_
   by_cases c:k t<k a[(l+r) / 2]
   ·rw[Kc c];exact kX hc h ht hp f l ((l+r) / 2) s' (by lia) (by lia) (by lia) hlo (λi x hi e=>Int.lt_of_lt_of_le c (mono _ i _ x hi em e)) hI' g
   ·rw[Ke c];exact kX hc h ht hp f ((l+r) / 2+1) r s' (by lia) h2 (by lia) (λi x hi e=>Int.le_trans (mono i _ x _ (by lia) e em) (by lia)) hhi hI' g
theorem xA(hc:pA k n cmp I){G:Array Nat->Shared->Prop}:∀(f:Nat) (p:Array Nat) (t:Nat) (a:List Nat) (s:Shared),PI n t p a->a.Pairwise (R k)->f=n-t->I s ->
  (∀p' a' s',PI n n p' a'->a'.Pairwise (R k)->I s'->G p' s')->(kas_bin f p t).kasWp cmp G s
 |0,p,t,a,s,h,hp,hf,hI,g=>by
  have:t=n:=by have:=h.le;lia
  subst this;exact g p a s h hp hI
 |f+1,p,t,a,s,h,hp,hf,hI,g=>by
  have ht:t<n:=by lia
  show KasT.kasWp cmp ((kas_place p t t 0 t).bind _) G s;rw[Mw];refine kX hc h ht hp t 0 t s (JL _) (JD _) (by lia) (λi x hi _=>absurd hi (L4 i)) (λi x hi e=>?_) hI λl s' hl hlo hhi hI'=>?_
  ·have:=(J6.mp e).1;rw[h.len] at this;lia
  ·have et:p[t]?=some t:=by
    rw[<- Kh,h.eq,JY (by rw[h.len];exact JD t),h.len,Lo,List.getElem?_range' (by lia)];simp
   have hla:l<=a.length:=by rw[h.len];exact hl
   have e1:(bubble p t (t-l)).toList=(a.take l++t::a.drop l)++List.range' (t+1) (n-(t+1)):=by
    rw[yz et hl,h.eq,List.take_append_of_le_length hla,Ni hla,show n-t=(n-(t+1))+1 by lia,Ld]
    have e2:(a.drop l).length=t-l:=by rw[Ks,h.len]
    have e3:∀r:List Nat,(a++t::r).drop (t+1)=r:=λr=>by
     rw[show a++t::r=(a++[t])++r by simp]
     exact List.drop_left' (by rw[J5,h.len];rfl)
    rw[List.take_left' e2,e3]
   have hP:PI n (t+1) (bubble p t (t-l)) (a.take l++t::a.drop l):=by
    refine⟨e1,?_,ht⟩;have:(a.take l++t::a.drop l).Perm (a++[t]):=by
     have h1:(a.take l++t::a.drop l).Perm (t::(a.take l++a.drop l)):=Mj;rw[Lg] at h1;exact h1.trans (List.perm_append_singleton t a).symm
    rw[NY];exact this.trans (h.perm.append_right [t])
   refine xA hc f _ (t+1) _ s' hP ?_ (by lia) hI' g
   have hp1:=(Lg l a) ▸ hp;obtain⟨q1,q2,q3⟩:=KD.mp hp1;refine KD.mpr ⟨q1,Kk.mpr ⟨λx hx=>?_,q2⟩,λx hx y hy=>?_⟩
   ·obtain⟨i,hi⟩:=MT.mp hx;rw[Le] at hi;exact .inl (hhi (l+i) x (by lia) hi)
   ·rcases J9.mp hy with rfl|hy
    ·obtain⟨i,hi⟩:=MT.mp hx;rw[LP] at hi
     split at hi
     ·rename_i hil;have:=hlo i x hil hi;have hxt:=h.lt (List.mem_of_mem_take hx);unfold R;lia
     ·cases hi
    ·exact q3 x hx y hy
theorem Bn(hc:pA k n cmp I){G:Array Nat->Shared->Prop}{s:Shared}(hn:1<=n)(hI:I s)(g:∀p s',p.toList.Perm (List.range n)->p.toList.Pairwise (R k)->I s'->G p s'):(kas_sort n).kasWp cmp G s:=by
 unfold kas_sort;rw[Mw];have fin:∀p a s',PI n n p a->a.Pairwise (R k)->I s'->G p s':=λp a s' h hp hI'=>by
  have e:p.toList=a:=by rw[h.eq,Lo,List.range'_zero,Kp]
  refine g p s' ?_ ?_ hI'<;>rw[e]
  ·exact h.perm
  ·exact hp
 refine xn hc hn hI λm p a s' h h1 hp hI'=>?_;show KasT.kasWp cmp (if m<n then _ else _) G s'
 by_cases hm:m<n
 ·rw[JE hm];show (kas_bin (n-max m 1) p (max m 1)).kasWp cmp G s';rw[show max m 1=m by lia]
  exact xA hc (n-m) p m a s' h hp rfl hI' fin
 ·rw[JA hm];have:m=n:=by have:=h.le;lia
  subst this;exact fin p a s' h hp hI'
end
end SP
abbrev EK(qual:Str)(scope:Scope)(L f:Addr)(cd:Value)(cl:List (Str×Addr)):Env:=W.envX qual scope L f cd cl
noncomputable def uw(X:Cx)(A:Around)(N:List Str)(qual:Str)(scope:Scope)(f:Addr)(cd:Value)(cl:List (Str×Addr))(s:Shared)(H:Hp):Cx where
 prog:=X.prog
 w:=X.w
 K:=X.K
 mg:=X.mg
 base:=X.base
 A:=A.deeper (EK qual scope s.heap.objs.size f cd cl)
 N:=N
 s₀:=s
 H₀:=H
 env:=EK qual scope s.heap.objs.size f cd cl
 outer:=X.stack
 stack:=EK qual scope s.heap.objs.size f cd cl::X.stack
 ex:=[]
 calm:=true
 fn:=λ_=>false
 pn:=[]
 xe:=λ_ _=>False
section
variable {X:Cx} {pins:List (Addr×Obj)} {σ:St} {H:Hp} {s:Shared}
theorem BK(I:Inv X pins σ H s){A:Around}(hA:A.frames=some X.stack)(hd:A.handled=none){qual:Str}{v:V}{u:Value}{cd:Value}{h₁:Heap}{tk:Nat}
  (hk:scope.kind=.function) (rv:RelV v u) (hloc:scope.names.lookup x=some .local) (hns:h₁.Ns s.heap.objs.size (λy=>[(x,u)].reverse.lookup y)) (old:∀b o,s.heap.get? b=some o->h₁.get? b=some o)
  (hlen:σf.length=N.length) (hcl:∀y c,cl.lookup y=some c->X.env.cells.lookup y=some c) (hhas:∀y,(scope.names.lookup y=some .cell\/scope.names.lookup y=some .free)->∃c,cl.lookup y=some c)
  (hf:∀(i:Nat) (y:Str) (v:V),N[i]?=some y->σf[i]?=some (some v)->scope.names.lookup y=some .free/\∃c u,cl.lookup y=some c/\s.heap.IsCell c (some u)/\RelV v u) :
  Inv (uw X A (x::N) qual scope f cd cl s H) [] (some v::σf) H {s with heap:=h₁,toks:=tk}:=by
 have noA:∀b:Addr,b∉(uw X A (x::N) qual scope f cd cl s H).ex:=λb z=>absurd (show b∈([]:List Addr) from z) (by simp)
 refine⟨⟨I.ok.mod,hk,rfl,rfl,JD _,λy z c e1 e2=>I.ok.inj y z c (hcl y c e1) (hcl z c e2),hhas,λy c z _=>(by cases z),λ_=>hd,Around.frames_deeper hA,.inr ⟨rfl,rfl⟩,λb z=>absurd z (noA b),I.bs,JF I.ok.Am I.sz,λb _ _=>noA b,λb z=>absurd z (noA b),I.stack,I.oi,I.ok.tabs.un I.base⟩,
  rfl,I.bare,Un.kept old,⟨_,hns,λi y w e1 e2 e3=>?_⟩,λy c e=>?_,I.aQ.fresh (JD _),λy c e=>I.fN y c (hcl y c e),λp hp=>absurd (show p∈([]:List (Addr×Obj)) from hp) (by simp),I.aQ.kept old,?_⟩
 ·cases i with
  |zero =>
   have e1':some x=some y:=e1;have e2':some (some v)=some (some w):=e2
   cases e1';cases e2'
   exact⟨u,rv,.inl ⟨hloc,by simp⟩⟩
  |succ i =>
   obtain⟨h1,c,u',h2,h3,h4⟩:=hf i y w e1 e2;obtain⟨o,ho,hd'⟩:=h3;exact⟨u',h4,.inr ⟨.inr h1,c,h2,o,old _ _ ho,hd'⟩⟩
 ·obtain⟨v',o,ho,hd'⟩:=I.cell y c (hcl y c e);exact⟨v',o,old _ _ ho,hd'⟩
 ·show (some v::σf).length=(x::N).length;rw[JK,JK,hlen]
theorem zG(I:Inv X pins σ H s){A:Around}{k:Nat}(hr:bM (k+1) A)(hA:A.frames=some X.stack){qual:Str}{v:V}{u:Value}{f:Addr}{t:TE}{Q:VK}
  (hk:scope.kind=.function) (hco:scope.isCoroutine=false) (hgen:scope.isGenerator=false) (hcell:∀y∈scope.names,y.2≠.cell) (rv:RelV v u) (hloc:scope.names.lookup x=some .local)
  (ho:s.heap.get? f=some (W.kla_obj "<lambda>" qual params body scope cl pm c' ctv)) (fK:s.heap.CodeRec (.ref c') qual)
  (hbind:∀u,bindArgs (W.kla_fn "<lambda>" qual params body scope cl pm (.ref c') ctv) ⟨[u],[]⟩=pure [(x,u)])
  (hlen:σf.length=N.length) (hcl:∀y c,cl.lookup y=some c->X.env.cells.lookup y=some c) (hhas:∀y,(scope.names.lookup y=some .cell\/scope.names.lookup y=some .free)->∃c,cl.lookup y=some c)
  (hf:∀(i:Nat) (y:Str) (v:V),N[i]?=some y->σf[i]?=some (some v)->scope.names.lookup y=some .free/\∃c u,cl.lookup y=some c/\s.heap.IsCell c (some u)/\RelV v u)
  (hb:PE (uw X A (x::N) qual scope f (.ref c') cl s H) body t) (hq:t (some v::σf) H Q) :
  wpAny (model X.prog X.w) A (call (.ref f) [u]) (EP X pins σ Q) (λ_ _=>False) s:=by
 refine wpAny_call (W.kla_callFunE hr.depth ho rfl hco hgen rfl fK ?_);rw[hbind];refine JJ (wpAny_newFunctionEnv hcell (λy hy=>by rw[JQ.mp hy];exact hloc) (λh₁ hns hsb=>⟨I.nolimit.fresh _ hsb,?_⟩) hk)
 have old:∀b o,s.heap.get? b=some o->h₁.get? b=some o:=λb o e=>hsb.extBut b o (JX (JP e)) (J7 _ e);have J:=BK (tk:=s.toks+1) (qual:=qual) (f:=f) (cd:=.ref c') I hA hr.hd hk rv hloc hns old hlen hcl hhas hf;refine W.kla_codeExpr (K5 (hb [] _ _ H Q J hq) (λw s' h=>?_) λ_ _ h=>h.elim);obtain⟨v',H',J',r',q'⟩:=h;exact I.after ⟨v',H',J'.os,J'.bare,J'.base,J'.aQ,r',q'⟩
end
inductive eB:Hp->Hp->Prop
 |refl {H:Hp}:eB H H
 |more {H H1:Hp} {p:Addr} {o:HO}:eB H H1->H1 p=none->eB H (upd H1 p o)
theorem eB.same(g:eB H H1):xX H H1:=by
 induction g with
 |refl=>exact xX.refl _
 |more g n ih=>exactλb o e=>by rw[aj (aq (ih b o e) n)];exact ih b o e
theorem eB.trans{H2:Hp}(a:eB H H1)(b:eB H1 H2):eB H H2:=by
 induction b with
 |refl=>exact a
 |more _ n ih=>exact .more ih n
theorem ju{i j:Int}{ti tj:Tok}{c:Value}:∀l:List Value,TriplesOk l->TriplesOk (l++[.int i ti,.int j tj,c])
 |[],_=>trivial
 |.int _ _::.int _ _::_::r,h=>ju r (show TriplesOk r from h)
theorem mN{p:Pos}{i j:Int}{ti tj:Tok}{c cv:Value}:∀l:List Value,TriplesOk l->codeAmong p (l++[.int i ti,.int j tj,c])=some cv->codeAmong p l=some cv\/cv=c
 |[],_,e=>by
  have e':(if (i == p.line && j == p.col)=true then some c else codeAmong p [])=some cv:=e
  by_cases z:(i == p.line && j == p.col)=true
  ·rw[JE z] at e';cases e';exact .inr rfl
  ·rw[JA z] at e';cases e'
 |.int a ta::.int b tb::d::r,h,e=>by
  have e':(if (a == p.line && b == p.col)=true then some d else codeAmong p (r++[.int i ti,.int j tj,c]))=some cv:=e
  show (if (a == p.line && b == p.col)=true then some d else codeAmong p r)=some cv\/_
  by_cases z:(a == p.line && b == p.col)=true
  ·rw[JE z] at e' ⊢;exact .inl e'
  ·rw[JA z] at e' ⊢;exact mN r (show TriplesOk r from h) e'
theorem uK(q:Str)(more:Array Value):ze (#[.str q 0]++more)=q:=by
 unfold ze;rw[LG];rfl
structure j0 (H:Hp) (f:Addr) (q:Str) (params:Arguments) (body:Expr) (scope:Scope) (cl:List (Str×Addr)) (c':Addr) (pm ctv:Value):Prop where
 fn:H f=some (.jn (W.kla_obj "<lambda>" q params body scope cl pm c' ctv) (.own f))
 cd:CP H q (.ref c')
section
variable {X:Cx} {pins:List (Addr×Obj)} {σ:St} {H:Hp} {s:Shared} {E:Value->Shared->Prop}
theorem j0.up(x:j0 H f q params body scope cl c' pm ctv)(g:∀b o u,H b=some (.jn o u)->H1 b=some (.jn o u)):j0 H1 f q params body scope cl c' pm ctv:=
 ⟨g _ _ _ x.fn,let ⟨c,oc,vs,t,e1,e2,e3⟩:=x.cd;⟨c,oc,vs,t,e1,g _ _ _ e2,e3⟩⟩
theorem j0.get(x:j0 H f q params body scope cl c' pm ctv)(I:Inv X pins σ H s):
  s.heap.get? f=some (W.kla_obj "<lambda>" q params body scope cl pm c' ctv)/\s.heap.CodeRec (.ref c') q:=by
 obtain⟨c,oc,vs,t,e1,e2,e3,e4⟩:=x.cd;exact⟨(I.aQ f _ x.fn).1,c,oc,vs,t,e1,(I.aQ c _ e2).1,e3,e4⟩
theorem Inv.xp{o:Obj}{t':Nat}(I:Inv X pins σ H s)(k:∀b u,s.heap.get? b=some u->h'.get? b=some u)(hp:s.heap.objs.size<=f)(e:h'.get? f=some o):Inv X pins σ (upd H f (.jn o (.own f))) {s with heap:=h',toks:=t'}:=
 I.laid k hp ⟨e,o,e⟩
theorem wZ(I:Inv X pins σ H s){c P:Addr}(hx:x∈dU)(ht:W.tabIn X.K x=some (c,P))(hcode:X.env.code=.ref c)(hq:X.env.qual=x++".<locals>."){pos:Pos}
  (hdef:defaultsOf params X.env=([],[])) (hcl:closureFor scope X.env=pure cl)
  (h:∀f c' pm ctv H1 s1,eB H H1->Inv X pins σ H1 s1->j0 H1 f ((x++".<locals>.")++"<lambda>") params body scope cl c' pm ctv->Q (.ref f) s1) :
  wpAny (model X.prog X.w) X.A (eval (.Lambda params body scope pos) X.env) Q E s:=by
 have hm:(c,P,(x++".<locals>.")++"<lambda>")∈cm X.K:=Mx.mpr ⟨x,hx,by rw[ht];rfl⟩
 obtain⟨more,hP⟩:=(I.ok.tabs.un I.base) _ hm;have C:W.CodeHd s.heap c P:=(I.ok.mod.codes _ hm).keeps I.bk;obtain⟨qs,eP,tr,fa⟩:=I.aQ P _ hP;have hns:=I.ok.mod.glob.keeps I.bk;have hgP:mainGlobals≠P:=λz=>by
  obtain⟨o,es,ep,e,_⟩:=I.ok.mod.glob;have:=(I.bs _ _ e).2;rw[z,hP] at this;cases this
 have hb:s.heap.BuiltinsAt X.mg P:=by
  obtain⟨bm,ob,b1,b2,b3,b4,b5⟩:=I.ok.mod.bm;refine⟨bm,ob,b1,b2,λz=>?_,λz=>?_,I.bk _ _ b3,b4,b5⟩
  ·obtain⟨o,es,ep,e,hd,_⟩:=I.ok.mod.glob;rw[z,e] at b3;cases b3;rw[hd] at b5;cases b5.2
  ·have:=(I.bs _ _ b3).2;rw[z,hP] at this;cases this
 refine W.kla_eval hdef ?_;rw[hq]
 cases ca:codeAmong pos qs.toList with
 |some cv =>
  have il:=fa pos cv ca;rw[uK] at il;obtain⟨c',oc,vs,t,rfl,e2,e3⟩:=il;refine W.kla_makeFunctionHit hcl I.ok.glob hns hcode C eP tr ca hb λctv h' tk hk hsz=>?_;have n0:H h'.objs.size=none:=I.aQ.fresh hsz;have J:=I.xp (f:=h'.objs.size) (t':=tk) (h':=h'.push {cls:=.type "function",data:=.func (W.kla_fn "<lambda>" ((x++".<locals>.")++"<lambda>") params body scope cl ((X.mg "__name__").getD .none) (.ref c') ctv)}) (λb u e=>J7 _ (hk b u e)) hsz (JM _ rfl);exact h _ c' _ ctv _ _ (.more .refl n0) J ⟨ae,c',oc,vs,t,rfl,by rw[aj (aq e2 n0)];exact e2,e3⟩
 |none =>
  refine W.kla_makeFunction hcl I.ok.glob hns hcode C eP tr ca hgP hb λc' ctv h' tk hx2 hge hlt hrec htb=>?_;obtain⟨c2,oc,vs,t,e2,hoc,hd,hv⟩:=hrec;cases e2;have nP:P≠c':=λz=>absurd (JP eP) (by rw[z];exact O3.mpr hge)
  have n1:H c'=none:=I.aQ.fresh hge;have keep:∀b u,b≠P->s.heap.get? b=some u->h'.get? b=some u:=λb u hb' e=>hx2 b u hb' e;have H1ne:∀b u,H b=some u->upd H c' (.jn oc (.own c')) b=some u:=λb u e=>by rw[aj (aq e n1)];exact e
  have hoP:∀y,H P≠some (.own y):=λy z=>by rw[hP] at z;cases z
  have J1:Inv X pins σ (upd H c' (.jn oc (.own c'))) {s with heap:=h',toks:=tk}:=by
   refine I.un ⟨λb o e n _ _=>keep b o (λz=>by rw[z,hP] at n;cases n) e,λb o e n _ _=>⟨o.slots,keep b o (λz=>by rw[z,hP] at n;cases n) e⟩,λb o e n _=>?_,λb o e _=>?_,λb xs e=>H1ne b _ e,λb o u e=>H1ne b _ e,λb ps e=>⟨#[],by rw[H1ne b _ e,Nx]⟩⟩ λb u e=>?_
   ·rw[aj (λz=>absurd (JP e) (by rw[z];exact O3.mpr hge))];exact n
   ·by_cases z:b=P
    ·rw[z];exact⟨_,htb⟩
    ·exact⟨o,keep b o z e⟩
   ·by_cases z:b=c'
    ·subst z;rw[ae] at e;cases e;exact⟨hoc,oc,hoc⟩
    ·rw[aj z] at e;by_cases z2:b=P
     ·subst z2;rw[hP] at e;cases e;refine⟨_,htb,by rw[LG];exact ju _ tr,λp cv hc=>?_⟩
      rw[LG] at hc;rcases mN _ tr hc with q|q
      ·obtain⟨c2,oc2,vs2,t2,g1,g2,g3⟩:=fa p cv q;exact⟨c2,oc2,vs2,t2,g1,H1ne _ _ g2,g3⟩
      ·rw[uK];exact⟨c',oc,vs,t,q,ae,hd,hv⟩
     ·refine (I.aQ b u e).n_ (λc v hc q=>keep c v ?_ q) (λc q=>H1ne c _ q) (λc xs q=>H1ne c _ q) λc _ _ q=>H1ne c _ q;rcases hc with rfl|hc
      ·exact z2
      ·exactλz3=>hoP b (by rw[<- z3];exact hc)
  have n2:upd H c' (.jn oc (.own c')) h'.objs.size=none:=J1.aQ.fresh (JD _);have J:=J1.xp (f:=h'.objs.size) (t':=tk) (h':=h'.push (W.kla_obj "<lambda>" ((x++".<locals>.")++"<lambda>") params body scope cl ((X.mg "__name__").getD .none) c' ctv)) (λb u e=>J7 _ e) (JD _) (JM _ rfl);exact h _ c' _ ctv _ _ (.more (.more .refl n1) n2) J ⟨ae,c',oc,vs,t,rfl,by rw[aj (aq ae n2)];exact ae,hd,hv⟩
end
section
variable {α β:Type}
noncomputable def iN(p:Int×α):List (Int×α)->List (Int×α)
 |[]=>[p]
 |q::r=>if p.1<=q.1 then p::q::r else q::iN p r
noncomputable def fo:List (Int×α)->List (Int×α)
 |[]=>[]
 |p::r=>iN p (fo r)
abbrev FK(l:List (Int×α)):Prop:=l.Pairwise λp q=>p.1<=q.1
noncomputable def atK(a:Int)(l:List (Int×α)):List (Int×α):=l.filter λp=>decide (p.1=a)
theorem gP(p:Int×α):∀l,(iN p l).Perm (p::l)
 |[]=>.refl _
 |q::r=>by
  unfold iN;split
  ·exact .refl _
  ·exact ((gP p r).cons q).trans (List.Perm.swap p q r)
theorem dZ:∀l:List (Int×α),(fo l).Perm l
 |[]=>.refl _
 |p::r=>(gP p _).trans ((dZ r).cons p)
theorem uT{p:Int×α}:∀{l:List (Int×α)},FK l->FK (iN p l)
 |[],_=>NU _ _
 |q::r,h=>by
  obtain⟨h1,h2⟩:=Kk.mp h;unfold iN;split
  ·rename_i c;exact Kk.mpr ⟨λz hz=>by
    rcases J9.mp hz with rfl|hz
    ·exact c
    ·exact Int.le_trans c (h1 z hz),h⟩
  ·rename_i c;refine Kk.mpr ⟨λz hz=>?_,uT h2⟩;rcases J9.mp ((gP p r).mem_iff.mp hz) with rfl|hz
   ·lia
   ·exact h1 z hz
theorem p8:∀l:List (Int×α),FK (fo l)
 |[]=>List.Pairwise.nil
 |_::r=>uT (p8 r)
theorem bA(a:Int)(p:Int×α)(l:List (Int×α)):atK a (p::l)=if p.1=a then p::atK a l else atK a l:=by
 unfold atK;rw[List.filter_cons];by_cases z:p.1=a
 ·rw[JE z,JE (Kc z)]
 ·rw[JA z,JA (by simp[z])]
theorem uS{a:Int}{p:Int×α}:∀{l:List (Int×α)},atK a (iN p l)=atK a (p::l)
 |[]=>rfl
 |q::r=>by
  unfold iN;split
  ·rfl
  ·rename_i c;rw[bA,uS,bA,bA,bA];by_cases z:p.1=a
   ·have z2:¬ q.1=a:=by lia
    simp only[z,z2,Mt,Mf]
   ·simp only[z,Mf]
theorem p0{a:Int}:∀l:List (Int×α),atK a (fo l)=atK a l
 |[]=>rfl
 |p::r=>by
  show atK a (iN p (fo r))=_;rw[uS,bA,bA,p0 r]
theorem ko{a:Int}:∀{l:List (Int×α)},(∀p∈l,a<p.1)->atK a l=[]
 |[],_=>rfl
 |p::r,h=>by
  have:=h p (JH ..);rw[bA,JA (by lia),ko λq hq=>h q (JG _ hq)]
theorem mL:∀{l m:List (Int×α)},FK l->FK m->(∀a,atK a l=atK a m)->l=m
 |[],[],_,_,_=>rfl
 |[],q::m,_,_,h=>by
  have:=h q.1;rw[bA,JE rfl] at this;cases this
 |p::l,[],_,_,h=>by
  have:=h p.1;rw[bA,JE rfl] at this;cases this
 |p::l,q::m,hl,hm,h=>by
  obtain⟨l1,l2⟩:=Kk.mp hl;obtain⟨m1,m2⟩:=Kk.mp hm;have e:p.1=q.1:=by
   rcases Int.lt_trichotomy p.1 q.1 with z|z|z
   ·have q1:=h p.1;rw[bA,JE rfl,bA,JA (by lia),ko (l:=m) λr hr=>by have:=m1 r hr;lia] at q1
    cases q1
   ·exact z
   ·have q1:=h q.1;rw[bA,JA (by lia),bA,JE rfl,ko (l:=l) λr hr=>by have:=l1 r hr;lia] at q1
    cases q1
  have q1:=h p.1;rw[bA,JE rfl,bA,JE e.symm] at q1;obtain⟨q2,q3⟩:=List.cons.inj q1;subst q2;congr 1;refine mL l2 m2 λa=>?_;have q4:=h a;rw[bA,bA] at q4;by_cases z:p.1=a
  ·rw[JE z,JE z] at q4;exact (List.cons.inj q4).2
  ·rw[JA z,JA z] at q4;exact q4
theorem wN{l m:List (Int×α)}(hm:FK m)(h:∀a,atK a m=atK a l):m=fo l:=mL hm (p8 l) λa=>by rw[h a,p0]
abbrev FG(R:α->β->Prop):List (Int×α)->List (Int×β)->Prop:=Paired λp q=>p.1=q.1/\R p.2 q.2
theorem Ah{R:α->β->Prop}{p:Int×α}{q:Int×β}(h:p.1=q.1/\R p.2 q.2){l:List (Int×α)}{m:List (Int×β)}(k:FG R l m):FG R (iN p l) (iN q m):=by
 induction k with
 |nil=>exact .cons h .nil
 |cons r t ih =>
  unfold iN;split
  ·rename_i z;rw[JE (by rw[<- h.1,<- r.1];exact z)]
   exact .cons h (.cons r t)
  ·rename_i z;rw[JA (by rw[<- h.1,<- r.1];exact z)]
   exact .cons r ih
theorem v8{R:α->β->Prop}{l:List (Int×α)}{m:List (Int×β)}(k:FG R l m):FG R (fo l) (fo m):=by
 induction k with
 |nil=>exact .nil
 |cons r t ih=>exact Ah r ih
theorem y_{R:α->β->Prop}{ks:List Int}{l:List α}{m:List β}(k:Paired R l m):FG R (ks.zip l) (ks.zip m):=by
 induction k generalizing ks with
 |nil=>rw[List.zip_nil_right,List.zip_nil_right];exact .nil
 |cons r t ih =>
  cases ks with
  |nil=>exact .nil
  |cons k ks=>exact .cons ⟨rfl,r⟩ ih
theorem xb{R:α->β->Prop}{l:List (Int×α)}{m:List (Int×β)}(k:FG R l m):Paired R (l.map (·.2)) (m.map (·.2)):=by
 induction k with
 |nil=>exact .nil
 |cons r t ih=>exact .cons r.2 ih
noncomputable def jN(ks:List Int)(l:List α):List α:=(fo (ks.zip l)).map (·.2)
theorem uh{R:α->β->Prop}{ks:List Int}{l:List α}{m:List β}(h:Paired R l m):Paired R (jN ks l) (jN ks m):=xb (v8 (y_ h))
theorem tX{ks:List Int}{l:List α}(h:ks.length=l.length):(jN ks l).length=l.length:=by
 unfold jN;rw[Jz,(dZ _).length_eq,NZ,h,L1]
theorem jZ{ks:List Int}{l:List α}(h:ks.length=l.length):(jN ks l).Perm l:=by
 have h2:((ks.zip l).map (·.2))=l:=List.map_snd_zip (by lia)
 have h3:=(dZ (ks.zip l)).map (·.2);rw[h2] at h3;exact h3
end
theorem j4:∀{xs:List V} {us:List Value},Vals xs us->Paired RelV xs us
 |_,_,.nil=>.nil
 |_,_,.cons r t=>.cons r (j4 t)
theorem j5:∀{xs:List V} {us:List Value},Paired RelV xs us->Vals xs us
 |_,_,.nil=>.nil
 |_,_,.cons r t=>.cons r (j5 t)
theorem eC:∀{us:List Value} {ns:List Int},IntsAre us ns->∀{i:Nat},i<ns.length->∃t,us.getD i Value.none=.int (ns.getD i 0) t
 |_,_,.cons n t h,0,_=>⟨t,rfl⟩
 |_,_,.cons n t h,i+1,hi=>eC h (i:=i) (by simpa using hi)
theorem yE{p:List Nat}(hl:kz.length=us.length)(hp:p.Perm (List.range us.length))(hr:p.Pairwise (SP.R λi=>kz.getD i 0)):p.map (λi=>us.getD i Value.none)=jN kz us:=by
 have ez:(List.range us.length).map (λi=>(kz.getD i 0,us.getD i Value.none))=kz.zip us:=by
  apply Ml
  ·rw[Jz,Ky,NZ,hl,L1]
  ·intro i h1 h2;rw[Jz,Ky] at h1;rw[LA,List.getElem_range,List.getElem_zip];simp[h1,hl]
 have e1:p.map (λi=>(kz.getD i 0,us.getD i Value.none))=fo (kz.zip us):=by
  refine wN ?_ λa=>?_
  ·exact MI.mpr (hr.imp λh=>h.le)
  ·have fl:∀l:List Nat,atK a (l.map λi=>(kz.getD i 0,us.getD i Value.none))=(l.filter λi=>decide (kz.getD i 0=a)).map λi=>(kz.getD i 0,us.getD i Value.none):=λl=>by
    unfold atK;rw[List.filter_map];rfl
   rw[<- ez,fl,fl];congr 1;refine List.Perm.eq_of_pairwise (le:=(· < ·)) (λa b _ _ h g=>absurd h (Nat.lt_asymm g)) ?_ (Oh.filter _) (hp.filter _);rw[List.pairwise_filter];refine hr.imp λ{i j} h hi hj=>?_;have hi:=K6 hi;have hj:=K6 hj;rcases h with h|h
   ·exfalso;have h':kz.getD i 0<kz.getD j 0:=h;lia
   ·exact h.2
 unfold jN;rw[<- e1,Lp];rfl
section
variable {X:Cx} {pins:List (Addr×Obj)} {σ:St} {H:Hp} {s:Shared} {E:Value->Shared->Prop}
theorem Inv.take{D:Addr}{ob:Obj}{o:HO}{t':Nat}(I:Inv X ((D,ob)::pins) σ H s)(hs0:X.s₀.heap.objs.size<=D)(hnp:∀p∈X.pn++pins,p.1≠D)(k:∀b u,b≠D->s.heap.get? b=some u->h'.get? b=some u)(new:b9 X.prog X.w (upd H D o) h' D o):
  Inv X pins σ (upd H D o) {s with heap:=h',toks:=t'}:=by
 obtain⟨g1,g2,g3,g4,g5⟩:=I.pin (D,ob) (JV _ (JH ..));have I0:Inv X pins σ H s:=⟨I.ok,I.os,I.bare,I.base,I.loc,I.cell,I.free,I.fN,λp hp=>I.pin p ((K0.mp hp).elim (λz=>Lm _ z) λz=>JV _ (JG _ z)),I.aQ,I.len⟩;have ne:∀b u,H b=some u->b≠D:=λb u e=>aq e g2;refine I0.step (g':=s.gens) (d':=s.drawn) (ch:=[D]) (λb hb=>?_) (λb o' _ _ hc e _=>k b o' (λz=>hc (by rw[z];exact JQ.mpr rfl)) e) (λb o' _ _ hc e _=>⟨o'.slots,k b o' (λz=>hc (by rw[z];exact JQ.mpr rfl)) e⟩) (λb o' hc e n=>by rw[aj (λz=>hc (by rw[z];exact JQ.mpr rfl))];exact n)
  (λb o' hc e=>⟨o',k b o' (λz=>hc (by rw[z];exact JQ.mpr rfl)) e⟩) (λb xs e=>by rw[aj (ne b _ e)];exact e) (λb o' u e=>by rw[aj (ne b _ e)];exact e) (λb ps e=>⟨#[],by rw[aj (ne b _ e),e,Nx]⟩) (λm hm=>?_) (λb u e=>?_) I.bare
 ·rw[JQ.mp hb];refine⟨.inr hs0,g3,λx c e z=>?_,hnp⟩;obtain⟨v,o',ho',hd⟩:=I.cell x c e;rw[z,g1] at ho';cases ho';exact g5 v hd
 ·obtain⟨o',es,ep,ho',r⟩:=hm;exact⟨o',es,ep,k _ _ (KP g3) ho',r⟩
 ·by_cases z:b=D
  ·subst z;rw[ae] at e;cases e;exact new
  ·rw[aj z] at e;refine (I.aQ b u e).n_ (λc v hc q=>k c v ?_ q) (λc q=>by rw[aj (ne c _ q)];exact q) (λc xs q=>by rw[aj (ne c _ q)];exact q) λc _ _ q=>by rw[aj (ne c _ q)];exact q
   rcases hc with rfl|hc
   ·exact z
   ·exact ne c _ hc
theorem tV{A:Around}{D:Nat}{st:SortSt}
  (I:Inv X ((D,seqObj "list" #[] e1)::pins) σ (upd H kS (.lst (kz.map V.int))) s) (hkS:H kS=none) (hD:H D=none) (hkD:kS≠D) (hs0:X.s₀.heap.objs.size<=D) (hnp:∀p∈X.pn++pins,p.1≠D)
  (hv:Vals xs us) (hlen:kz.length=us.length) (h64:us.length<64) (ho:((arrOf st).map (·.2)).toList=jN kz us) (hfl:failedOf st=none)
  (h:∀s',Inv X pins σ (upd (upd H kS (.lst [])) D (.lst (jN kz xs))) s'->P (.done (.ret .none)) s') :
  wpAny (model X.prog X.w) A (ksk_tail D false e1 (.ref kS) st) P E s:=by
 obtain⟨_,its,n,vr,ek⟩:=I.aQ kS _ ae;have hz:its.toArray.size<=sizeLine:=by
  rw[J8,<- vr.length,Jz,hlen,La];lia
 have pD:=I.pin _ (JV _ (JH ..));have hout:((arrOf st).map (·.2)).size=us.length:=by
  rw[<- Km,ho,tX hlen]
 have s1:=KL s.heap kS (Obj.mapSeq λ_=>(#[]:Array Value));obtain⟨c1,hc1⟩:∃c,(s.heap.update kS (Obj.mapSeq λ_=>(#[]:Array Value))).get? kS=some (seqObj "list" #[] c):=⟨_,Nb ek λ_=>#[]⟩;have J1:Inv X ((D,seqObj "list" #[] e1)::pins) σ (upd H kS (.lst [])) {s with heap:=s.heap.update kS (Obj.mapSeq λ_=>(#[]:Array Value))}:=by
  have J:=I.write (x:=kS) (e:=kS) (o:=.lst []) (t':=s.toks) (h':=s.heap.update kS (Obj.mapSeq λ_=>(#[]:Array Value))) (by rw[ae];trivial) (.inl rfl) (λb u hb q=>(s1.2 b hb).trans q) ⟨_,hc1⟩ ⟨JL _,[],c1,.nil,hc1⟩
  rw[oC] at J;exact J
 have pD1:=J1.pin _ (List.mem_append_right _ (List.mem_cons_self ..));have s2:=Heap.SameBut.update (s.heap.update kS (Obj.mapSeq λ_=>(#[]:Array Value))) D (Obj.mapSeq λ_=>(arrOf st).map (·.2));obtain⟨c2,hc2⟩:∃c,((s.heap.update kS (Obj.mapSeq λ_=>(#[]:Array Value))).update D (Obj.mapSeq λ_=>(arrOf st).map (·.2))).get? D=some (seqObj "list" ((arrOf st).map (·.2)) c):=⟨_,get?_update_seq pD1.1 λ_=>(arrOf st).map (·.2)⟩;have vB:Vals (jN kz xs) (jN kz us):=j5 (uh (j4 hv));unfold ksk_tail;dsimp only;refine wpAny_bind (listUpdate_at ek rfl ?_ hz (Nat.zero_le _));refine wpAny_bind (wpAny_letGo ?_);refine wpAny_bind (seqEpoch_at pD1.1 rfl ?_);refine wpAny_bind (listUpdate_at pD1.1 rfl ?_ (Nat.zero_le _) (by show ((arrOf st).map (·.2)).size<=_;rw[hout,sizeLine_eq];lia))
 rw[hfl];simp only[bne_self_eq_false,Mz,Mf];refine JJ (h _ (J1.take hs0 hnp (λb u hb q=>(s2.2 b hb).trans q) ⟨?_,jN kz us,c2,vB,?_⟩))
 ·rw[vB.length,tX hlen,La];lia
 ·rw[<- ho,Mm];exact hc2
theorem FD{A:Around}{D:Nat}{us:List Value}{kz:List Int}{keys:Array Value}
  (I:Inv X ((D,seqObj "list" #[] e1)::pins) σ (upd H kS (.lst (kz.map V.int))) s) (hkS:H kS=none) (hD:H D=none) (hkD:kS≠D) (hs0:X.s₀.heap.objs.size<=D) (hnp:∀p∈X.pn++pins,p.1≠D)
  (hv:Vals xs us) (hlen:kz.length=us.length) (h64:us.length<64) (hk:IntsAre keys.toList kz)
  (h:∀s',Inv X pins σ (upd (upd H kS (.lst [])) D (.lst (jN kz xs))) s'->P (.done (.ret .none)) s') :
  wpAny (model X.prog X.w) A (ksk_end D false us.toArray e1 (.ref kS) keys) P E s:=by
 have hsz:keys.size=us.length:=by
  have z:=hk.length;rw[Km] at z;exact z.trans hlen
 have hzs:(keys.zip us.toArray).size=us.length:=by
  rw[Array.size_zip,hsz,J8,L1]
 unfold ksk_end;dsimp only;rw[if_neg Bool.false_ne_true,if_neg Bool.false_ne_true];by_cases h2:us.toArray.size<2
 ·rw[if_pos h2,if_pos h2];refine wpAny_bind (wpAny_pure ?_);rw[StateT.run_pure];refine wpAny_bind (wpAny_pure ?_);dsimp only;refine tV I hkS hD hkD hs0 hnp hv hlen h64 ?_ rfl h;rw[List.size_toArray] at h2;have:=yE (us:=us) (kz:=kz) (p:=List.range us.length) hlen (List.Perm.refl _) (by
   rcases us with _|⟨x,_|⟨y,r⟩⟩
   ·exact .nil
   ·simp
   ·exfalso;simp only[JK] at h2;lia)
  rw[<- this];show ((keys.zip us.toArray).map (·.2)).toList=_;rw[Array.toList_map,Array.toList_zip,List.map_snd_zip (by simp only[Km,J8];lia)]
  apply Ml
  ·simp
  ·intro i h1 h2;have h1':i<us.length:=h1;simp[h1']
 ·rw[JA h2,JA h2];rw[J8] at h2;rw[ksk_kind hk (by lia)]
  refine Jy (JJ ?_);have ek:keys=keys.toList.toArray:=(Mm).symm;have hkl:keys.toList.length=us.length:=by rw[Km,hsz]
  have hat:∀i,i<us.length->∃t,keys.toList.getD i Value.none=.int (kz.getD i 0) t:=λi hi=>eC hk (by rw[hlen];exact hi)
  generalize keys.toList=ks at *;subst ek;refine Jy (K5 (W.kat_run (ks:=ks) (vs:=us) (κ:=oneType') (Q:=λst' s'=>s'=s/\failedOf st'=none/\((arrOf st').map (·.2)).toList=jN kz us)
   (G:=λp s'=>s'=s/\p.toList.Perm (List.range us.length)/\p.toList.Pairwise (SP.R λi=>kz.getD i 0)) hkl (by lia) h64 (λp st' s' a1 a2 a3 a4=>⟨a4.1,a3,by rw[W.kat_snds hkl a2];exact yE hlen a4.2.1 a4.2.2⟩) ?_) ?_ λ_ _ e=>e)
  ·refine SP.Bn (k:=λi=>kz.getD i 0) (I:=λs'=>s'=s) (λi j C s' hi hj hI hC=>?_) (by lia) rfl λp s' hp hr hI=>⟨hI,hp,hr⟩
   subst hI;obtain⟨t1,e1⟩:=hat i hi;obtain⟨t2,e2⟩:=hat j hj;unfold W.kas_ask;rw[e1,e2];exact W.kat_lt_int (hC _ rfl)
  rintro⟨⟨⟩,st'⟩ s' ⟨rfl,hf,ho⟩;dsimp only;exact tV I hkS hD hkD hs0 hnp hv hlen h64 ho hf h
theorem lC:∀{us:List Value} {ns:List Int},Vals (ns.map V.int) us->IntsAre us ns
 |_,[],.nil=>.nil
 |_,n::ns,.cons ⟨t,e⟩ r=>by subst e;exact .cons n t (lC r)
theorem Aw{A:Around}{D:Nat}{f:Value}
  (I:Inv X ((D,seqObj "list" #[] e1)::pins) σ (upd H kS (.lst [])) s) (hkS:H kS=none) (hD:H D=none) (hkD:kS≠D) (hs0:X.s₀.heap.objs.size<=D) (hnp:∀p∈X.pn++pins,p.1≠D)
  (hv:Vals xs us) (hlen:kz.length=us.length) (h64:us.length<64)
  (turn:∀(i:Nat) (u:Value) (k:Int),us[i]?=some u->kz[i]?=some k->∀pins' H' s',eB H H'->Inv X pins' σ H' s'->wpAny (model X.prog X.w) A (call f [u]) (λr s2=>(∃t,r=.int k t)/\Inv X pins' σ H' s2) (λ_ _=>False) s')
  (h:∀s',Inv X pins σ (upd (upd H kS (.lst [])) D (.lst (jN kz xs))) s'->P (.done (.ret .none)) s') :
  wpAny (model X.prog X.w) A (ksk_rest D f false us.toArray e1 (.ref kS)) P E s:=by
 unfold ksk_rest;refine Jy (NC ?_)
 first
  |rw[List.forIn_toArray]
  | (rw[<- Array.forIn_toList];simp only[Nm])
 refine Jy (ksk_fold (λi s'=>Inv X ((D,seqObj "list" #[] e1)::pins) σ (upd H kS (.lst ((kz.take i).map V.int))) s') us 0 s I ?one ?all)
 case one =>
  intro j u s' hu J;rw[Lb] at J ⊢;have hj:j<us.length:=(J6.mp hu).1;obtain⟨k,hkj⟩:∃k,kz[j]?=some k:=⟨_,Jx (by lia)⟩
  refine wpAny_bind (wpAny_attempt (wpAny_mono (turn j u k hu hkj _ _ s' (.more .refl hkS) J) (λr s2 hr=>?_) λ_ _ z=>z.elim));obtain⟨⟨t,rfl⟩,J2⟩:=hr;dsimp only;obtain⟨_,its,n,vr,ek⟩:=J2.aQ kS _ ae;have lenI:its.length<=us.length:=by
   rw[<- vr.length,Jz,JT];lia
  have s1:=KL s2.heap kS (Obj.mapSeq (·.push (.int k t)));obtain⟨c1,hc1⟩:∃c,(s2.heap.update kS (Obj.mapSeq (·.push (.int k t)))).get? kS=some (seqObj "list" (its.toArray.push (.int k t)) c):=⟨_,Nb ek (·.push (.int k t))⟩;have et:kz.take (j+1)=kz.take j++[k]:=by
   rw[List.take_add_one,hkj];rfl
  have vr2:Vals ((kz.take (j+1)).map V.int) (its++[.int k t]):=by
   rw[et,JR];exact vr.append (.cons ⟨t,rfl⟩ .nil)
  refine Jy (listUpdate_at ek rfl ?_ (by rw[J8,La];lia) (by show (its.toArray.push (.int k t)).size<=_;rw[Array.size_push,J8,La];lia))
  refine JJ ⟨rfl,?_⟩;have J3:=J2.write (x:=kS) (e:=kS) (o:=.lst ((kz.take (j+1)).map V.int)) (t':=s2.toks) (h':=s2.heap.update kS (Obj.mapSeq (·.push (.int k t)))) (by rw[ae];trivial) (.inl rfl) (λb u hb q=>(s1.2 b hb).trans q) ⟨_,hc1⟩
   ⟨by rw[Jz,JT,La];lia,its++[.int k t],c1,vr2,by rw[hc1,List.push_toArray]⟩
  rw[oC] at J3;exact J3
 case all =>
  intro s' J;have ez:kz.take (0+us.length)=kz:=Kj (by lia)
  have J':Inv X ((D,seqObj "list" #[] e1)::pins) σ (upd H kS (.lst (kz.map V.int))) s':=by
   rw[<- ez];rw[ez];simpa only[ez] using J
  obtain⟨_,its,n,vr,ek⟩:=J'.aQ kS _ ae;refine Jy (NN ek rfl ?_);exact FD J' hkS hD hkD hs0 hnp hv hlen h64 (by rw[Nm];exact lC vr) h
theorem Ce{A:Around}{D:Addr}{n0:Nat}{h0:Heap}{f:Value}
  (I:Inv X pins σ H s) (k0:∀b o,s.heap.get? b=some o->h0.get? b=some o) (hDs:s.heap.objs.size<=D) (ho:h0.get? D=some (seqObj "list" us.toArray n0)) (hv:Vals xs us) (hlen:kz.length=us.length) (h64:us.length<64)
  (turn:∀(i:Nat) (u:Value) (k:Int),us[i]?=some u->kz[i]?=some k->∀pins' H' s',eB H H'->Inv X pins' σ H' s'->wpAny (model X.prog X.w) A (call f [u]) (λr s2=>(∃t,r=.int k t)/\Inv X pins' σ H' s2) (λ_ _=>False) s')
  (h:∀H' s',eB H H'->H' D=none->Inv X pins σ (upd H' D (.lst (jN kz xs))) s'->P (.done (.ret .none)) s') :
  wpAny (model X.prog X.w) A (ksk_tree D f false) P E {s with heap:=h0}:=by
 have hsz0:D<h0.objs.size:=JP ho;have s1:=KL h0 D (Obj.mapSeq λ_=>(#[]:Array Value));obtain⟨e1,ho1⟩:∃e,(h0.update D (Obj.mapSeq λ_=>(#[]:Array Value))).get? D=some (seqObj "list" #[] e):=⟨_,Nb ho λ_=>#[]⟩;have hkz:((h0.update D (Obj.mapSeq λ_=>(#[]:Array Value))).push (seqObj "tuple" us.toArray 0)).objs.size=h0.objs.size+1:=by
  rw[size_push',Heap.size_update]
 have nD:∀b o,s.heap.get? b=some o->b≠D:=λb o e=>JX (JZ (JP e) hDs);have keep:∀b o,s.heap.get? b=some o->(((h0.update D (Obj.mapSeq λ_=>(#[]:Array Value))).push (seqObj "tuple" us.toArray 0)).push (seqObj "list" #[] 0)).get? b=some o:=λb o e =>
  J7 _ (J7 _ ((s1.2 b (nD b o e)).trans (k0 b o e)))
 have hle:s.heap.objs.size<=h0.objs.size+1:=JF hDs (Ls (Ll hsz0));have hkD:h0.objs.size+1≠D:=K_ (LX hsz0);have hkS:H (h0.objs.size+1)=none:=I.aQ.fresh hle;have hD:H D=none:=I.aQ.fresh hDs;have hnp:∀p∈X.pn++pins,p.1≠D:=λp hp=>nD _ _ (I.pin p hp).1;have J0:Inv X pins σ (upd H (h0.objs.size+1) (.lst [])) {s with heap:=((h0.update D (Obj.mapSeq λ_=>(#[]:Array Value))).push (seqObj "tuple" us.toArray 0)).push (seqObj "list" #[] 0)}:=
  I.laid (t':=s.toks) keep hle ⟨JL _,[],0,.nil,by rw[<- hkz];exact JM _ rfl⟩
 have J:Inv X ((D,seqObj "list" #[] e1)::pins) σ (upd H (h0.objs.size+1) (.lst [])) {s with heap:=((h0.update D (Obj.mapSeq λ_=>(#[]:Array Value))).push (seqObj "tuple" us.toArray 0)).push (seqObj "list" #[] 0)}:=by
  refine J0.oG λp hp=>?_;rcases J9.mp hp with rfl|hp
  ·exact⟨J7 _ (J7 _ ho1),by rw[aj (KP hkD)];exact hD,λz=>absurd I.lt (by rw[<- z];exact O3.mpr hDs),I.Gn hDs,λv z=>by cases z⟩
  ·exact J0.pin p (JV _ hp)
 unfold ksk_tree;refine Jy (NN ho rfl ?_);refine Jy (listUpdate_at ho rfl ?_ (by rw[J8,La];lia) (JL _))
 refine Jy (seqEpoch_at ho1 rfl ?_);refine Jy (wpAny_newTuple ?_ (by show us.length<=_;rw[La];lia))
 refine Jy (N6 ?_ (JL _));refine KH ?_;show wpAny _ _ (ksk_rest D f false us.toArray e1 (.ref ((h0.update D (Obj.mapSeq λ_=>(#[]:Array Value))).push (seqObj "tuple" us.toArray 0)).objs.size)) _ _ _;rw[hkz];exact Aw J hkS hD hkD (JF I.sz hDs) hnp hv hlen h64 turn λs' K=>h _ s' (.more .refl hkS) (by rw[aj (KP hkD)];exact hD) K
end
noncomputable def BA(q:Str)(params:Arguments)(body:Expr)(scope:Scope)(cl:List (Str×Addr)):TE:=λ_ H Q=>∀f c' pm ctv H1,eB H H1->j0 H1 f q params body scope cl c' pm ctv->Q (.ref f) H1
theorem DK{c P:Addr}(hx:x∈dU)(ht:W.tabIn X.K x=some (c,P))(hcode:X.env.code=.ref c)(hq:X.env.qual=x++".<locals>."){pos:Pos}
  (hdef:defaultsOf params X.env=([],[])) (hcl:closureFor scope X.env=pure cl):PE X (.Lambda params body scope pos) (BA ((x++".<locals>.")++"<lambda>") params body scope cl):=λpins s σ H Q I h =>
 wZ I hx ht hcode hq hdef hcl λf c' pm ctv H1 s1 g J l=>⟨.ref f,H1,J,rfl,h f c' pm ctv H1 g l⟩
section
variable {X:Cx} {pins:List (Addr×Obj)} {σ:St} {H:Hp} {s:Shared} {E:Value->Shared->Prop}
noncomputable def w_(X:Cx)(A:Around)(s:Shared)(l:Addr)(xs:List V):Prop:=∀(Q:List Value->Shared->Prop) (E:Value->Shared->Prop),(∀h0 tk us,(∀b o,s.heap.get? b=some o->h0.get? b=some o)->s.heap.objs.size<=h0.objs.size->Vals xs us->Q us {s with heap:=h0,toks:=tk})->wpAny (model X.prog X.w) A (collect (.ref l)) Q E s
theorem vN{A:Around}{l:Addr}{Q:VK}(I:Inv X pins σ H s)(hcol:w_ X A.in1 s l xs)(hlen:kz.length=xs.length)(h64:xs.length<64)
  (turn:∀(i:Nat) (v:V) (u:Value) (k:Int),xs[i]?=some v->RelV v u->kz[i]?=some k->∀pins' H' s',eB H H'->Inv X pins' σ H' s'->wpAny (model X.prog X.w) A.in1.in1 (call (.ref f) [u]) (λr s2=>(∃t,r=.int k t)/\Inv X pins' σ H' s2) (λ_ _=>False) s')
  (h:∀H' D,eB H H'->H' D=none->Q (.ref D) (upd H' D (.lst (jN kz xs)))) :
  wpAny (model X.prog X.w) A (call (.builtin "sorted") [.ref l] [(Str.ofString "key",.ref f)]) (EP X pins σ Q) E s:=by
 refine call_function_entry_kw kind_sorted plain_sorted entry_sorted (ksk_s1 _ _) ?_;unfold Builtin.«sorted»;refine Jy (m:=checkCount "sorted" 1 1 _) (JJ (Jy (hcol _ _ λh0 tk us k0 hz hv=>?_)));have ul:us.length=xs.length:=hv.length.symm;refine Jy (N6 ?_ (by rw[ul,La];lia))
 have hoL:(h0.push (seqObj "list" us.toArray 0)).get? h0.objs.size=some (seqObj "list" us.toArray 0):=JM _ rfl;refine Jy (KH (wpAny_call_entry_kw slot_list_sort ⟨_,hoL,rfl⟩ entry_list_sort ?srt (ksk_l1 _ _)))
 case srt =>
  show wpAny _ A.in1.in1 (Builtin.«list.sort» ⟨[.ref h0.objs.size],[(Str.ofString "key",.ref f)]⟩) _ _ _;rw[ksk_t1];refine Ce (s:={s with toks:=tk}) (h0:=h0.push (seqObj "list" us.toArray 0)) (I.tok tk) (λb o e=>J7 _ (k0 b o e)) hz hoL hv (by rw[ul];exact hlen) (by rw[ul];exact h64)
   (λi u k hu hk pins' H' s' g J=>?_) λH' s' g n J=>⟨_,rfl,?_⟩
  ·have hi:i<xs.length:=by rw[<- ul];exact (J6.mp hu).1
   obtain⟨u',hu',rv⟩:=hv.get (Jx hi);rw[hu] at hu';cases hu';exact turn i _ u k (Jx hi) rv hk pins' H' s' g J
  ·exact JJ ⟨_,rfl,.ref h0.objs.size,_,J,rfl,h H' _ g n⟩
noncomputable def yQ(src:Hp->Addr->List V->Prop)(pre:V->Int->Hp->St->Prop)(fr:St->St)(t:TA):TE:=λσ H Q=>t σ H λvs H1=>∃l xs kz,vs=[.ref l]/\src H1 l xs/\kz.length=xs.length/\xs.length<64 /\
 (∀(i:Nat) (v:V) (k:Int),xs[i]?=some v->kz[i]?=some k->∀H',eB H1 H'->pre v k H' (fr σ))/\∀H2 D,eB H1 H2->H2 D=none->Q (.ref D) (upd H2 D (.lst (jN kz xs)))
theorem yI{t:TA}{p pos kpos lpos:Pos}{k:Nat}{src:Hp->Addr->List V->Prop}{pre:V->Int->Hp->St->Prop}{fr:St->St}
  (hg:Gl X "sorted") (hm:X.mg "sorted"=none) (ha:PA X [e] t) (h1:fT e=true) (hr:bM (k+3) X.A) (hL:PE X (.Lambda params body scope lpos) (BA q params body scope cl))
  (hsrc:∀pins σ H s H1 l xs A,Inv X pins σ H s->src H1 l xs->eB H1 H->A.handled=none->xs.length<64->w_ X A s l xs)
  (hk:scope.kind=.function) (hco:scope.isCoroutine=false) (hgen:scope.isGenerator=false) (hcell:∀y∈scope.names,y.2≠.cell) (hloc:scope.names.lookup x=some .local)
  (hbind:∀c' pm ctv u,bindArgs (W.kla_fn "<lambda>" q params body scope cl pm (.ref c') ctv) ⟨[u],[]⟩=pure [(x,u)])
  (hlen:∀σ:St,(fr σ).length=N.length) (hcl:∀y c,cl.lookup y=some c->X.env.cells.lookup y=some c) (hhas:∀y,(scope.names.lookup y=some .cell\/scope.names.lookup y=some .free)->∃c,cl.lookup y=some c)
  (hf:∀pins σ H s,Inv X pins σ H s->∀(i:Nat) (y:Str) (v:V),N[i]?=some y->(fr σ)[i]?=some (some v)->scope.names.lookup y=some .free/\∃c u,cl.lookup y=some c/\s.heap.IsCell c (some u)/\RelV v u)
  (hbody:∀A f c' s' H' σf v i,pre v i H' σf->∃t,PE (uw X A (x::N) q scope f (.ref c') cl s' H') body t/\t (some v::σf) H' (λw H2=>w=.int i/\H2=H')) :
  PE X (.Call (.Name "sorted" p) [e] [⟨some "key",.Lambda params body scope lpos,kpos⟩] pos) (yQ src pre fr t):=by
 intro pins s σ H Q I h;refine LM (gj I hg hm (u:=.builtin "sorted") (by decide +kernel) ?_ (by decide) (by decide))
 have hkw:PK X [⟨some "key",.Lambda params body scope lpos,kpos⟩] (jz (BA q params body scope cl) oz):=BW hL Eo;refine callWith_kw ?_ (by rw[d_ h1];rfl) (by rw[d_ h1];rfl) rfl rfl
 refine cp (ha pos pins s σ H _ I h) λus s1 hq1=>?_;obtain⟨vs,H1,I1,r1,q1⟩:=hq1;obtain⟨l,xs,kz,rfl,hs,hle,h64,hpre,qq⟩:=q1;obtain⟨u,rfl,ru⟩:=vals1 r1;cases ru;refine cp (hkw pos pins s1 σ H1 (λzs H2=>∃f c' pm ctv,zs=[.ref f]/\eB H1 H2/\j0 H2 f ((q)) params body scope cl c' pm ctv) I1 λf c' pm ctv H2 g lm=>⟨f,c',pm,ctv,rfl,g,lm⟩) λws s2 hq2=>?_;obtain⟨zs,H2,I2,rz,f,c',pm,ctv,e1,g,lm⟩:=hq2;subst e1;obtain⟨wv,rfl,rw1⟩:=vals1 rz;cases rw1;have hr1:bM (k+2) X.A.in1:=hr.in1;refine vN I2 (hsrc _ _ _ _ _ _ _ _ I2 hs g hr1.hd h64) hle h64 (λi v u j hv rv hj pins' H' s' g' J=>?_) λH' D g' n=>qq H' D (g.trans g') n;obtain⟨ho,fK⟩:=(lm.up λb o u e=>g'.same b _ e).get J;obtain⟨tb,hb,hq⟩:=hbody X.A.in1.in1 f c' s' H' (fr σ) v j (hpre i v j hv hj H' (g.trans g'));refine K5 (zG J hr1.in1 J.ok.frames hk hco hgen hcell rv hloc ho fK (hbind c' pm ctv) (hlen σ) hcl hhas (hf _ _ _ _ J) hb hq) (λr s4 hr4=>?_) λ_ _ z=>z;obtain⟨w,H4,J4,rw4,e4,e5⟩:=hr4;subst e4 e5;exact⟨rw4,J4⟩
end
theorem oq{a:α}{l:List (Str×α)}:List.lookup x ((x,a)::l)=some a:=by rw[Kv,Kw]
theorem jJ{y:Str}{a:α}{l:List (Str×α)}(h:y≠x):List.lookup y ((x,a)::l)=List.lookup y l:=by rw[Kv,Ka.mpr h]
abbrev kA(n:Nat):List V:=(List.range n).map λk=>V.int ((k:Nat):Int)
section
variable {X:Cx} {pins:List (Addr×Obj)} {σ:St} {H:Hp} {s:Shared}
theorem qh{A:Around}{r:Addr}{n:Nat}(hh:A.handled=none)(I:Inv X pins σ H s)(hr:H r=some (.mE 0 n))(h64:n<64):w_ X A s r (kA n):=λQ E h=>by
 obtain⟨t,u,v,e⟩:=I.aQ r _ hr;have hn2:Builtin.Range.rangeSize 0 (n:Int) 1=n:=by rw[rangeSize_one];split<;>lia
 have hsm:Builtin.Range.small 0 (n:Int) 1=true:=small_one (by lia) (by lia) (by lia) (by lia)
 have oS:(s.heap.push {cls:=.type "list",data:=.seq ([]:List Value).toArray}).get? s.heap.objs.size=some {cls:=.type "list",data:=.seq #[] 0}:=JM _ rfl;unfold collect;refine Jy (wpAny_runValue (LO PySem.F.entry_proto_collect ?_));rw[Mg PySem.F.plain_proto_collect _];refine Jy (m:=newList []) (Lr (JJ ⟨O7 PySem.F.plain_list_iadd _,LO PySem.F.entry_list_iadd ?_⟩));rw[Mg PySem.F.plain_list_iadd _];show wpAny _ A.in1 (Builtin.List.listExtendWith _ _ _) _ _ _;refine wpAny_extend_range (R:=λr s'=>match r with|.ok (.ret v)=>wpAny (model X.prog X.w) A (match v with|.ref a=>do (match (<- load a).data with|.seq xs _=>pure xs.toList|_=>unsupported "internal:collect")|_=>unsupported "internal:collect") Q E s'|.ok _=>_|.error e=>E e s') (s:={s with heap:=s.heap.push {cls:=.type "list",data:=.seq ([]:List Value).toArray}}) hh (J7 _ e) hsm hn2 (by lia) s.heap.objs.size (.ref s.heap.objs.size) 0 oS λh' tk acc c' hk hS hI=>?_
 refine Jy (m:=load s.heap.objs.size) (wpAny_load hS (JJ (h h' tk acc.toList (λb o e=>hk b o (JX (JP e)) (J7 _ e)) (Ll (JP hS)) ?_)));have hv:=Y.gY (lo:=0) n acc.toList 0 (by simpa using hI.1) λj v e=>by
  obtain⟨t,e2⟩:=hI.2 j v (by simpa using e)
  exact⟨t,by rw[e2];simp⟩
 show Vals ((List.range n).map λk=>V.int ((k:Nat):Int)) acc.toList;rw[Nf]
 simpa using hv
end
theorem bz.same{H':Hp}{a:Addr}(g:xX H H')(h:bz K H a xs):bz K H' a xs:=by
 rcases h with (h|⟨o,h⟩)|h
 ·exact .inl (.inl (g _ _ h))
 ·exact .inl (.inr ⟨o,g _ _ h⟩)
 ·exact .inr h
noncomputable def IX(j:Nat)(σ:St):St:=[(σ[j]?).getD none]
noncomputable def kI(K:W.Frag)(j:Nat)(t:TA):TE:=yQ (λH l xs=>∃n:Nat,H l=some (.mE 0 n)/\xs=kA n) (λv k H' σf=>∃i q ls,v=.int i/\σf=[some (.ref q)]/\bz K H' q ls/\bV ls i=some (.int k)) (IX j) t
theorem zb{t:TA}{p pos kpos lpos p1 p2 p3:Pos}{y:Str}{c:Addr}{j:Nat}{k:Nat}(hg:Gl X "sorted")(hm:X.mg "sorted"=none)(ha:PA X [e] t)(h1:fT e=true)(hr:bM (k+3) X.A)
  (hL:PE X (.Lambda params (.Subscript (.Name y p1) (.Name x p2) p3) scope lpos) (BA q params (.Subscript (.Name y p1) (.Name x p2) p3) scope [(y,c)]))
  (hsc:scope={kind:=.function,names:=[(x,.local),(y,.free)],isGenerator:=false,isCoroutine:=false,more:=[]}) (hxy:y≠x) (hx1:(x ==("__debug__":Str))=false) (hx2:(x ==("__classdict__":Str))=false) (hy1:(y ==("__debug__":Str))=false) (hy2:(y ==("__classdict__":Str))=false)
  (hj:X.N[j]?=some y) (hyc:X.env.scope.names.lookup y=some .cell) (hyl:X.env.cells.lookup y=some c)
  (hbind:∀c' pm ctv u,bindArgs (W.kla_fn "<lambda>" q params (.Subscript (.Name y p1) (.Name x p2) p3) scope [(y,c)] pm (.ref c') ctv) ⟨[u],[]⟩=pure [(x,u)]) :
  PE X (.Call (.Name "sorted" p) [e] [⟨some "key",.Lambda params (.Subscript (.Name y p1) (.Name x p2) p3) scope lpos,kpos⟩] pos) (kI X.K j t):=by
 subst hsc;have lx:List.lookup x [(x,NameKind.local),(y,NameKind.free)]=some .local:=oq;have ly:List.lookup y [(x,NameKind.local),(y,NameKind.free)]=some .free:=by rw[jJ hxy,oq]
 have lz:∀z,z≠x->z≠y->List.lookup z [(x,NameKind.local),(y,NameKind.free)]=none:=λz h1 h2=>by rw[jJ h1,jJ h2];rfl
 have lc:List.lookup y [(y,c)]=some c:=oq;have lcz:∀z d,List.lookup z [(y,c)]=some d->z=y/\d=c:=λz d e=>by
  by_cases h:z=y
  ·rw[h,lc] at e;cases e;exact⟨h,rfl⟩
  ·rw[jJ h] at e;cases e
 refine yI (N:=[y]) hg hm ha h1 hr hL (λpins σ H s H1 l xs A I hs g hh h64=>?_) rfl rfl rfl (λz hz=>?_) lx hbind (λ_=>rfl) (λz d e=>?_) (λz hz=>?_) (λpins σ H s I i z v e1 e2=>?_) λA f c' s' H' σf v i hp=>?_
 ·obtain⟨n,hs,rfl⟩:=hs;rw[Jz,Ky] at h64;exact qh hh I (g.same _ _ hs) h64
 ·rcases J9.mp hz with rfl|hz
  ·nofun
  ·rw[JQ.mp hz];nofun
 ·obtain⟨rfl,rfl⟩:=lcz z d e;exact hyl
 ·by_cases z1:z=x
  ·have hz':List.lookup z [(x,NameKind.local),(y,NameKind.free)]=some .cell\/List.lookup z [(x,NameKind.local),(y,NameKind.free)]=some .free:=hz;rw[z1,lx] at hz';rcases hz' with h|h<;>cases h
  ·by_cases z2:z=y
   ·rw[z2];exact⟨c,lc⟩
   ·have hz':List.lookup z [(x,NameKind.local),(y,NameKind.free)]=some .cell\/List.lookup z [(x,NameKind.local),(y,NameKind.free)]=some .free:=hz;rw[lz z z1 z2] at hz';rcases hz' with h|h<;>cases h
 ·cases i with
  |succ i=>cases e1
  |zero =>
   have e1':some y=some z:=e1;cases e1';have e2':some ((σ[j]?).getD none)=some (some v):=e2;have e3:σ[j]?=some (some v):=by
    cases hσ:σ[j]? with
    |none=>rw[hσ] at e2';cases e2'
    |some o=>rw[hσ] at e2';exact e2'
   obtain⟨m,_,hl⟩:=I.loc;obtain⟨u,rv,lk⟩:=hl j y v hj e3 (.inr (.inl hyc));refine⟨ly,c,u,lc,?_,rv⟩;rcases lk with ⟨z,_⟩|⟨_,d,z1,z2⟩
   ·have z':X.env.scope.names.lookup y=some .local:=z;rw[hyc] at z';cases z'
   ·rw[hyl] at z1;cases z1;exact z2
 ·obtain⟨ix,a,ls,rfl,rfl,hq,ha'⟩:=hp;refine⟨_,CS rE (pv 1 rfl (.inr (.inr ly)) hy1 hy2) (pv 0 rfl (.inl lx) hx1 hx2) (Z.Jc rfl),?_⟩;exact⟨_,rfl,_,rfl,a,ls,ix,.int i,rfl,rfl,hq,ha',rfl,rfl⟩
theorem A7{β:Type}{g:α->β}{ks:List Int}{l:List α}:jN ks (l.map g)=(jN ks l).map g:=by
 have p:∀l:List α,Paired (λa b=>b=g a) l (l.map g):=λl=>by
  induction l with
  |nil=>exact .nil
  |cons a l ih=>exact .cons rfl ih
 have q:∀{l:List α} {m:List β},Paired (λa b=>b=g a) l m->m=l.map g:=λ{l m} h=>by
  induction h with
  |nil=>rfl
  |cons r _ ih=>rw[r,ih];rfl
 exact q (uh (p l))
structure tJ (K:W.Frag) (mg:Str->Option Value) (x:Str):Prop where
 ex:∃c P,W.tabIn K x=some (c,P)/\∀f cdv,EU K mg x f cdv->cdv=.ref c
theorem qC{c P:Addr}{oc oc':Value}{od od':Option Addr}{sl sl':Array (Option Value)}{fd:FuncData}{vs:Array Value}(a:W.nsIn K mainGlobals x=some (some (.ref f)))(l:K.lookup f=some ⟨oc,od,.func fd,sl⟩)(hc:fd.code=.ref c)
  (lc:K.lookup c=some ⟨oc',od',.fields vs,sl'⟩) (hv:vs[11]?=some (.ref P)):W.tabIn K x=some (c,P):=by
 unfold W.tabIn;rw[a];dsimp only;rw[l];dsimp only;rw[hc];dsimp only;rw[lc];dsimp only;rw[hv]
theorem kH(a:W.nsIn K mainGlobals x=some none):W.tabIn K x=none:=by
 unfold W.tabIn;rw[a]
theorem tJ.mk'{mg:Str->Option Value}{c P:Addr}(X:K.In h)(G:h.Ns mainGlobals mg)(ht:W.tabIn K x=some (c,P)):tJ K mg x:=
 ⟨c,P,ht,λf cdv ⟨m,o,fd,lk,hd,e⟩=>by rw[<- e];exact W.law_code X G ht m (X _ _ lk) hd⟩
theorem iy.of{q:Program}{o1 o2 o3:Option (Addr×Addr)}(nt:W.noTabs K=true)(t1:W.tabIn K "by_worth"=o1)(t2:W.tabIn K "by_weight"=o2)(t3:W.tabIn K "code_of"=o3)(nd:((o1.toList++(o2.toList++o3.toList)).map (·.2)).Nodup)
  (f1:o1=none\/((recsOf q).find? (λe=>e.name ==("by_worth":Str))).isSome=true) (f2:o2=none\/((recsOf q).find? (λe=>e.name ==("by_weight":Str))).isSome=true) (f3:o3=none\/((recsOf q).find? (λe=>e.name ==("code_of":Str))).isSome=true):iy q K:=by
 refine⟨nt,?_,λx hx=>?_⟩
 ·have e:(cm K).map (·.2.1)=(o1.toList++(o2.toList++o3.toList)).map (·.2):=by
   unfold cm dU
   cases o1<;>cases o2<;>cases o3<;>simp[List.filterMap,t1,t2,t3]
  rw[e];exact nd
 ·unfold dU at hx;rcases J9.mp hx with rfl|hx
  ·rw[t1];exact f1
  ·rcases J9.mp hx with rfl|hx
   ·rw[t2];exact f2
   ·rw[JQ.mp hx,t3];exact f3
namespace Y
noncomputable def AN:V->List V->Hp->VK->Prop:=λx vs H Q=>∃z y,x=.str z/\vs=[.str y]/\z.length<=sizeLine/\Q (.str (Txt.rstripChars z y)) H
theorem nh:sZ X "str.rstrip" AN:=by
 intro pins s σ H x xs v us Q I rx rs h;obtain⟨z,y,rfl,rfl,hz,q⟩:=h;obtain⟨t,rfl⟩:=rx;obtain⟨u,rfl,k,rfl⟩:=vals1 rs;exact SC.rstripChars (λt' k=>⟨.str _,H,I.tok _,⟨_,rfl⟩,q⟩) hz
noncomputable def Em:V->List V->Hp->VK->Prop:=λx vs H Q=>∃z i y,x=.str z/\vs=[.int i,.str y]/\0<=i/\i<1000/\y.length=1/\Q (.str (Txt.ljustF z i (y.cps.getD 0 0))) H
theorem qx:sZ X "str.ljust" Em:=by
 intro pins s σ H x xs v us Q I rx rs h;obtain⟨z,i,y,rfl,rfl,h0,h1,hy,q⟩:=h;obtain⟨t,rfl⟩:=rx;obtain⟨u1,u2,rfl,⟨t1,rfl⟩,⟨t2,rfl⟩⟩:=vals2 rs;exact ljust_fill (padOk_of (by lia) (by lia)) hy λt' k=>⟨.str _,H,I.tok _,⟨_,rfl⟩,q⟩
end Y
theorem qe(x y:Str):(Txt.rstripChars x y).cps.toList.reverse=x.cps.toList.reverse.dropWhile y.cps.contains:=by
 have key:∀(p:Nat->Bool) (l:List Nat),(l.take (l.length-(l.reverse.takeWhile p).length)).reverse=l.reverse.dropWhile p:=λp l=>by
  have h:(l.reverse.takeWhile p).length<=l.length:=by simpa using (List.takeWhile_sublist p (l:=l.reverse)).length_le
  rw[List.reverse_take,<- tS];congr 1;lia
 have hl:x.length=x.cps.toList.length:=by rw[Km];rfl
 rw[<- key];unfold Txt.rstripChars Txt.stripBy;split
 ·rename_i h;unfold stripSame at h;rw[K4] at h;have h2:x.length-(x.cps.toList.reverse.takeWhile y.cps.contains).length=x.length:=by simpa[stripLo,stripHi] using h.2
  rw[<- hl,h2,hl,Kq]
 ·have e:∀(a:Array Nat) (j:Nat),(a.extract 0 j).toList=a.toList.take j:=λa j=>by simp
  have e2:=e x.cps (x.length-(x.cps.toList.reverse.takeWhile y.cps.contains).length);rw[hl] at e2;exact Kt List.reverse e2
namespace Y
noncomputable def FT:R2:=λx y H Q=>∃(c:Nat) (k:Int),x=.str ⟨#[c]⟩/\y=.int k/\0<=k/\k<=1000/\Q (.str ⟨(List.replicate k.toNat c).toArray⟩) H
theorem sI:dc X (binaryOp .Mult) FT:=by
 intro pins s σ H x y v u Q I rx ry h;obtain⟨c,k,rfl,rfl,h0,h1,q⟩:=h;obtain⟨t,rfl⟩:=rx;obtain⟨t2,rfl⟩:=ry;have e:Txt.mul ⟨#[c]⟩ k=⟨(List.replicate k.toNat c).toArray⟩:=by
  have:=mul_one_list c k
  cases hz:Txt.mul ⟨#[c]⟩ k with
  |mk a=>rw[hz] at this;rw[<- this,Mm]
 have ok:MulOk ⟨#[c]⟩ k:=by
  refine⟨by simp only[Bool.or_eq_false_iff,decide_eq_false_iff_not];lia,λz _=>?_,λz _=>?_⟩
  ·have hl:((⟨#[c]⟩:Str).length:Int)=1:=rfl;rw[hl];have:1<=(2^63-1) / k:=by
    rw[Oi (by lia)];lia
   lia
  ·have hl:(⟨#[c]⟩:Str).length=1:=rfl;rw[hl,Nat.one_mul];exact Ke (O3.mpr (JF (show k.toNat<=1000 by lia) (by decide)))
 exact SB.mul ok λt' j=>⟨.str _,H,I.tok _,⟨t',by rw[e]⟩,q⟩
section
variable {prog:Program} {w:World} {A:Around} {E:Value->Shared->Prop} {s:Shared}
theorem Cn{l:Addr}{vs:List Value}(hh:A.handled=none)(ht:s.heap.IsTuple l vs.toArray)(hI:IntsAre vs ns)(hne:0<ns.length)
  (h:∀M h' tk t',M∈ns->(∀a∈ns,M<=a)->(∀b o,s.heap.get? b=some o->h'.get? b=some o)->Q (.int M t') {s with heap:=h',toks:=tk}) :
  wpAny (model prog w) A (call (.builtin "min") [.ref l]) Q E s:=by
 have hlt:l<s.heap.objs.size:=by obtain⟨o,ho,_⟩:=id ht;exact JP ho
 have hlen:=gn hI;refine call_min_walk (L0 ht ?_);refine⟨_,[_,l],[_],_,_,_,_,rfl,Walks.tuple (A:=A.in1) hh _ l (JX hlt) vs.toArray,⟨⟨_,JM _ rfl,rfl,rfl⟩,ht.push _⟩,λc hc=>?_,by simpa[hlen] using hne,CmpOf.ints_lt (λi=>ns.getD i 0) (λi v e=>eC hI (by simpa using e)),λv h' tk hP hk=>?_⟩
 ·show c<(s.heap.push _).objs.size;rw[K7];rcases J9.mp hc with rfl|hc
  ·exact Ly _
  ·rcases J9.mp hc with rfl|hc
   ·exact LX hlt
   ·cases hc
 ·obtain⟨t,rfl⟩:=eC (i:=argBest (λi j=>decide (ns.getD i 0<ns.getD j 0)) (vs.toArray.size-1)) hI (by rw[<- Kn];exact hP)
  obtain⟨h1,h2⟩:=argBest_lt (λi=>ns.getD i 0) (vs.toArray.size-1);have hsz:vs.toArray.size=ns.length:=by simpa using hlen
  refine h _ h' tk t ?_ (λa ha=>?_) (λb o e=>hk b o (λhm=>?_) (J7 _ e))
  ·have:argBest (λi j=>decide (ns.getD i 0<ns.getD j 0)) (vs.toArray.size-1)<ns.length:=by lia
   rw[JI,Jx this];exact JN _
  ·obtain⟨j,hj,rfl⟩:=Mn.mp ha;have:=h2 j (by lia)
   rw[JI (i:=j),Jx hj] at this;exact this
  ·rcases J9.mp hm with rfl|hm
   ·exact absurd (JP e) (KG _)
   ·cases hm
theorem Cu{l:Addr}{vs:List Value}(hh:A.handled=none)(ht:s.heap.IsList l vs.toArray)(hI:IntsAre vs ns)(hne:0<ns.length)
  (h:∀M h' tk t',M∈ns->(∀a∈ns,M<=a)->(∀b o,s.heap.get? b=some o->h'.get? b=some o)->Q (.int M t') {s with heap:=h',toks:=tk}) :
  wpAny (model prog w) A (call (.builtin "min") [.ref l]) Q E s:=by
 have hlt:l<s.heap.objs.size:=by obtain⟨o,ho,_⟩:=id ht;exact JP ho
 have hlen:=gn hI;refine call_min_walk (LY ht ?_);refine⟨_,[_,l],[_],_,_,_,_,rfl,Walks.list (A:=A.in1) hh _ l (JX hlt) vs.toArray,⟨⟨_,JM _ rfl,rfl,rfl⟩,ht.push _⟩,λc hc=>?_,by simpa[hlen] using hne,CmpOf.ints_lt (λi=>ns.getD i 0) (λi v e=>eC hI (by simpa using e)),λv h' tk hP hk=>?_⟩
 ·show c<(s.heap.push _).objs.size;rw[K7];rcases J9.mp hc with rfl|hc
  ·exact Ly _
  ·rcases J9.mp hc with rfl|hc
   ·exact LX hlt
   ·cases hc
 ·obtain⟨t,rfl⟩:=eC (i:=argBest (λi j=>decide (ns.getD i 0<ns.getD j 0)) (vs.toArray.size-1)) hI (by rw[<- Kn];exact hP)
  obtain⟨h1,h2⟩:=argBest_lt (λi=>ns.getD i 0) (vs.toArray.size-1);have hsz:vs.toArray.size=ns.length:=by simpa using hlen
  refine h _ h' tk t ?_ (λa ha=>?_) (λb o e=>hk b o (λhm=>?_) (J7 _ e))
  ·have:argBest (λi j=>decide (ns.getD i 0<ns.getD j 0)) (vs.toArray.size-1)<ns.length:=by lia
   rw[JI,Jx this];exact JN _
  ·obtain⟨j,hj,rfl⟩:=Mn.mp ha;have:=h2 j (by lia)
   rw[JI (i:=j),Jx hj] at this;exact this
  ·rcases J9.mp hm with rfl|hm
   ·exact absurd (JP e) (KG _)
   ·cases hm
end
noncomputable def GI(K:W.Frag):List V->Hp->VK->Prop:=λxs H Q=>∃(p:Addr) (ns:List Int),xs=[.ref p]/\(bz K H p (ns.map V.int)\/bI K H p (ns.map V.int))/\0<ns.length/\∀M:Int,M∈ns->(∀a∈ns,M<=a)->Q (.int M) H
theorem vk(K:W.Frag)(hK:X.K=K)(hc:X.calm=true):bu X (.builtin "min") (GI K):=by
 subst hK;intro pins s σ H xs us Q I r h;obtain⟨p,ns,rfl,hq,hne,q⟩:=h;obtain⟨u,rfl,ru⟩:=vals1 r;cases ru;rcases hq with hq|hq
 ·obtain⟨its,rv,pl,hz⟩:=I.tuple hq;refine Cn (I.ok.hd hc) pl (intsAre_of rv) hne λM h' tk t' m1 m2 hk=>?_;exact⟨.int M,H,I.kept hk,⟨_,rfl⟩,q M m1 m2⟩
 ·obtain⟨its,rv,pl,hz⟩:=I.list hq;refine Cu (I.ok.hd hc) pl.isList (intsAre_of rv) hne λM h' tk t' m1 m2 hk=>?_;exact⟨.int M,H,I.kept hk,⟨_,rfl⟩,q M m1 m2⟩
noncomputable def yb(K:W.Frag):List V->Hp->VK->Prop:=λxs H Q=>CV K xs H Q\/∃p ns,xs=[.ref p]/\bI K H p (ns.map V.int)/\ns.length<64/\∀ns':List Int,ns'.Perm ns->ns'.Pairwise (·<=·)->∀l,H l=none->Q (.ref l) (upd H l (.lst (ns'.map V.int)))
theorem si(K:W.Frag)(hK:X.K=K):bu X (.builtin "sorted") (yb K):=by
 refine (vx K hK).or ?_;subst hK;intro pins s σ H xs us Q I r h;obtain⟨p,ns,rfl,hq,h64,q⟩:=h;obtain⟨u,rfl,ru⟩:=vals1 r;cases ru;obtain⟨its,rv,pl,hz⟩:=I.list hq;have hi:=intsAre_of rv;refine sorted_ints pl.isList hi (by rw[gn hi];exact h64) λout ns' a1 a2 a3=>?_
 obtain⟨e,he⟩:=sortedAll_at s.heap its out;refine⟨.ref (s.heap.objs.size+1),_,I.laid (t':=s.toks) (λb ob q=>sortedAll_old q) (K8 _) (show b9 X.prog X.w _ _ _ (.lst (ns'.map V.int)) from⟨?_,out.toList,e,fC a1,by simpa using he⟩),rfl,q ns' a2 a3 _ (I.aQ.fresh (K8 _))⟩
 rw[Jz,a2.length_eq];exact JF (Ll h64) (by decide)
noncomputable def GJ:V->List V->Hp->VK->Prop:=λx vs H Q=>∃a:Int,x=.int a/\vs=[]/\Q (.int (Builtin.Int.intBits a:Nat)) H
theorem uz:sZ X "int.bit_length" GJ:=by
 intro pins s σ H x xs v us Q I rx rs h;obtain⟨a,rfl,rfl,q⟩:=h;obtain⟨t,rfl⟩:=rx;obtain rfl:=Paired.x8 rs;exact call_int_bit_length ⟨.int _,H,I.tok _,⟨_,rfl⟩,q⟩
end Y
noncomputable def jc(h:Heap)(d:Addr)(es:Array DictEntry)(ep:Nat):Prop:=∃o,h.get? d=some o/\o.ExactDict/\o.data=.dict es ep
section
variable {prog:Program} {w:World} {A:Around} {E:Value->Shared->Prop} {s:Shared}
theorem jc.ty(x:jc s.heap d es ep):s.TypeIs (.ref d) "dict":=let ⟨o,ho,hc,_⟩:=x;⟨o,ho,hc.1⟩
theorem jc.keep(x:jc h d es ep)(k:∀o,h.get? d=some o->h'.get? d=some o):jc h' d es ep:=let ⟨o,ho,r⟩:=x;⟨o,k _ ho,r⟩
theorem jc.lt(x:jc h d es ep):d<h.objs.size:=let ⟨_,ho,_⟩:=x;JP ho
theorem As(low:(d == sysModules)=false)(x:jc s.heap d es ep)
  (q:Q (.ref s.heap.objs.size) {s with heap:=s.heap.push {cls:=.type "dict_keyiterator",data:=.fields #[.ref d,.int 0 0,.int es.size 0,.int ep 0]}}):wpAny (model prog w) A (pyIter (.ref d)) Q E s:=by
 obtain⟨o,ho,hx,hdat⟩:=id x;refine wpAny_pyIter_slot x.ty PySem.F.slot_dict_iter (KC PySem.F.slot_dict_iter x.ty PySem.F.entry_dict_iter ?_ (PySem.F.args_dict_iter_1 _));unfold Builtin.«dict.__iter__» Builtin.Dict.dictSlotNone;refine Jy (Jy (wpAny_notOrdered_dict x.ty ?_));show wpAny _ _ (pure (Value.ref d)) _ _ s;refine JJ ?_;show wpAny _ _ (Builtin.Dict.showsAll d >>= _) _ _ s;unfold Builtin.Dict.showsAll;rw[low,JA JO];refine Jy (JJ (Jy (MH ho hdat (Jy (N_ ho hdat ?_)))));exact Jy (Lr (JJ ⟨_,rfl,"dict_keyiterator",_,⟨_,JM _ rfl,rfl⟩,PySem.F.slot_dict_keyiterator_next.lookup,q⟩))
theorem A6{it:Addr}{Q:Option Value->Shared->Prop}(hit:s.heap.IsKeyIter it d i es.size ep)(x:jc s.heap d es ep)(hi:i<es.size)
  (q:∀h',h'.IsKeyIter it d (i+1) es.size ep->Heap.SameBut it s.heap h'->Q (some es[i].key) {s with heap:=h'}):wpAny (model prog w) A (pyNext (.ref it)) Q E s:=by
 obtain⟨o,ho,hc,hd⟩:=id hit;obtain⟨od,hod,hx,hdd⟩:=id x;unfold pyNext;refine Jy (MP (Kz (name:=Str.ofString "__next__") hit.typeIs PySem.F.slot_dict_keyiterator_next (KC PySem.F.slot_dict_keyiterator_next hit.typeIs PySem.F.entry_dict_keyiterator_next ?_ (PySem.F.args_dict_keyiterator_next_1 _))));refine Jy (JJ (Jy (Jy ?_)))
 first|refine Jy (Lv hit.typeIs (JJ (Jy (Nt ho hd ?_))))|refine Jy (LC hit.typeIs (JJ (Jy (Nt ho hd ?_))))
 simp only[show Builtin.Dict_items.ownsTuple "dict_keyiterator"=false by decide,Mz,Mf]
 show wpAny _ _ (if (Value.ref d == Value.none)=true then _ else _) _ _ s;rw[JA (show ¬ ((Value.ref d == Value.none)=true) from JO)]
 refine Jy (JJ (Jy (MH hod hdd ?_)));rw[JA (by simp)]
 refine Jy (JJ (Jy (N_ hod hdd ?_)));rw[JA (by simp)]
 refine JJ ?_;simp only[show ¬ ((i:Int)<0) by lia,Mf,Kb,NG hi]
 refine Jy ?_
 first|refine Jy (Lv hit.typeIs (JJ (Jy (MU hit.typeIs ?_))))|refine Jy (LC hit.typeIs (JJ (Jy (MU hit.typeIs ?_))))
 show wpAny _ _ (setField (.ref it) 1 (rawInt ((i:Int)+1)) >>= _) _ _ s;refine Jy (Nr ho hd (by simp) ?_)
 have h2:(s.heap.update it (Obj.mapFields (·.setIfInBounds 1 (rawInt ((i:Int)+1))))).IsKeyIter it d (i+1) es.size ep:=⟨_,Ma _ ho (Obj.isFreed_of_fields (M0 hd _)),(Obj.cls_mapFields ..).trans hc,by rw[M0 hd];simp[rawInt]⟩
 refine Jy (KH (Jy (MU (s:={s with heap:=s.heap.update it (Obj.mapFields (·.setIfInBounds 1 (rawInt ((i:Int)+1))))}) h2.typeIs ?_)))
 show wpAny _ _ (pure es[i].key) _ _ _;exact JJ (JJ ⟨_,rfl,JJ (q _ h2 (KL ..))⟩)
theorem A2{it:Addr}{Q:Option Value->Shared->Prop}(hh:A.handled=none)(hit:s.heap.IsKeyIter it d es.size es.size ep)(x:jc s.heap d es ep)
  (q:∀h',Heap.ExtBut it s.heap h'->Q none {s with heap:=h'}):wpAny (model prog w) A (pyNext (.ref it)) Q E s:=by
 obtain⟨o,ho,hc,hd⟩:=id hit;obtain⟨od,hod,hx,hdd⟩:=id x;unfold pyNext;refine Jy (MP (Kz (name:=Str.ofString "__next__") hit.typeIs PySem.F.slot_dict_keyiterator_next (KC PySem.F.slot_dict_keyiterator_next hit.typeIs PySem.F.entry_dict_keyiterator_next ?_ (PySem.F.args_dict_keyiterator_next_1 _))));refine Jy (JJ (Jy (Jy ?_)))
 first|refine Jy (Lv hit.typeIs (JJ (Jy (Nt ho hd ?_))))|refine Jy (LC hit.typeIs (JJ (Jy (Nt ho hd ?_))))
 simp only[show Builtin.Dict_items.ownsTuple "dict_keyiterator"=false by decide,Mz,Mf]
 show wpAny _ _ (if (Value.ref d == Value.none)=true then _ else _) _ _ s;rw[JA (show ¬ ((Value.ref d == Value.none)=true) from JO)]
 refine Jy (JJ (Jy (MH hod hdd ?_)));rw[JA (by simp)]
 refine Jy (JJ (Jy (N_ hod hdd ?_)));rw[JA (by simp)]
 refine JJ ?_;simp only[show ¬ ((es.size:Int)<0) by lia,Mf,Kb,Oj (JD es.size)]
 refine Jy ?_
 first|refine Jy (Lv hit.typeIs (JJ ?_))|refine Jy (LC hit.typeIs (JJ ?_))
 show wpAny _ _ (setField (.ref it) 0 .none >>= _) _ _ s;refine Jy (Nr ho hd (by simp) ?_)
 show wpAny _ _ (newExc (.type "StopIteration") [] >>= _) _ _ _;refine Jy ?_;simp only[newExc,newTuple];refine Jy (Lr ?_ (by size_fits))
 refine Jy (m:=firstArgMember _ _) (wpAny_of_eq (a:=Value.none) (by first|rfl | (simp only[firstArgMember];rfl)) (Lr ?_ (by size_fits)))
 simp only[raiseNew];refine Jy (wpAny_handled ?_);rw[show A.in1.handled=none from hh];refine Jy (JJ (wpAny_throw ?_));refine Jy (wpAny_isInstance (T:="StopIteration") (b:=true) ⟨_,JM _ rfl,rfl⟩ isSubtype_stop ?_);exact JJ (q _ (((KL ..).extBut.push _).push _))
end
theorem Ag{w:World}{A:Around}(hh:A.handled=none)(I d:Addr)(ne:d≠I)(es:Array DictEntry)(ep:Nat):
  Walks prog w A I [I,d] [I] es.size (λi v=>∃h:i<es.size,v=es[i].key) (λi h=>h.IsKeyIter I d i es.size ep/\jc h d es ep) where
 sub:=λb hb=>by simp at hb;simp[hb]
 frame:=λ_ _ _ st hk=>⟨st.1.at λo e=>hk I (by simp) o e,st.2.keep λo e=>hk d (by simp) o e⟩
 item:=λi s Q E hi st hQ=>A6 st.1 st.2 hi λh' a b=>hQ _ h' s.toks ⟨hi,rfl⟩ ⟨a,st.2.keep λo e=>b.extBut _ _ ne e⟩ λc o hc e=>b.extBut c o (λh=>hc (by simp[h])) e
 done:=λs Q E st hQ=>A2 hh st.1 st.2 λh' he=>hQ h' s.toks λc o hc e=>he c o (λh=>hc (by simp[h])) e
 self:=λ_ _ _ _ st hQ=>wpAny_pyIter_keyiter st.1 hQ
theorem EJ{w:World}(low:(d == sysModules)=false):W.KdlSrc prog w "dict" d d es.size (λi v=>∃h:i<es.size,v=es[i].key) (λh=>jc h d es ep) where
 type:=λ_ x=>x.ty
 there:=λ_ x=>⟨x.lt,x.lt⟩
 keep:=λ_ _ x k=>x.keep λo e=>k d (.inl rfl) o e
 notList:=by decide
 notTuple:=by decide
 hint:=λ_ _ _ _ x q=>W.kdl_hint_dict x.ty q
 iter:=λ_ _ hh x=>⟨_,_,(λ_ _ q=>As low x q),Ag hh _ d (JX x.lt) es ep,⟨⟨_,JM _ rfl,rfl,rfl⟩,x.keep λ_ e=>J7 _ e⟩⟩
theorem xS{es:List DictEntry}(h:KTD.Rows (zI K) es D):es.length=D.length:=by
 induction h with
 |nil=>rfl
 |cons _ _ _ ih=>simp[ih]
theorem zH{es:List DictEntry}(h:KTD.Rows (zI K) es D):Vals (D.map λp=>V.str p.1) (es.map λe=>e.key):=by
 induction h with
 |nil=>exact .nil
 |cons e _ _ ih=>exact .cons ⟨_,e⟩ ih
noncomputable def Fw(K:W.Frag)(D:List (Str×List Str)):List V->Hp->VK->Prop:=λxs H Q=>∃d,xs=[.ref d]/\lJ K d D/\D.length<=sizeLine/\∀l,H l=none->Q (.ref l) (upd H l (.lst (D.map λp=>V.str p.1)))
theorem kM(K:W.Frag)(hK:X.K=K)(hc:X.calm=true):bu X (.type "list") (Fw K D):=by
 intro pins s σ H xs us Q I r h;subst hK;obtain⟨d,rfl,hd,hz,q⟩:=h;obtain⟨u,rfl,rx⟩:=vals1 r;cases rx;obtain⟨o,es,ep,ho,hx,hdat,hr⟩:=hd.ex;have at0:jc s.heap d es ep:=⟨o,I.iP _ _ ho,hx,hdat⟩;have hl:es.size=D.length:=by rw[<- xS hr,Km]
 refine W.kdl_call (EJ hd.low) (I.ok.hd hc) at0 (by rw[hl];exact hz) λh' tk acc c' hk hS hI=>?_
 have hv:Vals (D.map λp=>V.str p.1) acc.toList:=by
  have e:acc.toList=es.toList.map λe=>e.key:=by
   refine NA λj=>?_;rw[Kh,JC,Kh]
   cases z:acc[j]? with
   |none =>
    have:acc.size<=j:=N7.mp z;rw[Oj (by rw[<- hI.1];exact this)];rfl
   |some v =>
    obtain⟨hj,rfl⟩:=hI.2 j v z;rw[NG hj];rfl
  rw[e];exact zH hr
 refine⟨.ref s.heap.objs.size,_,I.laid (t':=tk) hk (JD _) (show b9 X.prog X.w _ h' _ (.lst _) from⟨?_,acc.toList,c',hv,by simpa using hS⟩),rfl,q _ (I.aQ.fresh (JD _))⟩
 rw[Jz];exact hz
section
variable {K:W.Frag} {g:TG} {tb:TS} {D:Ends} {σ:St} {H:Hp} {te:TE} {Q:VK}
theorem ib{a:Addr}(hn:xs.length<=sizeLine)(Pv:Addr->Nat->List V->Hp->Prop)(h0:∀D,H D=none->Pv D 0 [] (upd H D (.lst [])))(hD:∀D i ys H',Pv D i ys H'->H' D=some (.lst ys)/\ys.length=i)
  (hl:∀D i ys H',Pv D i ys H'->bI K H' a xs)
  (hs:∀D i ys H' x (R:VK),xs[i]?=some x->Pv D i ys H'->(∀v H5,H5 D=some (.lst ys)->Pv D (i+1) (ys++[v]) (upd H5 D (.lst (ys++[v])))->R v H5)->te (some x::σ) H' R) (hd:∀D ys H',Pv D xs.length ys H'->Q (.ref D) H') :
  i6 (sT K a) 1 (b6 0) dY te Q σ H:=by
 intro D hD0;refine⟨λi m ys σ' H'=>m=xs.length-i/\i<=xs.length/\Pv D i ys H'/\∃o,σ'=o::σ,⟨xs.length,by simp,JL _,h0 D hD0,none,rfl⟩,?_⟩
 rintro i m ys σ' H' ⟨rfl,hi,p,o,rfl⟩;obtain⟨hDi,hly⟩:=hD _ _ _ _ p;have q:=hl _ _ _ _ p;refine⟨hDi,?_⟩;by_cases hlt:i<xs.length
 ·refine .inr ⟨⟨xs,xs[i],q,by simp[hlt]⟩,by lia,λx H2 y=>?_⟩
  obtain⟨rfl,y⟩:=y;unfold b6 dY;dsimp only;rw[if_pos rfl];exact hs D i ys H2 x _ (y xs q) p λv H5 q1 q2=>⟨q1,xs.length-(i+1),by lia,rfl,hlt,q2,_,rfl⟩
 ·have e:i=xs.length:=by lia
  subst e;exact .inl ⟨⟨xs,q,JD _⟩,hd D ys H' p⟩
end
noncomputable def but(B:lX)(a:Addr):lX:=λb=>B b/\b≠a
noncomputable def Ii(K:W.Frag)(mg:Str->Option Value)(x:Str):Prop:=∃p o,mg x=some (.ref p)/\K.lookup p=some o/\o.dict=none
open Builtin Builtin.Str
open PySem PySem.Spec PyProof PyProof.Rows
open Builtin Builtin.Str
open PySem PySem.Spec PyProof PyProof.Rows
open PySem PySem.Spec PyProof PyProof.Rows PySem.W
variable{X:Cx}{cs:List Nat}{E Q:Value->Shared->Prop}{x:PySem.Str}{P prog:Program}{w:World}{i:Nat}{h h':Heap}{xs:Array Value}{β:Type}{K:W.Frag}{es ifs:List Expr}{a:Addr}{σ:St}{H:Hp}{p:Pos}{e iter:Expr}{osc scope:Scope}{N ON own:List Str}
theorem ints_get:∀{ns:List Int} {its:List Value},Vals (ns.map V.int) its->∀(m:Nat) (y:Int),ns[m]?=some y->∃t,its[m]?=some (.int y t):=λr m y e=>by
 obtain⟨u,h1,h2⟩:=r.get (i:=m) (x:=V.int y) (by rw[JC,e];rfl)
 obtain⟨t,rfl⟩:=(show RelV (.int y) u from h2);exact⟨t,h1⟩
namespace Y
noncomputable def Ga:V->List V->Hp->VK->Prop:=λx vs H Q=>∃(a:Addr) (ws:List Int) (k:Int) (j:Nat),x=.ref a/\H a=some (.lst (ws.map V.int))/\vs=[.int k]/\ws[j]?=some k/\(∀m,m<j->ws[m]?≠some k)/\Q (.int (j:Nat)) H
theorem BX:H_ X "list.index" Ga:=by
 intro pins s σ H x xs v us Q I rx rs h;obtain⟨a,ws,k,j,rfl,hH,rfl,hj,hno,q⟩:=h;cases rx;obtain⟨u,rfl,t,rfl⟩:=vals1 rs;obtain⟨z,its,n,r,hl,e⟩:=I.qM hH;obtain⟨t',hit⟩:=ints_get r j k hj;have hjl:j<ws.length:=(J6.mp hj).1;rw[Jz] at z hl;have hji:j<its.toArray.size:=by rw[J8];lia
 have sz:(sizeLine:Int)<2^63-1:=by decide
 have hje:its.toArray[j]=.int k t':=by
  have:its.toArray[j]?=some (.int k t'):=by rw[Kn];exact hit
  exact (KI.mp this).2
 have hall:∀(m:Nat) (hm:m<its.toArray.size),∃y ty,its.toArray[m]=.int y ty/\ws[m]?=some y:=λm hm=>by
  have hm':m<ws.length:=by rw[J8] at hm;lia
  have e1:=Jx hm';obtain⟨ty,hy⟩:=ints_get r m _ e1;have:its.toArray[m]?=some (.int ws[m] ty):=by rw[Kn];exact hy
  exact⟨_,ty,(KI.mp this).2,e1⟩
 refine MC PySem.F.slot_list_index ⟨_,e,rfl⟩ PySem.F.entry_list_index (PySem.F.args_list_index_2 _ _) (SeqAt.list_indexAt a its.toArray n none _ (.int k t) (λy=>match y with|.int y _=>y == k|_=>false) j hji (by lia) (by rw[hje];exact Kw k) λm hm hmj=>?_) ⟨e,λy hy=>?_,⟨.int (j:Nat),H,I.tok _,⟨_,rfl⟩,q⟩⟩
 ·obtain⟨y,ty,ey,ew⟩:=hall m hm;rw[ey];exact Ka.mpr λz=>hno m hmj (by rw[ew,z])
 ·obtain⟨m,hm,rfl⟩:=Ow.mp hy;obtain⟨y,ty,ey,ew⟩:=hall m hm;rw[ey];exact SeqAt.EqAt.int_int _ _ _ _
end Y
open PySem PySem.Calls PySem.NumText PySem.Spec PyProof PyProof.Rows
noncomputable def kP(cs:List Nat):Nat:=cs.foldl (λa c=>a*2+(c-48)) 0
noncomputable def dH(cs:List Nat):Prop:=∀c∈cs,c=48\/c=49
theorem Hj{c:Nat}(h:c=48\/c=49)(ds:Array Nat)(b:Bool):step 2 (ds,b) c=some (ds.push (c-48),true):=by
 rcases h with rfl|rfl<;>rfl
theorem CD:∀(cs:List Nat) (ds:Array Nat) (b:Bool),dH cs->∃ds':Array Nat,cs.foldlM (step 2) (ds,b)=some (ds',b || !cs.isEmpty)/\ds'.foldl (λa d=>a*2+d) 0=cs.foldl (λa c=>a*2+(c-48)) (ds.foldl (λa d=>a*2+d) 0)
 |[],ds,b,_=>⟨ds,by simp,rfl⟩
 |c::cs,ds,b,h=>by
  obtain⟨ds',e1,e2⟩:=CD cs (ds.push (c-48)) true λx hx=>h x (JG _ hx);refine⟨ds',?_,?_⟩
  ·rw[List.foldlM_cons,Hj (h c JH)];show cs.foldlM (step 2) (ds.push (c-48),true)=_;rw[e1];simp
  ·rw[e2,Array.foldl_push,NX]
theorem vb{c:Nat}(h:c=48\/c=49):blank c=false:=by rcases h with rfl|rfl<;>rfl
theorem pU(h:dH cs):cs.dropWhile blank=cs:=by
 cases cs with
 |nil=>rfl
 |cons c cs=>rw[Mv,vb (h c JH)];rfl
theorem xf(h:dH cs):sign cs=(false,cs):=by
 cases cs with
 |nil=>rfl
 |cons c cs=>rcases h c JH with rfl|rfl<;>rfl
theorem vh(h:dH cs):based 2 cs=(2,false,cs):=by
 have e:PySem.NumText.prefix? cs=none:=by
  rcases cs with _|⟨c,_|⟨d,cs⟩⟩
  ·rfl
  ·rcases h c JH with rfl|rfl<;>rfl
  ·rcases h c JH with rfl|rfl
   ·rcases h d (JG _ JH) with rfl|rfl<;>rfl
   ·rfl
 unfold based;rw[e];rfl
theorem yx{cs:List Nat}(h:dH cs)(h0:cs≠[]):(int_private% "readNumeral") 0 2 cs=(int_private% "Numeral.value") (kP cs:Int):=by
 rw[readNumeral_eq,pU h,xf h];show judge 0 false (based 2 cs).1 (based 2 cs).2.1 (digits? (based 2 cs).1 (((based 2 cs).2.2.reverse.dropWhile blank).reverse))=_;rw[vh h];show judge 0 false 2 false (digits? 2 ((cs.reverse.dropWhile blank).reverse))=_;rw[pU (cs:=cs.reverse) (λc hc=>h c (Lz.mp hc)),Mi];obtain⟨ds,e1,e2⟩:=CD cs #[] false h;have e3:digits? 2 cs=some ds:=by
  unfold digits?;rw[e1]
  cases cs with
  |nil=>exact absurd rfl h0
  |cons=>rfl
 rw[e3];show (int_private% "Numeral.value") ((ds.foldl (λacc d=>acc*2+d) 0:Nat):Int)=_;rw[e2];rfl
theorem pz:∀{cs:List Nat},dH cs->cs.takeWhile (· != 0)=cs
 |[],_=>rfl
 |c::cs,h=>by
  rw[Nk,show (c != 0)=true by rcases h c JH with rfl|rfl<;>rfl,JE rfl,pz λx hx=>h x (JG _ hx)]
theorem yp{M:Model}{A:Around}{s:Shared}{v:Value}{text:List Nat}{n:Int}
  (hs:(text.takeWhile (· != 0)).length<=640) (hr:(int_private% "readNumeral") 0 2 (text.takeWhile (· != 0))=(int_private% "Numeral.value") n)
  (ha:((text.takeWhile (· != 0)).length == text.length)=true) (h:Q (.int n s.toks) {s with toks:=s.toks+1}) :
  wpAny M A ((int_private% "intFromText") v text 2) Q E s:=by
 obtain⟨hp,g,d,tk,os⟩:=s
 repeat (any_goals (first
  |assumption
  | (with_reducible refine Nu (Kc hs) ?_)
  | (with_reducible refine Nu (Kc ha) ?_)
  |wp_step))
 all_goals (try rw[hr])
 all_goals (try dsimp only)
 repeat (any_goals (first
  |assumption
  | (with_reducible refine Nu (Kc hs) ?_)
  | (with_reducible refine Nu (Kc ha) ?_)
  |wp_step))
theorem qg{u t:Tok}(hl:x.length<=640)(hb:dH x.cps.toList)(h0:x.cps.toList≠[]):Gives (Builtin.«int.__new__» ⟨[.type "int",.str x u,.int 2 t],[]⟩) (.int (kP x.cps.toList)):=
 .of_wp λM A E s Q h=>by
  obtain⟨hp,g,d,tk,os⟩:=s;have f1:=F.conv_sub_int;have f2:=F.madeHere_int;have f6:typeOf (.str x u)=pure (.type "str"):=rfl;have ht:x.cps.all (· < 128)=true:=by
   rw[<- Array.all_toList,Lc];intro c hc;rcases hb c hc with rfl|rfl<;>rfl
  have hs:=pz hb;have hk:=W.KIN.Hid.mk (And.intro (show (x.cps.toList.takeWhile (· != 0)).length<=640 by rw[hs];exact hl) (And.intro (show (int_private% "readNumeral") 0 2 (x.cps.toList.takeWhile (· != 0))=(int_private% "Numeral.value") (kP x.cps.toList:Int) by rw[hs];exact yx hb h0) (show ((x.cps.toList.takeWhile (· != 0)).length == x.cps.toList.length)=true by rw[hs];simp)))
  clear hs hl hb h0
  repeat (any_goals (first
   |assumption
   | ((with_reducible show wpAny _ _ ((int_private% "intFromText") _ _ _) _ _ _);(try rw[JE ht]);refine yp hk.out.1 hk.out.2.1 hk.out.2.2 ?_)
   |wp_step))
  all_goals first|exact⟨_,rfl,h⟩|skip
theorem lA(a b:Value):checkTypeCall "int" ⟨[a,b],[]⟩=pure ():=by kernel_rfl
theorem l_(a b:Value):checkBuiltinCall "int.__new__" ⟨[.type "int",a,b],[]⟩=pure ():=by kernel_rfl
theorem rq{A:Around}{s:Shared}{u t:Tok}(hl:x.length<=640)(hb:dH x.cps.toList)(h0:x.cps.toList≠[])(h:Q (.int (kP x.cps.toList) s.toks) {s with toks:=s.toks+1}):wpAny (model prog w) A (call (.type "int") [.str x u,.int 2 t]) Q E s:=
 OC F.called_int F.newNe_int (lA _ _) (l_ _ _) (λobj=>F.args_object_init_3 obj _ _) F.entry_int_new (qg hl hb h0).meets (show (Made.int _).post _ s from⟨rfl,h⟩)
noncomputable def CU:List V->Hp->VK->Prop:=λxs H Q=>∃z:Str,xs=[.str z,.int 2]/\z.length<=640/\dH z.cps.toList/\z.cps.toList≠[]/\Q (.int (kP z.cps.toList)) H
theorem m6:bu X (.type "int") CU:=by
 intro pins s σ H xs us Q I r h;obtain⟨z,rfl,h1,h2,h3,q⟩:=h;obtain⟨u,v,rfl,⟨t,rfl⟩,⟨t',rfl⟩⟩:=vals2 r;exact rq h1 h2 h3 ⟨.int _,H,I.tok _,⟨_,rfl⟩,q⟩
abbrev Src:=Bool×Addr×Addr
variable{q:Src}
abbrev f9(h:Heap)(T:Addr)(xs:List Value):Prop:=h.get? T=some {cls:=.type "tuple",data:=.seq xs.toArray}
structure Zn (z TI TO:Addr) (S:List Src):Prop where
 zt:TI≠z/\TO≠z/\TI≠TO
 it:∀q∈S,q.2.1≠z/\q.2.1≠TI/\q.2.1≠TO
 sr:∀q∈S,q.2.2≠z/\q.2.2≠TO/\∀p∈S,q.2.2≠p.2.1
 nd:(S.map λq=>q.2.1).Nodup
noncomputable def rQ(i:Nat)(h:Heap)(q:Src):Prop:=lG q.1 h q.2.1 q.2.2 i
noncomputable def CJ(h:Heap)(q:Src)(xs:Array Value):Prop:=eI q.1 h q.2.2 xs
theorem rQ.kp(x:rQ i h q)(k:∀o,h.get? q.2.1=some o->h'.get? q.2.1=some o):rQ i h' q:=by
 obtain⟨b,it,a⟩:=q
 cases b with
 |true=>obtain⟨o,e,r⟩:=(show h.IsListIter it a i from x);exact⟨o,k o e,r⟩
 |false=>obtain⟨o,e,r⟩:=(show h.IsTupleIter it a i from x);exact⟨o,k o e,r⟩
theorem CJ.kp(x:CJ h q xs)(k:∀o,h.get? q.2.2=some o->h'.get? q.2.2=some o):CJ h' q xs:=by
 obtain⟨b,it,a⟩:=q
 cases b with
 |true=>obtain⟨o,e,r⟩:=(show h.IsList a xs from x);exact⟨o,k o e,r⟩
 |false=>obtain⟨o,e,r⟩:=(show h.IsTuple a xs from x);exact⟨o,k o e,r⟩
noncomputable def oU(i:Nat)(h:Heap)(q:Src)(u:Value):Prop:=rQ i h q/\∃xs,CJ h q xs/\xs[i]?=some u
theorem oU.kp{u:Value}(x:oU i h q u)(k:∀c o,c=q.2.1\/c=q.2.2->h.get? c=some o->h'.get? c=some o):oU i h' q u:=⟨x.1.kp λo=>k _ o (.inl rfl),let ⟨xs,a,b⟩:=x.2;⟨xs,a.kp λo=>k _ o (.inr rfl),b⟩⟩
section
variable {prog:Program} {w:World} {A:Around} {E:Value->Shared->Prop} {z TI TO:Addr} {S:List Src} {i:Nat}
noncomputable def Step(prog:Program)(w:World)(A:Around)(E:Value->Shared->Prop)(z TI TO:Addr)(S:List Src)(i:Nat)(f:Value×Nat->β->Sem (ForInStep β))(b:β):Prop:=
 ∀q∈S,∀(j:Nat) (arr:List Value) (u:Value) (s:Shared) (Q:ForInStep β->Shared->Prop),IsZip s.heap z TI TO .ellipsis->f9 s.heap TO arr->arr.length<=3->oU i s.heap q u ->
  (∀h' tk,f9 h' TO (arr.set j u)->rQ (i+1) h' q->(∀c o,c≠TO->c≠q.2.1->s.heap.get? c=some o->h'.get? c=some o)->h'.objs.size=s.heap.objs.size->Q (.yield b) {s with heap:=h',toks:=tk})->wpAny (model prog w) A (f (.ref q.2.1,j) b) Q E s
theorem Ck(D:Zn z TI TO S){f:Value×Nat->β->Sem (ForInStep β)}{b:β}(hf:Step prog w A E z TI TO S i f b):
  ∀(todo:List Src) (us pre old:List Value) (s:Shared) (Q:β->Shared->Prop),(∀q∈todo,q∈S)->(todo.map λq=>q.2.1).Nodup->IsZip s.heap z TI TO .ellipsis->f9 s.heap TO (pre++old)->(pre++old).length<=3->old.length=todo.length->Paired (oU i s.heap) todo us ->
  (∀h' tk,IsZip h' z TI TO .ellipsis->f9 h' TO (pre++us)->(∀q∈todo,rQ (i+1) h' q)->(∀c o,c≠TO->(∀q∈todo,c≠q.2.1)->s.heap.get? c=some o->h'.get? c=some o)->h'.objs.size=s.heap.objs.size->Q b {s with heap:=h',toks:=tk}) ->
  wpAny (model prog w) A (forIn ((todo.map λq=>Value.ref q.2.1).zipIdx pre.length) b f) Q E s:=by
 intro todo
 induction todo with
 |nil =>
  intro us pre old s Q _ _ hz ht _ hl dr k;obtain rfl:=Paired.x8 dr;have e:old=[]:=KU.mp hl;subst e;rw[L_,List.zipIdx_nil,List.forIn_nil];exact JJ (k s.heap s.toks hz ht (λq hq=>(nomatch hq)) (λc o _ _ h=>h) rfl)
 |cons q todo ih =>
  intro us pre old s Q hm nd hz ht hn hl dr k;obtain⟨u,us,rfl,du,dr⟩:=Paired.gX dr
  cases old with
  |nil=>cases hl
  |cons o old =>
   rw[Kg,KY] at nd;have hq:=hm q JH;rw[Kg,NO,LN];refine Jy (hf q hq pre.length _ u s _ hz ht hn du λh1 tk t1 a1 kp sz=>?_);rw[Oz _ _ (JD _),Lo,List.set_cons_zero,<- MV,<- JU] at t1;have di:=D.it q hq;have z1:IsZip h1 z TI TO .ellipsis:=kp _ _ D.zt.2.1.symm di.1.symm hz;show wpAny _ _ (forIn _ b f) _ _ _;rw[show pre.length+1=(pre++[u]).length by rw[J5];rfl]
   refine ih us (pre++[u]) old {s with heap:=h1,toks:=tk} Q (λp hp=>hm p (JG _ hp)) nd.2 z1 t1 (by rw[JU,J5] at *;exact hn) (Nat.succ.inj hl) ?_ λh2 tk2 z2 t2 a2 kp2 sz2=>?_
   ·have key:∀{l:List Src} {vs:List Value},(∀p∈l,p∈q::todo)->(∀p∈l,p.2.1≠q.2.1)->Paired (oU i s.heap) l vs->Paired (oU i h1) l vs:=λ{l}=>by
     induction l with
     |nil=>intro vs _ _ h;obtain rfl:=Paired.x8 h;exact .nil
     |cons p l ihl =>
      intro vs hp hne h;obtain⟨v,vs,rfl,dv,h⟩:=Paired.gX h;have hpS:=hm p (hp p JH);refine .cons (dv.kp λc o hc e=>?_) (ihl (λx hx=>hp x (JG _ hx)) (λx hx=>hne x (JG _ hx)) h);rcases hc with rfl|rfl
      ·exact kp _ _ (D.it p hpS).2.2 (hne p JH) e
      ·exact kp _ _ (D.sr p hpS).2.1 ((D.sr p hpS).2.2 q hq) e
    exact key (λp hp=>JG _ hp) (λp hp e=>nd.1 (by rw[<- e];exact Lw (f:=λq:Src=>q.2.1) hp)) dr
   ·refine k h2 tk2 z2 (by rw[JU] at t2;exact t2) (λp hp=>?_) (λc o c1 c2 e=>kp2 c o c1 (λp hp=>c2 p (JG _ hp)) (kp c o c1 (c2 q JH) e)) (sz2.trans sz)
    rcases J9.mp hp with rfl|hp
    ·exact a1.kp λo e=>kp2 _ o di.2.2 (λx hx e2=>nd.1 (by rw[e2];exact Lw (f:=λq:Src=>q.2.1) hx)) e
    ·exact a2 p hp
noncomputable def GF(prog:Program)(w:World)(A:Around)(E:Value->Shared->Prop)(z TI TO:Addr)(S:List Src)(i:Nat)(f:Value×Nat->β->Sem (ForInStep β))(b:β):Prop:=
 ∀q∈S,∀(j:Nat) (s:Shared) (Q:ForInStep β->Shared->Prop),IsZip s.heap z TI TO .ellipsis->rQ i s.heap q->(∃xs:Array Value,CJ s.heap q xs/\xs.size=i) ->
  (∀h' e tk,(∀c o,c≠z->c≠q.2.1->s.heap.get? c=some o->h'.get? c=some o)->(∃o,h'.get? e=some o/\o.cls=.type "StopIteration")->E (.ref e) {s with heap:=h',toks:=tk})->wpAny (model prog w) A (f (.ref q.2.1,j) b) Q E s
theorem BG(D:Zn z TI TO S){f:Value×Nat->β->Sem (ForInStep β)}{b:β}(hf:Step prog w A E z TI TO S i f b)(he:GF prog w A E z TI TO S i f b){r:List Src}:
  ∀(a:List Src) (us pre old:List Value) (s:Shared) (Q:β->Shared->Prop),(∀p∈a++q::r,p∈S)->((a++q::r).map λq=>q.2.1).Nodup->IsZip s.heap z TI TO .ellipsis->f9 s.heap TO (pre++old)->(pre++old).length<=3->a.length<old.length->Paired (oU i s.heap) a us->rQ i s.heap q->(∃xs:Array Value,CJ s.heap q xs/\xs.size=i) ->
  (∀h' e tk,(∀c o,c≠z->c≠TO->(∀q∈S,c≠q.2.1)->s.heap.get? c=some o->h'.get? c=some o)->(∃o,h'.get? e=some o/\o.cls=.type "StopIteration")->E (.ref e) {s with heap:=h',toks:=tk}) ->
  wpAny (model prog w) A (forIn (((a++q::r).map λq=>Value.ref q.2.1).zipIdx pre.length) b f) Q E s:=by
 intro a
 induction a with
 |nil =>
  intro us pre old s Q hm nd hz ht hn hl dr hi hx k;have hq:=hm q JH;rw[KN,Kg,NO,LN];exact Jy (he q hq _ s _ hz hi hx λh' e tk kp ho=>k h' e tk (λc o c1 _ c3 x=>kp c o c1 (c3 q hq) x) ho)
 |cons p a ih =>
  intro us pre old s Q hm nd hz ht hn hl dr hi hx k;obtain⟨u,us,rfl,du,dr⟩:=Paired.gX dr
  cases old with
  |nil=>exact absurd hl (L4 _)
  |cons o old =>
   rw[KQ,Kg,KY] at nd;have hp:=hm p JH;rw[KQ,Kg,NO,LN];refine Jy (hf p hp pre.length _ u s _ hz ht hn du λh1 tk t1 a1 kp sz=>?_);rw[Oz _ _ (JD _),Lo,List.set_cons_zero,<- MV,<- JU] at t1;have z1:IsZip h1 z TI TO .ellipsis:=kp _ _ D.zt.2.1.symm (D.it p hp).1.symm hz;have ne:∀x∈a++q::r,x.2.1≠p.2.1:=λx hx e=>nd.1 (by rw[<- e];exact Lw (f:=λq:Src=>q.2.1) hx)
   have up:∀x∈a++q::r,∀c o,c=x.2.1\/c=x.2.2->s.heap.get? c=some o->h1.get? c=some o:=λx hx c o hc e=>by
    have hxS:=hm x (JG _ hx);rcases hc with rfl|rfl
    ·exact kp _ _ (D.it x hxS).2.2 (ne x hx) e
    ·exact kp _ _ (D.sr x hxS).2.1 ((D.sr x hxS).2.2 p hp) e
   have hqm:q∈a++q::r:=JV _ JH;show wpAny _ _ (forIn _ b f) _ _ _;rw[show pre.length+1=(pre++[u]).length by rw[J5];rfl]
   refine ih us (pre++[u]) old {s with heap:=h1,toks:=tk} Q (λx hx=>hm x (JG _ hx)) nd.2 z1 t1 (by rw[JU,J5] at *;exact hn) (Nat.lt_of_succ_lt_succ hl) ?_ (hi.kp λo=>up q hqm _ o (.inl rfl)) (let ⟨xs,x1,x2⟩:=hx;⟨xs,x1.kp λo=>up q hqm _ o (.inr rfl),x2⟩) λh2 e tk2 kp2 ho=>k h2 e tk2 (λc o c1 c2 c3 x=>kp2 c o c1 c2 c3 (kp c o c2 (c3 p hp) x)) ho
   have key:∀{l:List Src} {vs:List Value},(∀x∈l,x∈a)->Paired (oU i s.heap) l vs->Paired (oU i h1) l vs:=λ{l}=>by
    induction l with
    |nil=>intro vs _ h;obtain rfl:=Paired.x8 h;exact .nil
    |cons y l ihl =>
     intro vs hy h;obtain⟨v,vs,rfl,dv,h⟩:=Paired.gX h;exact .cons (dv.kp (up y (Lm _ (hy y JH)))) (ihl (λx hx=>hy x (JG _ hx)) h)
   exact key (λx h=>h) dr
theorem BH(D:Zn z TI TO S){f:Value×Nat->β->Sem (ForInStep β)}{b:β}(hf:Step prog w A E z TI TO S i f b)(he:GF prog w A E z TI TO S i f b){old:List Value}{s:Shared}{Q:β->Shared->Prop}(hz:IsZip s.heap z TI TO .ellipsis)(ht:f9 s.heap TO old)(hn:old.length<=3)(hl:old.length=S.length)
  (hh:(∃us,Paired (oU i s.heap) S us/\∀h' tk,IsZip h' z TI TO .ellipsis->f9 h' TO us->(∀q∈S,rQ (i+1) h' q)->(∀c o,c≠TO->(∀q∈S,c≠q.2.1)->s.heap.get? c=some o->h'.get? c=some o)->h'.objs.size=s.heap.objs.size->Q b {s with heap:=h',toks:=tk}) \/
   ∃a q r us,S=a++q::r/\Paired (oU i s.heap) a us/\rQ i s.heap q/\(∃xs:Array Value,CJ s.heap q xs/\xs.size=i)/\∀h' e tk,(∀c o,c≠z->c≠TO->(∀q∈S,c≠q.2.1)->s.heap.get? c=some o->h'.get? c=some o)->(∃o,h'.get? e=some o/\o.cls=.type "StopIteration")->E (.ref e) {s with heap:=h',toks:=tk}) :
  wpAny (model prog w) A (forIn ((S.map λq=>Value.ref q.2.1).zipIdx) b f) Q E s:=by
 rcases hh with ⟨us,dr,k⟩|⟨a,q,r,us,rfl,dr,hi,hx,k⟩
 ·exact Ck D hf S us [] old s Q (λq h=>h) D.nd hz ht hn hl dr k
 ·exact BG D hf he a us [] old s Q (λq h=>h) D.nd hz ht hn (by rw[show old.length=_ from hl,J5,JK];lia) dr hi hx k
theorem HK{s:Shared}{T:Addr}{xs:List Value}{x:Value}{k:Nat}{Q:Unit->Shared->Prop}(hT:f9 s.heap T xs)(hn:xs.length<=3)
  (h:∀h',f9 h' T (xs.set k x)->Heap.SameBut T s.heap h'->Q () {s with heap:=h'}) :
  wpAny (model prog w) A (updateSeq T (·.setIfInBounds k x)) Q E s:=by
 refine wpAny_updateSeq (hz:=by rw[J8];exact JF hn (by decide)) (_hz':=by rw[Array.size_setIfInBounds,J8];exact JF hn (by decide)) hT rfl (h _ ?_ (KL ..))
 show Heap.get? _ _=_;rw[Ma _ hT rfl];simp[Obj.mapSeq]
theorem h_{α:Type}{P:α->β->Prop}{l:List α}{vs:List β}(h:Paired P l vs):vs.length=l.length:=by
 induction h with
 |nil=>rfl
 |cons _ _ ih=>exact Kt (·+1) ih
theorem u9{g:Heap}{l:List Src}{vs:List Value}(k:∀q∈l,∀c o,c=q.2.1\/c=q.2.2->h.get? c=some o->g.get? c=some o)(r:Paired (oU i h) l vs):Paired (oU i g) l vs:=by
 induction r with
 |nil=>exact .nil
 |cons d _ ih=>exact .cons (d.kp (k _ JH)) (ih λq hq=>k q (JG _ hq))
theorem FV{s:Shared}{old:List Value}(D:Zn z TI TO S)(hS:S≠[])(hA:A.handled=none)(hz:IsZip s.heap z TI TO .none)(hTI:f9 s.heap TI (S.map λq=>.ref q.2.1))(hTO:f9 s.heap TO old)(hl:old.length=S.length)(hn:S.length<=3)
  (hh:(∃us,Paired (oU i s.heap) S us/\∀h' tk,IsZip h' z TI TO (rawInt s.heap.objs.size)->f9 h' TO us->(∀q∈S,rQ (i+1) h' q)->f9 h' s.heap.objs.size us->(∀c o,c≠z->c≠TO->(∀q∈S,c≠q.2.1)->s.heap.get? c=some o->h'.get? c=some o)->Q (.ref s.heap.objs.size) {s with heap:=h',toks:=tk}) \/
   ∃a q r us,S=a++q::r/\Paired (oU i s.heap) a us/\rQ i s.heap q/\(∃xs:Array Value,CJ s.heap q xs/\xs.size=i)/\∀h' e tk,(∀c o,c≠z->c≠TO->(∀q∈S,c≠q.2.1)->s.heap.get? c=some o->h'.get? c=some o)->(∃o,h'.get? e=some o/\o.cls=.type "StopIteration")->E (.ref e) {s with heap:=h',toks:=tk}) :
  wpAny (model prog w) A (Builtin.«zip.__next__» ⟨[.ref z],[]⟩) (λfin s'=>∃v,fin=.done (.ret v)/\Q v s') E s:=by
 obtain⟨q0,S',rfl⟩:=List.exists_cons_of_ne_nil hS;have zrec:=hz;show wpAny _ _ (field (.ref z) 2 >>= _) _ _ _;refine Jy (LV zrec rfl (x:=.bool false) rfl ?_);show wpAny _ _ (field (.ref z) 3 >>= _) _ _ _;refine Jy (LV zrec rfl (x:=.ref TI) rfl ?_);refine Jy (Md hTI rfl ?_);show wpAny _ _ (Builtin.SmallTypes.ownedTupleIsFree (.ref z) >>= _) _ _ _;refine Jy ?_;unfold Builtin.SmallTypes.ownedTupleIsFree;refine Jy (LV zrec rfl (x:=.none) rfl (JJ ?_));simp only[Mt];refine Jy (NC ?_);refine Jy (LV zrec rfl (x:=.ref TO) rfl ?_);refine Jy (M8 zrec (by simp) λg1 zr1 sb1=>?_)
 replace zr1:IsZip g1 z TI TO .ellipsis:=zr1
 refine Jy ?_;have old3:∀q∈q0::S',∀c o,c=q.2.1\/c=q.2.2->s.heap.get? c=some o->g1.get? c=some o:=λq hq c o hc e=>by
  rcases hc with rfl|rfl
  ·exact sb1.extBut _ _ (D.it q hq).1 e
  ·exact sb1.extBut _ _ (D.sr q hq).1 e
 refine BH D (i:=i) ?hf ?he (old:=old) zr1 (sb1.extBut _ _ D.zt.2.1 hTO) (by lia) hl (hh.imp (λ⟨us,dr,hQ⟩=>⟨us,u9 old3 dr,?k⟩) λ⟨a,q,r,us,eS,dr,hi,hx,hE⟩=>⟨a,q,r,us,eS,u9 (λp hp=>old3 p (by rw[eS];exact Lm _ hp)) dr,hi.kp λo=>old3 q (by rw[eS];exact JV _ JH) _ o (.inl rfl),(let ⟨xs,x1,x2⟩:=hx;⟨xs,x1.kp λo=>old3 q (by rw[eS];exact JV _ JH) _ o (.inr rfl),x2⟩),λh' e tk kp ho=>hE h' e tk (λc o c1 c2 c3 x=>kp c o c1 c2 c3 (sb1.extBut _ _ c1 x)) ho⟩)
 case hf =>
  intro q hq j arr u s1 Q1 hz1 ht1 hn1 d1 k1;obtain⟨hi,xs,hx,hu⟩:=d1;refine Jy (wpAny_onRaise ?_);show wpAny _ _ (Builtin.SmallTypes.nextOf (.ref q.2.1) >>= _) _ _ _;have lt:i<xs.size:=(KI.mp hu).1;refine Jy ((sX q.1 hA q.2.1 q.2.2 ((D.sr q hq).2.2 q hq) xs).item i _ _ _ lt ⟨hi,hx⟩ λx g2 tk2 px st2 sb2=>JJ ?_);have ex:x=u:=by rw[hu] at px;exact (Option.some.inj px).symm
  subst ex;have to2:f9 g2 TO arr:=sb2.extBut _ _ (D.it q hq).2.2.symm ht1;refine Jy (Md to2 rfl ?_);refine Jy (HK to2 hn1 λg3 to3 sb3=>?_);refine Jy (wpAny_letGo (JJ ?_));exact k1 g3 _ to3 (rQ.kp (q:=q) st2.1 λo e=>sb3.extBut _ _ (D.it q hq).2.2 e) (λc o c1 c2 e=>sb3.extBut _ _ c1 (sb2.extBut _ _ c2 e)) (by rw[sb3.1,sb2.1])
 case he =>
  intro p hp j s1 Q1 hz1 hi1 hx1 k1;obtain⟨xs,hx1,hsz⟩:=hx1;refine Jy (wpAny_onRaise ?_);show wpAny _ _ (Builtin.SmallTypes.nextOf (.ref p.2.1) >>= _) _ _ _;subst hsz;refine Jy ((sX p.1 hA p.2.1 p.2.2 ((D.sr p hp).2.2 p hp) xs).done _ _ _ ⟨hi1,hx1⟩ λg2 e sb2 he=>?_);obtain⟨oe,hoe,hce⟩:=he;have zr2:IsZip g2 z TI TO .ellipsis:=sb2 _ _ (D.it p hp).1.symm hz1;have nez:e≠z:=λq=>by subst q;rw[zr2] at hoe;cases hoe;simp at hce
  exact M8 zr2 (by simp) λg3 _ sb3=>k1 g3 e _ (λc o e1 e3 q=>sb3.extBut _ _ e1 (sb2 _ _ e3 q)) ⟨oe,sb3.extBut _ _ nez hoe,hce⟩
 case k =>
  intro g2 tk z2 t2 a2 kp2 sz2;have hu3:us.length<=3:=by rw[h_ dr];exact hn
  replace t2:f9 g2 TO us:=t2
  show wpAny _ _ (seqItems? (.ref TO) >>= _) _ _ _;refine Jy (Md t2 rfl ?_);refine Jy (wpAny_newTuple ?_ (JF hu3 (by decide)))
  have size2:g2.objs.size=s.heap.objs.size:=sz2.trans sb1.1;have zlt:z<g2.objs.size:=JP z2;show wpAny _ _ (Builtin.SmallTypes.ownedTupleHandOut (.ref z) (.ref g2.objs.size) >>= _) _ _ _;refine Jy ?_;unfold Builtin.SmallTypes.ownedTupleHandOut;have zr6:IsZip (g2.push {cls:=.type "tuple",data:=.seq us.toArray}) z TI TO .ellipsis:=J7 _ z2;refine Jy (M8 zr6 (by simp) λg8 zr8 sb8=>?_)
  replace zr8:IsZip g8 z TI TO (rawInt g2.objs.size):=zr8
  refine M8 zr8 (by simp) λg9 zr9 sb9=>?_
  replace zr9:IsZip g9 z TI TO (rawInt g2.objs.size):=zr9
  have up:∀c o,c≠z->g2.get? c=some o->g9.get? c=some o:=λc o e1 q=>sb9.extBut _ _ e1 (sb8.extBut _ _ e1 (J7 _ q));have pr8:f9 g9 g2.objs.size us:=sb9.extBut _ _ (K_ zlt) (sb8.extBut _ _ (K_ zlt) (JM _ rfl));rw[size2] at zr9 pr8;refine JJ ⟨_,rfl,?_⟩;show Q (.ref g2.objs.size) _;rw[size2];exact hQ g9 _ zr9 (up _ _ D.zt.2.1 t2) (λq hq=>(a2 q hq).kp λo e=>up _ o (D.it q hq).1 e) pr8 λc o e1 e2 e3 q=>up c o e1 (kp2 c o e2 e3 (sb1.extBut _ _ e1 q))
end
noncomputable def FJ(K:W.Frag)(S:List Src):It:=
  ⟨λi H=>∃vs,Paired (λ(q:Src) v=>∃xs,lB K q.1 H q.2.2 xs/\xs[i]?=some v) S vs,
   λi H v H'=>∃p vs,Paired (λ(q:Src) x=>∀xs,lB K q.1 H q.2.2 xs->xs[i]?=some x) S vs/\H p=none/\v=.ref p/\H'=upd H p (.tup vs),
   λi H=>∃a q r vs,S=a++q::r/\Paired (λ(q:Src) v=>∃xs,lB K q.1 H q.2.2 xs/\xs[i]?=some v) a vs/\∃xs,lB K q.1 H q.2.2 xs/\xs.length=i⟩
section
variable {X:Cx} {pins:List (Addr×Obj)} {σ:St} {H:Hp} {s:Shared} {i:Nat}
theorem ye(I:Inv X pins σ H s){l:List Src}{vs:List V}(hi:∀q∈l,rQ i s.heap q)(h:Paired (λ(q:Src) v=>∃xs,lB X.K q.1 H q.2.2 xs/\xs[i]?=some v) l vs):∃us,Paired (oU i s.heap) l us/\Vals vs us/\Paired (λ(q:Src) x=>∀xs,lB X.K q.1 H q.2.2 xs->xs[i]?=some x) l vs:=by
 induction h with
 |nil=>exact⟨[],.nil,.nil,.nil⟩
 |cons d r ih =>
  obtain⟨us,h1,h2,h3⟩:=ih λp hp=>hi p (JG _ hp);obtain⟨xs,hx,ex⟩:=d;obtain⟨its,rv,p1⟩:=I.xg hx;obtain⟨u,hu,ru⟩:=rv.get ex;exact⟨u::us,.cons ⟨hi _ JH,its.toArray,p1,by rw[Kn];exact hu⟩ h1,.cons ru h2,.cons (λys hy=>by rw[I.xc hy hx];exact ex) h3⟩
end
theorem vC{tk:Nat}{tp:Pos}(S:List Src)(z TI TO:Addr)(D:Zn z TI TO S)(hS:S≠[])(hn:S.length<=3):
  Turn P w K (.Tuple es tk tp) (FJ K S) (z::TI::TO::S.map λq=>q.2.1) z (λi h=>IsZip h z TI TO .none/\f9 h TI (S.map λq=>.ref q.2.1)/\(∃old,f9 h TO old/\old.length=S.length)/\∀q∈S,rQ i h q) where
 mem:=JH
 obj:=λi h st c hc=>by
  obtain⟨s1,s2,⟨old,s3,_⟩,s4⟩:=st;rcases J9.mp hc with rfl|hc
  ·exact⟨_,s1,λv q=>by cases q⟩
  rcases J9.mp hc with rfl|hc
  ·exact⟨_,s2,λv q=>by cases q⟩
  rcases J9.mp hc with rfl|hc
  ·exact⟨_,s3,λv q=>by cases q⟩
  obtain⟨q,hq,rfl⟩:=Ki.mp hc;obtain⟨o,e,_,d⟩:=lG.ty (s4 q hq);exact⟨o,e,λv q=>by rw[d] at q;cases q⟩
 keep:=λi h h' st k=>by
  obtain⟨s1,s2,⟨old,s3,s3'⟩,s4⟩:=st;exact⟨k z (by simp) _ s1,k TI (by simp) _ s2,⟨old,k TO (by simp) _ s3,s3'⟩,λq hq=>(s4 q hq).kp (k _ (JG _ (JG _ (JG _ (Lw (f:=λq:Src=>q.2.1) hq)))))⟩
 item:=by
  intro X hP hw hK hc i pins s σ H E I hf st hg;subst hP hw hK;obtain⟨vs,hg⟩:=hg;obtain⟨s1,s2,⟨old,s3,s3'⟩,s4⟩:=st;obtain⟨us,h1,h2,h3⟩:=ye I s4 hg;have hT:s.TypeIs (.ref z) "zip":=⟨_,s1,rfl⟩;unfold pyNext;refine Jy (MP (Kz (name:=Str.ofString "__next__") hT PySem.F.slot_zip_next (KC PySem.F.slot_zip_next hT PySem.F.entry_zip_next
   (FV D hS (I.ok.hd hc) s1 s2 s3 s3' hn (.inl ⟨us,h1,λh' tk' z1 t1 a1 pr kp=>JJ ?_⟩)) (PySem.F.args_zip_next_1 _))))
  have fr:H s.heap.objs.size=none:=I.aQ.fresh (JD _);have lt:∀{c o},s.heap.get? c=some o->s.heap.objs.size≠c:=λe=>K_ (JP e);refine⟨.ref s.heap.objs.size,rfl,wpAny_letOwnedTupleGo_zip z1 λh2' z2 sb2=>?_⟩;have pr2:f9 h2' s.heap.objs.size us:=sb2.extBut _ _ (lt s1) pr;have hvl:vs.length<=3:=by rw[h_ hg];exact hn
  have I2:Inv X pins σ (upd H s.heap.objs.size (.tup vs)) {s with heap:=h2',toks:=tk'}:=by
   refine I.oy (fp:=z::TI::TO::S.map λq=>q.2.1) hf (JD _) (λc o hcm ec=>?_) ⟨JF hvl (by decide),us,h2,⟨_,pr2,rfl,_,rfl,rfl⟩⟩
   simp only[J9,not_or] at hcm;exact sb2.extBut _ _ hcm.1 (kp c o hcm.1 hcm.2.2.1 (λq hq e=>hcm.2.2.2 (by rw[e];exact Lw (f:=λq:Src=>q.2.1) hq)) ec)
  refine⟨.ref s.heap.objs.size,_,I2,rfl,⟨s.heap.objs.size,vs,h3,fr,rfl,rfl⟩,⟨z2,?_,⟨us,?_,?_⟩,λq hq=>?_⟩,λc hcm=>?_⟩
  ·exact sb2.extBut _ _ D.zt.1 (kp _ _ D.zt.1 D.zt.2.2 (λq hq=>(D.it q hq).2.1.symm) s2)
  ·exact sb2.extBut _ _ D.zt.2.1 t1
  ·exact h_ h1
  ·exact (a1 q hq).kp λo e=>sb2.extBut _ _ (D.it q hq).1 e
  ·have hn:=(hf c hcm).1;rw[aj]
   ·exact hn
   ·rcases J9.mp hcm with rfl|hcm
    ·exact (lt s1).symm
    rcases J9.mp hcm with rfl|hcm
    ·exact (lt s2).symm
    rcases J9.mp hcm with rfl|hcm
    ·exact (lt s3).symm
    obtain⟨q,hq,rfl⟩:=Ki.mp hcm;obtain⟨o,e,_⟩:=lG.ty (s4 q hq);exact (lt e).symm
 done:=by
  intro X hP hw hK hc i pins s σ H E I hf st hg;subst hP hw hK;obtain⟨a,q,r,vs,eS,hg,xs,hx,hi⟩:=hg;obtain⟨s1,s2,⟨old,s3,s3'⟩,s4⟩:=st;obtain⟨us,h1,_,_⟩:=ye I (λp hp=>s4 p (by rw[eS];exact Lm _ hp)) hg
  obtain⟨its,rv,p1⟩:=I.xg hx;have hT:s.TypeIs (.ref z) "zip":=⟨_,s1,rfl⟩;unfold pyNext;refine Jy (MP (Kz (name:=Str.ofString "__next__") hT PySem.F.slot_zip_next (KC PySem.F.slot_zip_next hT PySem.F.entry_zip_next
   (FV D hS (I.ok.hd hc) s1 s2 s3 s3' hn (.inr ⟨a,q,r,us,eS,h1,s4 q (by rw[eS];exact JV _ JH),⟨its.toArray,p1,by rw[J8,<- rv.length,hi]⟩,λh' e tk' kp he=>?_⟩)) (PySem.F.args_zip_next_1 _))))
  obtain⟨o,ho,hcl⟩:=he;refine Jy (wpAny_isInstance (T:="StopIteration") (b:=true) ⟨o,ho,hcl⟩ isSubtype_stop (JJ ⟨rfl,?_⟩));refine I.turns (t':=tk') hf λc o hcm ec=>?_;simp only[J9,not_or] at hcm;exact kp c o hcm.1 hcm.2.2.1 (λq hq e=>hcm.2.2.2 (by rw[e];exact Lw (f:=λq:Src=>q.2.1) hq)) ec
 self:=λA i s Q E st h=>wpAny_pyIter_zip st.1 h
theorem eI.push{k:Bool}(x:eI k h a xs)(o:Obj):eI k (h.push o) a xs:=by
 cases k with
 |true=>exact Heap.IsList.push x _
 |false=>exact zV x _
theorem yg{A:Around}{s:Shared}{k:Bool}{l:Addr}{items:Array Value}(hl:eI k s.heap l items)
  (hQ:Q (.ref s.heap.objs.size) {s with heap:=s.heap.push {cls:=.type (FO k),data:=.fields #[.ref l,.int 0 0]}}):wpAny (model prog w) A (pyIter (.ref l)) Q E s:=by
 cases k with
 |true=>exact LY hl hQ
 |false=>exact L0 hl hQ
noncomputable def gz(h:Heap):List (Bool×Addr)->Heap
 |[]=>h
 |p::l=>gz (h.push {cls:=.type (FO p.1),data:=.fields #[.ref p.2,.int 0 0]}) l
noncomputable def gT(n:Nat):List (Bool×Addr)->List Src
 |[]=>[]
 |p::l=>(p.1,n,p.2)::gT (n+1) l
abbrev Ho(h:Heap)(l:List (Bool×Addr)):Heap:=(gz h l).push {cls:=.type "tuple",data:=.seq ((gT h.objs.size l).map λq=>Value.ref q.2.1).toArray}
abbrev Ef(h:Heap)(l:List (Bool×Addr)):Heap:=(Ho h l).push {cls:=.type "tuple",data:=.seq ((gT h.objs.size l).map λ_=>Value.none).toArray}
abbrev Bs(h:Heap)(l:List (Bool×Addr)):Heap:=(Ef h l).push {cls:=.type "zip",data:=.fields #[.none,.bool false,.bool false,.ref (gz h l).objs.size,.ref (Ho h l).objs.size]}
theorem lI:∀(l:List (Bool×Addr)) (h:Heap),(gz h l).objs.size=h.objs.size+l.length
 |[],_=>rfl
 |p::l,h=>by rw[gz,lI l,K7,JK];lia
theorem iR:∀(l:List (Bool×Addr)) {h:Heap} {c:Addr} {o:Obj},h.get? c=some o->(gz h l).get? c=some o
 |[],_,_,_,e=>e
 |p::l,_,_,_,e=>iR l (J7 _ e)
theorem BM(l:List (Bool×Addr)):∀{h:Heap} (q:Src),q∈gT h.objs.size l->(gz h l).get? q.2.1=some {cls:=.type (FO q.1),data:=.fields #[.ref q.2.2,.int 0 0]}:=by
 induction l with
 |nil=>intro h q hq;cases hq
 |cons p l ih =>
  intro h q hq;rcases J9.mp hq with rfl|hq
  ·exact iR l (JM _ rfl)
  ·exact ih q (by rw[K7];exact hq)
theorem kR:∀(l:List (Bool×Addr)) (n:Nat),(gT n l).length=l.length
 |[],_=>rfl
 |_::l,n=>Kt (·+1) (kR l (n+1))
theorem tL(l:List (Bool×Addr)):∀(n:Nat) (q:Src),q∈gT n l->n<=q.2.1/\q.2.1<n+l.length/\(q.1,q.2.2)∈l:=by
 induction l with
 |nil=>intro n q hq;cases hq
 |cons p l ih =>
  intro n q hq;rcases J9.mp hq with rfl|hq
  ·exact⟨JD _,by rw[JK];show n<_;lia,JH⟩
  ·obtain⟨h1,h2,h3⟩:=ih (n+1) q hq;exact⟨by lia,by rw[JK];lia,JG _ h3⟩
theorem uG:∀(l:List (Bool×Addr)) (n:Nat),((gT n l).map λq=>q.2.1).Nodup
 |[],_=>List.nodup_nil
 |p::l,n=>by
  show (n::(gT (n+1) l).map λq=>q.2.1).Nodup;refine KY.mpr ⟨λh=>?_,uG l (n+1)⟩;obtain⟨q,hq,e⟩:=Ki.mp h;have:=(tL l (n+1) q hq).1;rw[e] at this;lia
theorem vZ(p q:Bool×Addr)(xs ys:Array Value):Meets (Builtin.«zip.__new__» ⟨[.type "zip",.ref p.2,.ref q.2],[]⟩) (λ_ R s=>eI p.1 s.heap p.2 xs/\eI q.1 s.heap q.2 ys/\R (.ok (.ret (.ref (Ef s.heap [p,q]).objs.size))) {s with heap:=Bs s.heap [p,q]}):=
 .of_wp λprog w A R s h=>by
  obtain⟨hp,g,d,tk,os⟩:=s;obtain⟨q1,q2,h⟩:=h;have hsub:=sub_zip;have w1:eI p.1 (Shared.heap ⟨hp,g,d,tk,os⟩) p.2 xs:=q1;have w2:eI q.1 (Shared.heap ⟨hp.push {cls:=.type (FO p.1),data:=.fields #[.ref p.2,.int 0 0]},g,d,tk,os⟩) q.2 ys:=eI.push q2 _;wp_walk using yg w1,yg w2;refine⟨_,rfl,?_⟩;have e1:(hp.push {cls:=.type (FO p.1),data:=.fields #[.ref p.2,.int 0 0]}).objs.size=hp.objs.size+1:=K7 ..;have h':=h;simp only[Bs,Ef,Ho,gz,gT,Kg,L_,<- e1] at h';exact h'
section
variable {X:Cx} {es:List Expr} {tk:Nat} {tp:Pos}
theorem Ao{pins:List (Addr×Obj)}{s:Shared}{R:It->Hp->Prop}(I:Inv X pins σ H s)(l:List (Bool×Addr))(hne:l≠[])(h3:l.length<=3)(hq:∀p∈l,∃xs,lB X.K p.1 H p.2 xs)(q:∀n,R (FJ X.K (gT n l)) H):
  (∃o,(Bs s.heap l).get? (Ef s.heap l).objs.size=some o/\o.cls=.type "zip")/\wpAny (model X.prog X.w) X.A (pyIter (.ref (Ef s.heap l).objs.size)) (Im X pins σ (.Tuple es tk tp) R) X.xe {s with heap:=Bs s.heap l}:=by
 have n1:(gz s.heap l).objs.size=s.heap.objs.size+l.length:=lI l _;have n2:(Ho s.heap l).objs.size=s.heap.objs.size+l.length+1:=by rw[K7,n1]
 have n3:(Ef s.heap l).objs.size=s.heap.objs.size+l.length+2:=by rw[K7,n2]
 have p3:(Bs s.heap l).get? (Ef s.heap l).objs.size=some _:=JM _ rfl;have p2:(Bs s.heap l).get? (Ho s.heap l).objs.size=some _:=J7 _ (JM _ rfl);have p1:(Bs s.heap l).get? (gz s.heap l).objs.size=some _:=J7 _ (J7 _ (JM _ rfl));have up:∀{c o},(gz s.heap l).get? c=some o->(Bs s.heap l).get? c=some o:=λe=>J7 _ (J7 _ (J7 _ e));rw[n1,n2,n3] at p3;rw[n2] at p2;rw[n1] at p1;rw[n3];refine⟨⟨_,p3,rfl⟩,wpAny_pyIter_zip p3 ?_⟩;have I2:Inv X pins σ H {s with heap:=Bs s.heap l}:=I.kept (t':=s.toks) λc o e=>up (iR l e)
 have bd:=tL l s.heap.objs.size;have lt:∀p∈l,p.2<s.heap.objs.size:=λp hp=>by
  obtain⟨xs,hx⟩:=hq p hp;obtain⟨its,_,p1⟩:=I.xg hx;obtain⟨o,e,_⟩:=p1.ty;exact JP e
 have D:Zn (s.heap.objs.size+l.length+2) (s.heap.objs.size+l.length) (s.heap.objs.size+l.length+1) (gT s.heap.objs.size l):=by
  have nl:∀(a b:Nat),a<b->a≠b:=λa b h=>JX h;refine⟨⟨nl _ _ (by lia),nl _ _ (by lia),nl _ _ (by lia)⟩,λq hq'=>?_,λq hq'=>?_,uG l _⟩
  ·have:=(bd q hq').2.1;exact⟨nl _ _ (by lia),nl _ _ (by lia),nl _ _ (by lia)⟩
  ·have h1:=lt _ (bd q hq').2.2;refine⟨nl _ _ (by show q.2.2<_;have:q.2.2<s.heap.objs.size:=h1;lia),nl _ _ (by have:q.2.2<s.heap.objs.size:=h1;lia),λp hp=>nl _ _ (JZ h1 (bd p hp).1)⟩
 refine⟨_,_,_,_,H,rfl,I2,vC (gT s.heap.objs.size l) _ _ _ D (λe=>?_) (by rw[kR];exact h3),⟨p3,p1,⟨_,p2,Jz ..⟩,λq hq'=>GP (up (BM l q hq'))⟩,λc hc=>?_,q _⟩
 ·have:=kR l s.heap.objs.size;rw[e] at this;exact hne (KU.mp this.symm)
 ·have hc':s.heap.objs.size<=c:=by
   rcases J9.mp hc with rfl|hc
   ·lia
   rcases J9.mp hc with rfl|hc
   ·lia
   rcases J9.mp hc with rfl|hc
   ·lia
   obtain⟨q,hq',rfl⟩:=Ki.mp hc;exact (bd q hq').1
  exact I.qm hc' (I.aQ.fresh hc')
noncomputable def zB(K:W.Frag)(ta:TA):TI:=λσ H R=>ta σ H λvs H1=>∃p q:Bool×Addr,vs=[.ref p.2,.ref q.2]/\(∃xs,lB K p.1 H1 p.2 xs)/\(∃ys,lB K q.1 H1 q.2 ys)/\∀n,R (FJ K (gT n [p,q])) H1
theorem C8{e1 e2:Expr}{ta:TA}{pos:Pos}(hg:Gl X "zip")(hm:X.mg "zip"=none)(ha:PA X [e1,e2] ta)(h1:autoParam (fT e1=true) ℜ0)(h2:autoParam (fT e2=true) ℜ0)(hv:autoParam (bootBuiltins "zip"=some (.type "zip")) ℜ6):
  PI X (.Tuple es tk tp) (.Call (.Name "zip" p) [e1,e2] [] pos) (zB X.K ta):=by
 intro pins s σ H R I h;refine Call_ (gj I hg hm hv (KW (cp (ha pos pins s σ H _ I h) λus s1 hq1=>?_) (by rw[d_ h1,d_ h2]) (by rw[d_ h2];rfl)))
 obtain⟨vs,H1,I1,r1,q1⟩:=hq1;obtain⟨a,b,e,⟨xs,hx⟩,⟨ys,hy⟩,q⟩:=q1;subst e;obtain⟨u,w',rfl,ru,rw'⟩:=vals2 r1
 cases ru;cases rw'
 obtain⟨its1,_,p1⟩:=I1.xg hx;obtain⟨its2,_,p2⟩:=I1.xg hy;refine OC F.called_zip (by decide) (F.typeCall_zip_2 _ _) (F.newCall_zip_2 _ _) (λobj=>F.args_object_init_3 obj _ _) F.entry_zip_new (vZ a b _ _) ⟨p1,p2,Ao I1 [a,b] (by simp) (K8 2) (λp hp=>?_) q⟩
 simp only[J9,J_,KA] at hp;rcases hp with rfl|rfl
 ·exact⟨xs,hx⟩
 ·exact⟨ys,hy⟩
end
namespace Z
theorem HX{st:Stmt}:QS X st (λ_ _ _=>False):=⟨λ_ _ _ _ _ _ h=>h.elim⟩
theorem Jh{o:Expr}{to:TE}{pos:Pos}(K:W.Frag)(hK:X.K=K){name:Str}{apos:Pos}{T id:String}{r:V->List V->Hp->VK->Prop}(pa:PlainAttrs T)(slot:Slot T name id)(hty:typeOf (.builtin id)=pure (.type "method_descriptor"))(hm:sZ X id r)(ho:QE X o to)
  (hbase:autoParam (attributeBase o name X.env (eval o X.env)=eval o X.env) ℜ0) (hline:autoParam ((apos.endLine == pos.line)=true) ℜ0):QE X (.Call (.Attribute o name apos) [] [] pos) (Ae K T r to):=by
 subst hK;exact⟨DA pa slot hty hm ho.h hbase hline⟩
theorem gZ(K:W.Frag)(hK:X.K=K):vm X (Fh K):=by subst hK;exact rE
end Z
theorem IZ{H':Hp}{xs:List V}(h:bz K H a xs)(k:KB [] H H'):bz K H' a xs:=bz.same (λb o z=>k b o z (by simp)) h
namespace Z
theorem Il{te:TE}{x:Str}{pos:Pos}{d:Addr}{D:List (Str×List Str)}(K:W.Frag)(hK:X.K=K)(hg:Gl X x)(hm:X.mg x=some (.ref d))(hd:lJ K d D)(he:QE X e te)(hs:xY e:=by exactλ_ _=>rfl)(hdb:autoParam ((x ==("__debug__":Str))=false) ℜ1):QE X (.Subscript (.Name x p) e pos) (zT K D te):=by
 subst hK;exact⟨EN (sS hg hm rfl hdb) hd he.h hs⟩
theorem yu{ta:TA}{pos:Pos}(K:W.Frag)(hK:X.K=K){k:Nat}{tp:Pos}(hg:Gl X "enumerate")(hm:X.mg "enumerate"=none)(ha:QA X [e] ta)(h1:autoParam (fT e=true) ℜ0):QI X (.Tuple es k tp) (.Call (.Name "enumerate" p) [e] [] pos) (j_ K ta):=by
 subst hK;exact⟨yT hg hm ha.h h1⟩
theorem FZ{t:TA}{pos kpos lpos p1 p2 p3:Pos}{x y z:Str}{c Pt d:Addr}{j:Nat}{params:Arguments}{k:Nat}(K:W.Frag)(hK:X.K=K)(hx:z∈dU)(ht:W.tabIn K z=some (c,Pt))(hcode:X.env.code=.ref c)(hq:X.env.qual=z++".<locals>.")(hdef:defaultsOf params X.env=([],[]))(hcl:closureFor scope X.env=pure [(y,d)])
  (hg:Gl X "sorted") (hm:X.mg "sorted"=none) (ha:QA X [e] t) (hr:bM (k+3) X.A)
  (hsc:scope={kind:=.function,names:=[(x,.local),(y,.free)],isGenerator:=false,isCoroutine:=false,more:=[]}) (hxy:y≠x) (hx1:(x ==("__debug__":Str))=false) (hx2:(x ==("__classdict__":Str))=false) (hy1:(y ==("__debug__":Str))=false) (hy2:(y ==("__classdict__":Str))=false)
  (hj:X.N[j]?=some y) (hyc:X.env.scope.names.lookup y=some .cell) (hyl:X.env.cells.lookup y=some d)
  (hbind:∀c' pm ctv u,bindArgs (W.kla_fn "<lambda>" ((z++".<locals>.")++"<lambda>") params (.Subscript (.Name y p1) (.Name x p2) p3) scope [(y,d)] pm (.ref c') ctv) ⟨[u],[]⟩=pure [(x,u)]) (h1:autoParam (fT e=true) ℜ0) :
  QE X (.Call (.Name "sorted" p) [e] [⟨some "key",.Lambda params (.Subscript (.Name y p1) (.Name x p2) p3) scope lpos,kpos⟩] pos) (kI K j t):=by
 subst hK;exact⟨zb hg hm ha.h h1 hr (DK hx ht hcode hq hdef hcl) hsc hxy hx1 hx2 hy1 hy2 hj hyc hyl hbind⟩
theorem Hg(K:W.Frag)(hK:X.K=K):dc X (compareOp .In) (IH K false):=by subst hK;exact mw
theorem Dt(K:W.Frag)(hK:X.K=K):bu X (.type "list") (λxs H Q=>∃p ys,xs=[.ref p]/\(bI K H p ys\/bz K H p ys)/\∀l,H l=none->Q (.ref l) (upd H l (.lst ys))):=by subst hK;exact oA
end Z
namespace Ap
theorem zT(K:W.Frag)(D:List (Str×List Str))(te:TE)(σ:St)(H:Hp)(Q:VK):L2.zT K D te σ H Q=te σ H λy H1=>∃k ws,y=.str k/\KTD.datumAt k D=some ws/\∀p,FR K p (ws.map V.str)->Q (.ref p) H1:=rfl
theorem j_(K:W.Frag)(ta:TA)(σ:St)(H:Hp)(R:It->Hp->Prop):L2.j_ K ta σ H R=ta σ H λvs H1=>∃a,vs=[.ref a]/\(∃xs,bI K H1 a xs)/\R (sh K a) H1:=rfl
theorem kI(K:W.Frag)(j:Nat)(t:TA)(σ:St)(H:Hp)(Q:VK):L2.kI K j t σ H Q=t σ H λvs H1=>∃l xs kz,vs=[.ref l]/\(∃n:Nat,H1 l=some (.mE 0 n)/\xs=kA n)/\kz.length=xs.length/\xs.length<64 /\
 (∀(i:Nat) (v:V) (k:Int),xs[i]?=some v->kz[i]?=some k->∀H',eB H1 H'->∃i q ls,v=.int i/\IX j σ=[some (.ref q)]/\bz K H' q ls/\bV ls i=some (.int k))/\∀H2 D,eB H1 H2->H2 D=none->Q (.ref D) (upd H2 D (.lst (jN kz xs))):=rfl
end Ap
section
variable {K:W.Frag} {g:TG} {tb:TS} {D:Ends} {σ:St} {H:Hp}
theorem lj{xs:List V}(Pv:Nat->St->Hp->Prop)(h0:Pv 0 σ H)(hl:∀i σ H,i<=xs.length->Pv i σ H->bI K H a xs)
  (hs:∀i x σ H p,xs[i]?=some x->Pv i σ H->H p=none->g (.ref p) σ (upd H p (.tup [.int i,x])) λσ2 H2=>tb {D with nx:=Pv (i+1),ct:=Pv (i+1),bk:=D.nx} σ2 H2) (hd:∀σ H,Pv xs.length σ H->D.nx σ H) :
  nF (sh K a) g tb D σ H:=by
 refine⟨λi m σ H=>m=xs.length-i/\i<=xs.length/\Pv i σ H,⟨xs.length,by simp,JL _,h0⟩,?_⟩
 rintro i m σ H ⟨rfl,hi,p⟩;have hq:=hl i σ H hi p;by_cases c:i<xs.length
 ·refine .inr ⟨⟨xs[i],xs,hq,Jx c⟩,λσ' H'=>Pv (i+1) σ' H',λσ' H' h=>⟨_,by lia,rfl,c,h⟩,?_⟩
  rintro x H' ⟨q,y,e,fr,rfl,rfl⟩;have e1:=e xs hq;exact hs i y σ H q e1 p fr
 ·have e:i=xs.length:=by lia
  subst e;exact .inl ⟨⟨xs,hq,rfl⟩,hd _ _ p⟩
end
section
variable {K:W.Frag} {σ:St} {H:Hp} {tc:TT} {te:TE} {Q:VK}
theorem Gf{x y:V}{c:Addr}{o1 o2:Option V}{R:St->Hp->Prop}(h:R (some x::some y::σ) (upd H c (.tup [x,y]))):nM K 2 (fq (b6 0) (fq (b6 1) nK)) (.ref c) (o1::o2::σ) (upd H c (.tup [x,y])) R:=⟨c,[x,y],rfl,bz.of ae,rfl,x,[y],rfl,y,[],rfl,rfl,h⟩
end
theorem yy{t:TS}{D:Ends}(h:∀N,N=D.nx->t {D with nx:=N} σ H):t D σ H:=h _ rfl
theorem CN{c:TT}{t u:TS}{D:Ends}(h:∀A B,A=t D->B=u D->c σ H λb H1=>if b=true then A σ H1 else B σ H1):nG c t u D σ H:=h _ _ rfl rfl
theorem HasFn.Ij{mg:Str->Option Value}{base:Heap}{x:Str}{st:Stmt}{ps:List Str}{k:Nat}{sp:Sp}(F:HasFn K mg x st ps)(S:ay N ps (af st))(len:∀vs H Q E,sp vs H Q E->vs.length=ps.length)
  (hbody:∀(f:Addr) (cdv:Value) (A:Around) (outer:List Env) (s:Shared) (H:Hp) (vs:List V) (Q:VK) (E:XK),bM k (A.deeper (envOfC x (af st) s.heap.objs.size f cdv))->mg x=some (.ref f)->Bp K f cdv->sp vs H Q E ->
   ∃t,QB (fS aY P w K mg base N x (af st) f cdv A outer s H E).qG (aU st) t/\t {nx:=λ_ H'=>Q .aR H',rt:=Q} (start N vs) H):au P w K mg base aY (k+1) x ps sp:=by
 obtain⟨f,fd,F1,b,m⟩:=F.ex;have F2:=F1;obtain⟨oc,od,kV,doc,pm,an,cdv,ct,osl,rfl,lk,fK⟩:=F2.ex;refine⟨f,_,m,F1.kp,b,CL lk fK S len λA outer s H vs Q E hr mJ=>?_⟩;obtain⟨t,h,q⟩:=hbody f cdv A outer s H vs Q E hr m ⟨_,_,lk,rfl,rfl⟩ mJ;exact⟨t,h.h.qG,q⟩
theorem aG.of(k:scope.kind=.function)(h:N.Nodup/\N.length=own.length+ON.length/\(∀y∈scope.names,y.2≠.cell)/\(∀y∈scope.names,y.2=.local->scope.names.lookup y.1=some .local)/\(∀y∈scope.names,y.2=.free->osc.names.lookup y.1=some .cell\/osc.names.lookup y.1=some .free)/\(∀p∈ON.zip (N.drop own.length),p.1=p.2\/scope.names.lookup p.2=none)/\∀x∈N.drop own.length,scope.names.lookup x≠some .local):aG osc ON scope own N:=by
 obtain⟨h1,h2,h3,h4,h5,h6,h7⟩:=h;exact⟨k,h1,h2,h3,h4,h5,h6,h7⟩
namespace Z
section
variable {X:Cx} {e o:Expr} {es:List Expr} {te to:TE} {t:TA} {pos pos' p:Pos} {x:Str}
theorem se(hN:X.N.Nodup)(he:QE X e te)(hi:autoParam (X.N[i]?=some x) ℜ0)(hx:Loc X.env.scope x:=by first|exact Or.inl rfl|exact Or.inr rfl)(hs:autoParam (HS e=true) ℜ0)(hf:autoParam (X.fn x=true\/X.env.scope.names.lookup x=some .local) ℜ2):
  QS X (.Assign [.Name x pos'] e pos) (jD te (b6 i)):=set hN hi hx he hs hf
theorem fc{k:Nat}{ps:List Str}{sp:Sp}(F:au X.prog X.w X.K X.mg X.base aY k x ps sp)(ha:QA X (e::es) t)(hr:bM k X.A:=by exact bM.mono (by assumption) (by decide))(hg:autoParam (Gl X x) ℜ0)(h1:autoParam (fT e=true) ℜ0)(h2:autoParam (es.all fT=true) ℜ0)(hdb:autoParam ((x ==("__debug__":Str))=false) ℜ1):
  QE X (.Call (.Name x p) (e::es) [] pos) (jt sp [] E0 t):=fn F hr hg fQ ha h1 h2 hdb
theorem rA{tg elt:Expr}{wi:TI}{g:TG}{tc:TT}(S:aG osc ON scope own N)(hi:QI X tg iter wi)
  (hg:∀(nd:N.Nodup) C s H fp,QG (aS X scope N C s H fp) tg g) (ht:∀C s H fp,Hc (aS X scope N C s H fp) ifs tc) (he:∀C s H fp,QE (aS X scope N C s H fp) elt te) (hosc:autoParam (X.env.scope=osc) ℜ0) (hON:autoParam (X.N=ON) ℜ0) (hc:autoParam (X.calm=true) ℜ0) (hs:autoParam (∀x,foldedSetIterable iter X.env x=pure x) ℜ3) :
  QE X (.ListComp elt [⟨tg,iter,ifs,0⟩] scope pos) (iI wi own.length g tc te):=comp S hosc hON hc hi (hg S.nd) ht he hs
theorem sec{tg elt:Expr}{p2:Pos}{wi:TI}{g:TG}{tc:TT}{j:Nat}(hN:X.N.Nodup)(S:aG osc ON scope own N)(hi:QI X tg iter wi)
  (hg:∀(nd:N.Nodup) C s H fp,QG (aS X scope N C s H fp) tg g) (ht:∀C s H fp,Hc (aS X scope N C s H fp) ifs tc) (he:∀C s H fp,QE (aS X scope N C s H fp) elt te)
  (hj:autoParam (X.N[j]?=some x) ℜ0) (hx:Loc X.env.scope x:=by first|exact Or.inl rfl|exact Or.inr rfl) (hosc:autoParam (X.env.scope=osc) ℜ0) (hON:autoParam (X.N=ON) ℜ0) (hc:autoParam (X.calm=true) ℜ0)
  (hsw:autoParam (swapsWith (.ListComp elt [⟨tg,iter,ifs,0⟩] scope p2) (some (.Name x pos')) pos.line X.env=pure true) ℜ0)
  (hf:autoParam (X.fn x=true\/X.env.scope.names.lookup x=some .local) ℜ2) (hs:autoParam (∀x,foldedSetIterable iter X.env x=pure x) ℜ3) :
  QS X (.Assign [.Name x pos'] (.ListComp elt [⟨tg,iter,ifs,0⟩] scope p2) pos) (jD (iI wi own.length g tc te) (b6 j)):=setC hN hj hx S hosc hON hc hi (hg S.nd) ht he hsw hf hs
theorem app(K:W.Frag){apos:Pos}(ho:QE X o to)(ha:QA X (e::es) t)(hK:autoParam (X.K=K) ℜ0)(hbase:autoParam (attributeBase o "append" X.env (eval o X.env)=eval o X.env) ℜ0)(hline:autoParam ((apos.endLine == pos.line)=true) ℜ0)(h:autoParam ((e::es).all fT=true) ℜ0)(hl:autoParam ((e::es).length<30) ℜ1):QE X (.Call (.Attribute o "append" apos) (e::es) [] pos) (Eb K "list" tI to t):=bm K hK PySem.F.plainAttrs_list PySem.F.slot_list_append PySem.F.type_list_append mX ho ha hbase hline h hl
end
end Z
abbrev TJ:=St->Hp->(Hp->Prop)->Prop
end L2
namespace G
local macro_rules|`(tactic|and_intros)=>`(tactic|exact ⟨rfl,rfl,rfl,by decide +kernel,rfl,by decide +kernel,by decide +kernel⟩)
open PySem L2 PySem.Spec PyProof.Rows
variable{L i p t:Nat}{C a dq f q:Addr}{b sp ss ws z:List Nat}{d:Int}{H H':Hp}{xs ys:List V}{as ex:List Addr}{ln:Nat->Nat}{α:Type}{ls:List Int}{h:Heap}{K:W.Frag}{Q:VK}{gs:List (Option Nat)}{σ:L2.St}{te:TE}{neg:Bool}{fd:FuncData}{mg:Str->Option Value}
noncomputable def top(i:Nat):Stmt:=PySem.Challenge.pw_shortrows_k47_whole_packed_read_and_run.main.body.getD i (.Pass ⟨0,0,0,0⟩)
abbrev lO:Stmt:=top 6
theorem cH:ay ["lengths","free","depth","left","length"] ["lengths"] (af lO):=by and_intros
abbrev dm:Stmt:=top 8
theorem ee:ay ["lengths","words","ahead","thing"] ["lengths"] (af dm):=by and_intros
abbrev eM:Stmt:=top 9
theorem kB:ay ["ahead","length"] ["ahead","length"] (af eM):=by and_intros
abbrev hZ:Stmt:=top 10
theorem gB:ay ["code","bits","place","thing","word"] ["code","bits","place"] (af hZ):=by and_intros
abbrev ja:Stmt:=top 15
theorem sm:ay ["row"] ["row"] (af ja):=by and_intros
abbrev gy:Stmt:=top 16
theorem nN:ay ["row","goal"] ["row","goal"] (af gy):=by and_intros
abbrev e9:Stmt:=top 22
theorem jE:ay ["sizes","goals"] ["sizes","goals"] (af e9):=by and_intros
abbrev cR:Stmt:=top 23
theorem bF:ay ["sizes","goals","widths","paper","row"] ["sizes","goals"] (af cR):=by and_intros
abbrev eG:Stmt:=top 24
theorem nT:ay ["goals"] ["goals"] (af eG):=by and_intros
abbrev cQ:Stmt:=top 25
theorem bX:ay ["sizes","goals","widths","starts","row","goal"] ["sizes","goals","widths"] (af cQ):=by and_intros
abbrev rj:Stmt:=top 26
theorem uu:ay ["starts","goals","widths","row","half"] ["starts","goals","widths","row"] (af rj):=by and_intros
abbrev eU:Stmt:=top 27
theorem kN:ay ["starts","goals","row"] ["starts","goals","row"] (af eU):=by and_intros
abbrev fv:Stmt:=top 28
theorem dn:ay ["sizes","widths","starts","size","width"] ["sizes","widths"] (af fv):=by and_intros
abbrev hW:Stmt:=top 29
theorem oM:ay ["width"] ["width"] (af hW):=by and_intros
abbrev dR:Stmt:=top 34
theorem cP:ay ["row","things","kind","part"] ["row"] (af dR):=by and_intros
abbrev fH:Stmt:=top 35
theorem pE:ay ["book"] ["book"] (af fH):=by and_intros
abbrev cT:Stmt:=top 36
theorem b8:ay ["program","book","codes","firsts","sizes","goals","widths","starts","bits","row","first"] ["program","book"] (af cT):=by and_intros
abbrev bT:Stmt:=top 37
theorem dh:ay ["row","codes","bits"] ["row","codes"] (af bT):=by and_intros
abbrev cf:Stmt:=top 38
theorem fb:ay ["number"] ["number"] (af cf):=by and_intros
abbrev dO:Stmt:=top 39
theorem jF:ay ["width","distance"] ["width","distance"] (af dO):=by and_intros
abbrev dX:Stmt:=top 40
theorem bN:ay ["number","many","figures","left","turn"] ["number","many"] (af dX):=by and_intros
abbrev aL:Stmt:=inClass (top 42) 0
theorem gS:ay ["self","given"] ["self","given"] (af aL):=by and_intros
abbrev aJ:Stmt:=inClass (top 42) 1
theorem da:ay ["self","row","behind","end","goes"] ["self","row","behind","end"] (af aJ):=by and_intros
abbrev aN:Stmt:=inClass (top 42) 2
theorem d9:ay ["self","row","word"] ["self","row"] (af aN):=by and_intros
abbrev aK:Stmt:=inClass (top 42) 3
theorem bL:ay ["self","row","word","old","other"] ["self","row"] (af aK):=by and_intros
abbrev aI:Stmt:=inClass (top 42) 4
theorem ff:ay ["self"] ["self"] (af aI):=by and_intros
abbrev aH:Stmt:=inClass (top 42) 5
theorem eZ:ay ["self"] ["self"] (af aH):=by and_intros
abbrev aF:Stmt:=inClass (top 42) 6
theorem fE:ay ["self"] ["self"] (af aF):=by and_intros
abbrev fF:Stmt:=top 43
theorem bZ:ay ["program","given","most","machine","turns","at","done","how"] ["program","given","most"] (af fF):=by and_intros
abbrev d8:Stmt:=top 45
theorem cG:ay ["bits","book","codes","rows","starts","found","numbers"] ["bits","book"] (af d8):=by and_intros
abbrev dB:Stmt:=top 46
theorem fj:ay ["row","start","numbers","goal"] ["row","start","numbers"] (af dB):=by and_intros
abbrev lE:Stmt:=top 47
theorem cS:ay ["codes","bits","place","found","word","row","behind","kind","part"] ["codes","bits","place"] (af lE):=by and_intros
abbrev ig:Stmt:=top 48
theorem j3:ay ["code","bits","place","thing"] ["code","bits","place"] (af ig):=by and_intros
abbrev jk:Stmt:=top 49
theorem lr:ay ["kind","codes","bits","place","found"] ["kind","codes","bits","place"] (af jk):=by and_intros
abbrev fY:Stmt:=top 50
theorem fD:ay ["code","bits","place","found","behind"] ["code","bits","place"] (af fY):=by and_intros
abbrev jo:Stmt:=top 51
theorem dk:ay ["bits","place","found","width","behind","distance"] ["bits","place"] (af jo):=by and_intros
abbrev hU:Stmt:=top 53
theorem bj:ay ["bits","book","given","most","codes","machine","read","done","place","found","how"] ["bits","book","given","most"] (af hU):=by and_intros
abbrev fX:Stmt:=top 55
theorem iK:ay ["cell","number"] ["cell"] (af fX):=by and_intros
abbrev gF:Stmt:=top 56
theorem dG:ay ["seed","most","found","number"] ["seed","most"] (af gF):=by and_intros
abbrev fG:Stmt:=top 57
theorem ml:ay ["script","many"] ["script","many"] (af fG):=by and_intros
abbrev ip:Stmt:=top 64
theorem qp:ay ["seed"] ["seed"] (af ip):=by and_intros
abbrev eQ:Stmt:=top 65
theorem fU:ay ["seed","way"] ["seed"] (af eQ):=by and_intros
abbrev hJ:Stmt:=top 66
theorem gu:ay ["seed","many","way","goal"] ["seed","many"] (af hJ):=by and_intros
abbrev cW:Stmt:=top 67
theorem fR:ay ["seed","many"] ["seed"] (af cW):=by and_intros
abbrev cz:Stmt:=top 68
theorem bD:ay ["seed","many","most","found","at","left"] ["seed","many","most"] (af cz):=by and_intros
abbrev gc:Stmt:=top 69
theorem iO:ay ["seed","most"] ["seed"] (af gc):=by and_intros
abbrev fw:Stmt:=top 70
theorem dy:ay ["number","found"] ["number"] (af fw):=by and_intros
abbrev fV:Stmt:=top 71
theorem cC:ay ["row","book","words","total","part"] ["row","book"] (af fV):=by and_intros
abbrev cF:Stmt:=top 72
theorem dw:ay ["program","book","goals","bare","widths"] ["program","book"] (af cF):=by and_intros
abbrev cI:Stmt:=top 73
theorem aX:ay ["seed","program","book","bits","places","sizes","given","most","how","told","turns","boxes","found"] ["seed","program","book"] (af cI):=by and_intros
abbrev iM:Stmt:=top 74
theorem nz:ay ["script","cell","seed","program"] ["script"] (af iM):=by and_intros
structure Txt (K:W.Frag) (mg:Str->Option Value):Prop where
 Iz:mg "bool"=none
 x_:mg "dict"=none
 d7:mg "enumerate"=none
 pN:mg "int"=none
 nY:mg "isinstance"=none
 cy:mg "len"=none
 sv:mg "list"=none
 xB:mg "max"=none
 CQ:mg "min"=none
 fA:mg "range"=none
 pG:mg "sorted"=none
 Dg:mg "str"=none
 xH:mg "sum"=none
 cc:mg "tuple"=none
 u7:mg "zip"=none
 jS:∃a,mg "BOXES"=some (.ref a)/\∀H,bz K H a [.str "a",.str "b",.str "c",.str "d",.str "e",.str "f",.str "g",.str "h"]
 pK:∃a,mg "HALVES"=some (.ref a)/\∀H,bz K H a [.int 8,.int 128,.int 32768]
 oF:∃a,mg "HEADS"=some (.ref a)/\∀H,bz K H a [.str "0",.str "10",.str "11"]
 lL:∃u,mg "OF_BOXES"=some u/\RelV (.int 2) u
 i0:∃u,mg "OF_CLASSES"=some u/\RelV (.int 1) u
 kj:∃u,mg "OF_WORDS"=some u/\RelV (.int 0) u
 Bv:∃u,mg "WHOLE"=some u/\RelV (.int 65536) u
 yj:∃u,mg "WIDEST"=some u/\RelV (.int 2) u
 kQ:∃a,mg "WIDTHS"=some (.ref a)/\∀H,bz K H a [.int 4,.int 8,.int 16]
 BB:Ii K mg "BOXES"
 lh:∃d,mg "SHAPES"=some (.ref d)/\lJ K d [("put",["box","number"]),("add",["box","box"]),("sub",["box","box"]),("copy",["box","box"]),("tell",["box"]),("hear",["box"]),("jump",["goal"]),("zero",["box","goal"]),("halt",[])]
 mc:∃(C_Machine f___init__ f_place_next f_carry_out f_number_for f_heard_number f_told_numbers f_box_numbers:Addr) (d___init__ d_place_next d_carry_out d_number_for d_heard_number d_told_numbers d_box_numbers:FuncData),mg "Machine"=some (.ref C_Machine)/\lV K C_Machine/\bK K C_Machine "given"/\bK K C_Machine "heard"/\bK K C_Machine "told"/\bK K C_Machine "boxes"/\Mk K C_Machine f___init__/\lW K "__init__" "Machine.__init__" aL f___init__ d___init__/\Binds K d___init__ ["self","given"] []/\Meth K C_Machine "place_next" f_place_next/\lW K "place_next" "Machine.place_next" aJ f_place_next d_place_next/\Binds K d_place_next ["self","row","behind","end"] []/\Meth K C_Machine "carry_out" f_carry_out/\lW K "carry_out" "Machine.carry_out" aN f_carry_out d_carry_out/\Binds K d_carry_out ["self","row"] []/\Meth K C_Machine "number_for" f_number_for/\lW K "number_for" "Machine.number_for" aK f_number_for d_number_for/\Binds K d_number_for ["self","row"] []/\Meth K C_Machine "heard_number" f_heard_number/\lW K "heard_number" "Machine.heard_number" aI f_heard_number d_heard_number/\Binds K d_heard_number ["self"] []/\Meth K C_Machine "told_numbers" f_told_numbers/\lW K "told_numbers" "Machine.told_numbers" aH f_told_numbers d_told_numbers/\Binds K d_told_numbers ["self"] []/\Meth K C_Machine "box_numbers" f_box_numbers/\lW K "box_numbers" "Machine.box_numbers" aF f_box_numbers d_box_numbers/\Binds K d_box_numbers ["self"] []
 pO:tJ K mg "code_of"
section
variable {P:Program} {w:World} {K:W.Frag} {mg:Str->Option Value} {base:Heap}
namespace Kr
noncomputable def ks(L:Nat):List Nat->Nat
 |[]=>0
 |l::r=>2^(L-l)+ks L r
theorem cE(L:Nat):∀a b,ks L (a++b)=ks L a+ks L b
 |[],b=>by simp[ks]
 |x::a,b=>by simp[ks,cE L a b];lia
theorem gR{a:List Nat}(h:a.Perm b):ks L a=ks L b:=by
 induction h with
 |nil=>rfl
 |cons x _ ih=>simp[ks,ih]
 |swap x y l=>simp[ks];lia
 |trans _ _ h1 h2=>exact h1.trans h2
theorem vR{d l:Nat}(h:d<l)(hl:l<=L):2^(L-d)=2*2^(L-(d+1)):=by
 have:L-d=(L-(d+1))+1:=by lia
 rw[this,Ng];lia
noncomputable def fit:List Nat->Nat->Nat->Nat->Prop:=λr free depth L=>ks L r<=free*2^(L-depth)
theorem zy{L d:Nat}:∀{r:List Nat},(∀x∈r,d<=x)->ks L r<=r.length*2^(L-d)
 |[],_=>by simp[ks]
 |x::r,h=>by
  have ih:=zy (L:=L) (d:=d) (r:=r) λy hy=>h y (JG _ hy);have hx:=h x JH;have:=Mo (n:=2) (by decide) (Nat.sub_le_sub_left hx L)
  simp only[ks,JK,MZ];lia
theorem Ei{x:Nat}{r:List Nat}:0<ks L (x::r):=by
 have:=Ol (n:=L-x) (show 0<2 by decide)
 simp only[ks];lia
theorem qR{r:List Nat}{free depth:Nat}(h:∀x∈r,depth<=x)(hf:r.length<=free):fit r free depth L:=
 JF (zy h) (Nat.mul_le_mul_right _ hf)
theorem rf{r:List Nat}{free depth l:Nat}(h:depth<l)(hl:l<=L):fit r free depth L ↔ fit r (free*2) (depth+1) L:=by
 unfold fit;rw[vR h hl,Mr]
theorem zK{r:List Nat}{free l:Nat}(hf:0<free):fit (l::r) free l L ↔ fit r (free-1) l L:=by
 unfold fit;simp only[ks];obtain⟨f,rfl⟩:∃f,free=f+1:=⟨free-1,by lia⟩
 rw[M9,MZ];lia
theorem wX{x:Nat}{r:List Nat}{depth L:Nat}:¬ fit (x::r) 0 depth L:=by
 unfold fit;have:=Ei (L:=L) (x:=x) (r:=r);lia
noncomputable def Fm(L:Nat)(done:List Nat)(need last:Int):Prop:=0<=need/\0<=last/\∀m:Nat,(need<=m ↔ ks L done<=m*2^(L-last.toNat))
theorem shr(n:Int)(g:Nat)(hn:0<=n)(m:Nat):(1-((0-n) / 2^g)<=(m:Int)) ↔ (1<=m/\n<=((m-1:Nat):Int)*2^g):=by
 have hp:(0:Int)<2^g:=Int.pow_pos (by decide)
 have h1:(1-((0-n) / 2^g)<=(m:Int)) ↔ (1-(m:Int))<=(0-n) / 2^g:=by lia
 rw[h1,Oi hp];constructor
 ·intro h;have hm:1<=m:=by
   rcases MB m with z|z
   ·subst z;simp at h;lia
   ·exact z
  refine⟨hm,?_⟩;have e:((m-1:Nat):Int)=(m:Int)-1:=by lia
  rw[e,Om];rw[Om] at h;lia
 ·rintro⟨hm,h⟩;have e:((m-1:Nat):Int)=(m:Int)-1:=by lia
  rw[e,Om] at h;rw[Om];lia
theorem Fm.step{done:List Nat}{need last l:Int}(h:Fm L done need last)(h0:0<=l)(hl:l<=last)(hL:last<=L):
  Fm L (done++[l.toNat]) (1-((0-need) / 2^(last-l).toNat)) l:=by
 obtain⟨n0,l0,hm⟩:=h;refine⟨?_,h0,λm=>?_⟩
 ·have hp:(0:Int)<2^(last-l).toNat:=Int.pow_pos (by decide)
  have:(0-need) / 2^(last-l).toNat<=0:=Int.ediv_nonpos_of_nonpos_of_neg (by lia) hp
  lia
 ·rw[shr need _ n0 m,cE];simp only[ks];have e1:2^(L-l.toNat)=2^(last-l).toNat*2^(L-last.toNat):=by
   rw[<- Nv];congr 1;lia
  have hpos:=Ol (n:=L-l.toNat) (show 0<2 by decide)
  constructor
  ·rintro⟨m1,h⟩;have h':need<=(((m-1)*2^(last-l).toNat:Nat):Int):=by
    rw[Int.natCast_mul,Oa];exact h
   have:=(hm _).mp h';rw[Mr,<- e1] at this;obtain⟨k,rfl⟩:∃k,m=k+1:=⟨m-1,by lia⟩
   rw[M9] at this;rw[MZ];exact Nat.add_le_add this (JD _)
  ·intro h;have m1:1<=m:=by
    rcases MB m with z|z
    ·subst z;lia
    ·exact z
   refine⟨m1,?_⟩;have h':need<=(((m-1)*2^(last-l).toNat:Nat):Int):=by
    refine (hm _).mpr ?_;rw[Mr,<- e1];obtain⟨k,rfl⟩:∃k,m=k+1:=⟨m-1,by lia⟩
    rw[M9];rw[MZ] at h;exact Nat.le_of_add_le_add_right h
   rw[Int.natCast_mul,Oa] at h';exact h'
end Kr
theorem _root_.L2.KB.n(k:KB [] H H'){b:Addr}{o:HO}(e:H b=some o):H' b=some o:=k b o e J_
theorem _root_.L2.dF(h:H a=none)(o:HO):KB [] H (upd H a o)/\upd H a o a=some o:=⟨KB.new h,ae⟩
noncomputable def iV(xs:List Int):List V:=xs.map V.int
theorem bU(xs:List Int):(iV xs).length=xs.length:=Jz ..
theorem eO(xs ys:List Int):iV (xs++ys)=iV xs++iV ys:=JR
theorem mI{xs:List Int}(h:i<xs.length):bV (iV xs) (i:Int)=some (.int xs[i]):=bq (by unfold iV;rw[JC,Jx h];rfl)
theorem lT{xs:List Int}{v:V}(h:(iV xs)[i]?=some v):∃hi:i<xs.length,v=.int xs[i]:=by
 unfold iV at h;rw[JC] at h
 cases e:xs[i]? with
 |none=>rw[e] at h;cases h
 |some x=>rw[e] at h;cases h;obtain⟨hi,rfl⟩:=J6.mp e;exact⟨hi,rfl⟩
theorem Ea(k:KB ex H H')(hx:∀b∈ex,∃ys,H b=some (.lst ys))(h:H a=some (.tup xs)):H' a=some (.tup xs):=k _ _ h λz=>by
 obtain⟨ys,e⟩:=hx a z;rw[h] at e;cases e
noncomputable def oR(ls:List Int):Prop:=0<ls.length/\ls.length<=20/\∀x∈ls,1<=x/\x<=20
noncomputable def KS(ls:List Int):Nat:=Kr.ks 40 (ls.map Int.toNat)
noncomputable def qH(ls:List Int):Bool:=decide (KS ls<=2^40)
namespace Cw
noncomputable def inc:List Nat->List Nat
 |[]=>[]
 |c::r=>if r.all (· == 49) then (if c=48 then 49::r.map (λ_=>48) else 48::r.map (λ_=>48)) else c::inc r
noncomputable def pad(n:Nat)(w:List Nat):List Nat:=w++List.replicate (n-w.length) 48
noncomputable def i8(w:List Nat)(n:Nat):List Nat:=pad n (inc w)
noncomputable def fP(w:List Nat)(n:Nat):List Nat:=pad n ((w.reverse.dropWhile (· == 49)).reverse.dropLast++[49])
theorem Ge:∀w:List Nat,w.all (· == 49)=true->inc w=w.map λ_=>48
 |[],_=>rfl
 |c::r,h=>by
  rw[Lu,K4] at h;have hc:c=49:=Me.mp h.1;unfold inc;rw[JE h.2,JA (by rw[hc];decide),Kg]
theorem nL:∀{l:List Nat},l.all (· == 49)=true->l=List.replicate l.length 49
 |[],_=>rfl
 |c::r,h=>by
  rw[Lu,K4] at h;have hc:c=49:=Me.mp h.1;rw[JK,Ku,<- nL h.2,hc]
theorem Au(k:Nat):(List.replicate k 49).all (· == 49)=true:=by
 rw[Lc];intro x hx;rw[(KR.mp hx).2];rfl
theorem parts:∀{w:List Nat},(∀c∈w,c=48\/c=49)->w.all (· == 49)=false->∃p k,w=p++48::List.replicate k 49
 |[],_,h=>by cases h
 |c::r,hb,h=>by
  by_cases z:r.all (· == 49)=true
  ·rw[Lu,z,MO] at h;have hc:c=48:=(hb c JH).resolve_right λe=>by rw[e] at h;cases h
   exact⟨[],r.length,by rw[hc,KN,<- nL z]⟩
  ·obtain⟨p,k,e⟩:=parts (w:=r) (λx hx=>hb x (JG _ hx)) (by simpa using z)
   exact⟨c::p,k,by rw[e];rfl⟩
theorem gH(k:Nat):∀p:List Nat,inc (p++48::List.replicate k 49)=p++49::List.replicate k 48
 |[]=>by
  rw[KN,KN];unfold inc;rw[JE (Au k),JE rfl,List.map_replicate]
 |c::p=>by
  rw[KQ];unfold inc;have z:¬ (p++48::List.replicate k 49).all (· == 49)=true:=by
   rw[List.all_append,Lu];simp
  rw[JA z,gH k p];rfl
theorem qN(k:Nat)(p:List Nat):((p++48::List.replicate k 49).reverse.dropWhile (· == 49)).reverse=p++[48]:=by
 rw[Nl,List.reverse_cons,List.reverse_replicate];have e:∀(k:Nat) (t:List Nat),(List.replicate k 49++[48]++t).dropWhile (· == 49)=[48]++t:=λk t=>by
  induction k with
  |zero=>rfl
  |succ k ih=>rw[Ku,KQ,KQ,Mv,JE (by decide)];exact ih
 rw[e,Nl,Mi];rfl
theorem wz{w:List Nat}{n:Nat}(hb:∀c∈w,c=48\/c=49)(h:w.all (· == 49)=false)(hn:w.length<=n):fP w n=i8 w n:=by
 obtain⟨p,k,rfl⟩:=parts hb h;unfold fP i8 pad;rw[qN,gH,List.dropLast_append_of_ne_nil (by simp)]
 rw[J5,JK,JS] at hn;simp only[List.dropLast_singleton,Kp,J5,JK,JS,K2,JU,KQ,KN];congr 2;rw[List.replicate_append_replicate];congr 1;lia
noncomputable def val:List Nat->Nat
 |[]=>0
 |c::r=>(c-48)*2^r.length+val r
theorem gM:∀a b:List Nat,val (a++b)=val a*2^b.length+val b
 |[],b=>by simp[val]
 |c::a,b=>by
  rw[KQ,val,val,gM a b,J5,Nv,Nat.add_mul,Mr,Ms]
theorem fu:∀k,val (List.replicate k 48)=0
 |0=>rfl
 |k+1=>by rw[Ku,val,fu k];simp
theorem lq:∀k,val (List.replicate k 49)+1=2^k
 |0=>rfl
 |k+1=>by
  have:=lq k;rw[Ku,val,JS,Ng];lia
theorem oj:∀w:List Nat,(inc w).length=w.length
 |[]=>rfl
 |c::r=>by
  unfold inc;split
  ·split<;>simp
  ·rw[JK,JK,oj r]
theorem qw:∀{w:List Nat},(∀c∈w,c=48\/c=49)->∀c∈inc w,c=48\/c=49
 |[],_,_,h=>by cases h
 |d::r,hb,c,h=>by
  unfold inc at h
  split at h
  ·split at h
   ·rcases J9.mp h with h|h
    ·exact .inr h
    ·obtain⟨_,_,e⟩:=Ki.mp h;exact .inl e.symm
   ·rcases J9.mp h with h|h
    ·exact .inl h
    ·obtain⟨_,_,e⟩:=Ki.mp h;exact .inl e.symm
  ·rcases J9.mp h with h|h
   ·rw[h];exact hb d JH
   ·exact qw (λx hx=>hb x (JG _ hx)) c h
theorem fk{w:List Nat}{n:Nat}(h:w.length<=n):(i8 w n).length=n:=by
 unfold i8 pad;rw[J5,JS,oj];lia
theorem mD{w:List Nat}{n:Nat}(hb:∀c∈w,c=48\/c=49):∀c∈i8 w n,c=48\/c=49:=λc h=>by
 rcases K0.mp h with h|h
 ·exact qw hb c h
 ·exact .inl (KR.mp h).2
theorem ql{w:List Nat}{n:Nat}(hb:∀c∈w,c=48\/c=49)(h:w.all (· == 49)=false):val (i8 w n)=(val w+1)*2^(n-w.length):=by
 unfold i8 pad;rw[gM,fu,JS,oj,OD];congr 1;obtain⟨p,k,rfl⟩:=parts hb h;have:=lq k;rw[gH,gM,gM,val,val,fu,JK,JK,JS,JS];lia
theorem xq{w:List Nat}(h:w.all (· == 49)=true):val w+1=2^w.length:=by
 rw[nL h,JS];exact lq _
structure iY (done:List Nat) (w:List Nat):Prop where
 bits:∀c∈w,c=48\/c=49
 len:w.length<=40
 sum:(val w+1)*2^(40-w.length)=Kr.ks 40 done
theorem iY.zero{done rest w:List Nat}{l:Nat}(h:iY done w)(hk:Kr.ks 40 done+2^(40-l)<=2^40):w.all (· == 49)=false:=by
 cases z:w.all (· == 49) with
 |false=>rfl
 |true =>
  have e:=h.sum;rw[xq z,<- Nv,Nat.add_sub_cancel' h.len] at e;have:0<2^(40-l):=Ol (by decide)
  lia
theorem iY.next{done w:List Nat}{l:Nat}(h:iY done w)(hl:w.length<=l)(hl2:l<=40)(hk:Kr.ks 40 done+2^(40-l)<=2^40):iY (done++[l]) (i8 w l):=by
 have z:=h.zero (rest:=[]) hk;refine⟨mD h.bits,by rw[fk hl];exact hl2,?_⟩
 rw[ql h.bits z,fk hl,Nat.add_mul,Mr,<- Nv,Kr.cE,<- h.sum];have e:l-w.length+(40-l)=40-w.length:=by lia
 rw[e];simp[Kr.ks]
theorem iY.first{l:Nat}(hl:l<=40):iY [l] (List.replicate l 48):=⟨λc h=>.inl (KR.mp h).2,by rw[JS];exact hl,by rw[fu,JS];simp[Kr.ks]⟩
noncomputable def along(nx:List Nat->Nat->List Nat)(ln:Nat->Nat):List Nat->Option (List Nat)×List (List Nat)->Option (List Nat)×List (List Nat)
 |[],s=>s
 |t::r,(a,ws) =>
  let w:=match a with|none=>List.replicate (ln t) 48|some v=>nx v (ln t)
  along nx ln r (some w,ws.set t w)
theorem iL{nx:List Nat->Nat->List Nat}:∀(a b:List Nat) (s:Option (List Nat)×List (List Nat)),along nx ln (a++b) s=along nx ln b (along nx ln a s)
 |[],_,_=>rfl
 |t::r,b,(a,ws)=>iL r b _
theorem gK{nx:List Nat->Nat->List Nat}:∀(o:List Nat) (s:Option (List Nat)×List (List Nat)),(along nx ln o s).2.length=s.2.length
 |[],_=>rfl
 |t::r,(a,ws)=>(gK r _).trans KZ
end Cw
local macro_rules | `(tactic| walk_at "lc") => `(tactic| first | exact Or.inl rfl | exact Or.inr rfl)
local macro_rules | `(tactic| wp_walk using $ts,*) => do
  let ids := ("Nat.reduceAdd Nat.reduceSub L2.Ap.u_ L2.Ap.tC L2.Ap.yK L2.Ap.Ht L2.Ap.oQ L2.Ap.Gq L2.Ap.xy L2.Ap.FX L2.Ap.x9 L2.Ap.kT L2.Ap.oz L2.Ap.tK L2.Ap.C4 L2.Ap.jz L2.Ap.xC L2.Ap.zL L2.Ap.jt L2.Ap.Cc L2.Ap.Eb L2.Ap.Ae L2.Ap.FW L2.Ap.iA L2.Ap.qz L2.Ap.q_ L2.Ap.jD L2.Ap.b6 L2.Ap.xo L2.Ap.nM L2.Ap.fq L2.Ap.nK L2.Ap.yP L2.Ap.qc L2.Ap.nG L2.Ap.oZ L2.Ap.mZ L2.Ap.xR L2.Ap.qj Ca yG L2.Ap.rI L2.Ap.v_ L2.Ap.rU L2.Ap.CF L2.Ap.Hx L2.Ap.addRef L2.Ap.Hf L2.Ap.IC L2.Ap.EW L2.Ap.IJ L2.Ap.IB L2.Ap.fL L2.Ap.Hy L2.Ap.setRef L2.Ap.zW L2.Ap.Ej L2.Ap.Gb L2.Ap.GQ L2.Ap.IS L2.Ap.IL L2.Ap.su L2.Ap.HG L2.Ap.Gz L2.Ap.Ic L2.Ap.DX L2.Ap.A9 L2.Ap.AX L2.Ap.Jt L2.start Co Ai Iv IA EL List.map_cons List.map_nil List.length_cons List.length_nil List.replicate List.cons_append List.nil_append List.append_nil List.getElem?_cons_zero List.getElem?_cons_succ List.set_cons_zero List.set_cons_succ Option.some.injEq exists_eq_left exists_eq_left' V.int.injEq V.str.injEq V.bl.injEq V.ref.injEq List.cons.injEq and_true true_and decide_eq_true_eq Bool.not_eq_true' decide_eq_false_iff_not Bool.false_eq_true L2.Ap.wR L2.Ap.yd L2.Ap.kE L2.Ap.pH L2.Ap.qf L2.Ap.pX L2.Ap.yi L2.Ap.zT L2.Ap.j_ L2.Ap.kI".splitOn " ").toArray.map λn => Lean.mkIdent n.toName
  `(tactic| simp only [↓reduceIte, $[$ids:ident],*, $[$ts:term],*])
local macro_rules | `(tactic| nofun) => `(tactic| wp_walk using and_self)
local macro_rules|`(tactic|rfl')=>`(tactic|wp_walk using and_self)
local macro_rules|`(tactic|symm)=>do
  let n:=Lean.mkIdent `N
  let h:=Lean.mkIdent `hN
  `(tactic|(refine $h _ ?_;clear $h $n;refine ax λ$n $h=>?_))
local macro_rules|`(tactic|ac_rfl)=>do
  let n:=Lean.mkIdent `N
  let h:=Lean.mkIdent `hN
  `(tactic|(refine $h _ ?_;clear $h $n))
local macro_rules|`(tactic|right)=>`(tactic|walk_at "lc")
local macro_rules|`(tactic|exists $ts,*)=>`(tactic|wp_walk using $ts,*)
noncomputable def wd(w:List Nat):Str:=⟨w.toArray⟩
theorem bw(w:List Nat):(wd w).length=w.length:=J8 ..
theorem xU{x:Str}{w:List Nat}(h:x.cps.toList=w):x=wd w:=by
 cases x with|mk a=>subst h;unfold wd;rw[Mm]
noncomputable def Hk:Sp:=λvs H Q _=>∃n:Nat,n<=40/\((vs=[.aR,.int (n:Int)]/\Q (.str (wd (List.replicate n 48))) H)\/∃w,vs=[.str (wd w),.int (n:Int)]/\w.length<=40/\Q (.str (wd (Cw.fP w n))) H)
theorem vS(T:Txt K mg)(F:HasFn K mg "word_behind" eM ["ahead","length"]):au P w K mg base aY 1 "word_behind" ["ahead","length"] Hk:=by
 refine F.eW kB (λvs H Q E h=>?_) (λf cdv A outer s H vs Q E hr h=>?_)
 ·obtain⟨n,hn,⟨rfl,_⟩|⟨_,rfl,_⟩⟩:=h<;>rfl
 ·have hu:=aP hr;obtain⟨n,hn,h⟩:=h;rcases h with ⟨rfl,q⟩|⟨v,rfl,hv,q⟩
  ·refine⟨_,(Z.ao (Z.dA (Z.aZ cZ (Z.v 0) Z.aR) (Z.aA (Z.ret (Z.op Y.sI Z.str (Z.v 1)))) Z.bH)
   (Z.aA (Z.ret (Z.bm K rfl PySem.F.plainAttrs_str PySem.F.slot_str_ljust PySem.F.type_str_ljust Y.qx (Z.op (Z.bf K rfl) (Z.slice Y.nH (Z.bm K rfl PySem.F.plainAttrs_str PySem.F.slot_str_rstrip PySem.F.type_str_rstrip Y.nh (Z.v 0) (Z.cons Z.str Z.nil)) Z.Aj (Z.uF (Z.un dC Z.int))) Z.str) (Z.cons (Z.v 1) (Z.cons Z.str Z.nil)))))),?_⟩
   refine ax λN hN=>?_;nofun;refine⟨48,_,rfl,rfl,by lia,by lia,?_⟩
   rw[Kb];exact q
  ·refine⟨_,(Z.ao (Z.dA (Z.aZ cZ (Z.v 0) Z.aR) (Z.aA (Z.ret (Z.op Y.sI Z.str (Z.v 1)))) Z.bH)
   (Z.aA (Z.ret (Z.bm K rfl PySem.F.plainAttrs_str PySem.F.slot_str_ljust PySem.F.type_str_ljust Y.qx (Z.op (Z.bf K rfl) (Z.slice Y.nH (Z.bm K rfl PySem.F.plainAttrs_str PySem.F.slot_str_rstrip PySem.F.type_str_rstrip Y.nh (Z.v 0) (Z.cons Z.str Z.nil)) Z.Aj (Z.uF (Z.un dC Z.int))) Z.str) (Z.cons (Z.v 1) (Z.cons Z.str Z.nil)))))),?_⟩
   refine ax λN hN=>?_;nofun;subst hN;nofun;rw[JA V.noConfusion];refine⟨rfl,wd v,_,rfl,rfl,by rw[bw];exact JF hv (by decide),?_⟩
   have e0:(Str.ofString "1").cps.contains=λc:Nat=>c == 49:=by
    funext c
    show (#[49]:Array Nat).contains c=_;rw[Array.contains_eq_any_beq];simp
   have e1:=qe (wd v) (Str.ofString "1");rw[e0] at e1;have e2:(Txt.rstripChars (wd v) (Str.ofString "1")).cps.toList=(v.reverse.dropWhile (· == 49)).reverse:=by
    rw[<- Mi (Txt.rstripChars (wd v) (Str.ofString "1")).cps.toList,e1];rfl
   generalize Txt.rstripChars (wd v) (Str.ofString "1")=r at e2 ⊢;have hr2:r.length<=40:=by
    have:r.length=r.cps.toList.length:=by rw[Km];rfl
    rw[this,e2,LF];exact JF (ML _).length_le (by rw[LF];exact hv)
   have e3:(Y.jC r none (some (-1))).cps.toList=r.cps.toList.dropLast:=by
    show (Y.wQ r.cps.toList none (some (-1))).toArray.toList=_;rw[Nm];unfold Y.wQ;rw[HT.dP,Lf,Nc,MW];congr 1;show (if (-1:Int)<0 then ((-1:Int)+(r.cps.toList.length:Int)).toNat else min (-1:Int).toNat r.cps.toList.length)=_
    rw[JE (by decide)]
    lia
   have hl3:(Y.jC r none (some (-1))).length<=40:=by
    have:(Y.jC r none (some (-1))).length=(Y.jC r none (some (-1))).cps.toList.length:=by rw[Km];rfl
    rw[this,e3,Mp,Km];exact JF (Nat.sub_le _ _) hr2
   refine⟨r,rfl,JF hr2 (by decide),?_⟩
   refine⟨JF (show _<=41 from Nat.add_le_add_right hl3 1) (by decide),rfl,_,(n:Int),_,rfl,rfl,by lia,by lia,rfl,?_⟩
   have e4:Txt.ljustF (Y.jC r none (some (-1))++Str.ofString "1") (n:Int) ((Str.ofString "0").cps.getD 0 0)=wd (Cw.fP v n):=by
    refine xU ?_;rw[PyProof.Rows.ljustF_list,Kb];have e5:(Y.jC r none (some (-1))++Str.ofString "1").cps.toList=(v.reverse.dropWhile (· == 49)).reverse.dropLast++[49]:=by
     show ((Y.jC r none (some (-1))).cps++#[49]).toList=_;rw[LG,e3,e2]
    have e6:(Y.jC r none (some (-1))++Str.ofString "1").length=((v.reverse.dropWhile (· == 49)).reverse.dropLast++[49]).length:=by
     rw[<- e5,Km];rfl
    rw[e5,e6];rfl
   rw[e4];exact q
theorem AF:Str.ofString ""=wd []:=rfl
theorem vz(z y:List Nat)(p:Nat)(hy:y≠[]):Y.kl (wd z) (wd y) (p:Int)=decide (y <+: z.drop p):=by
 have hl:0<y.length:=Nn.mpr hy;unfold Y.kl;have e0:fromIndex (wd z).length (p:Int)=p:=by unfold fromIndex;rw[JA (by lia)];lia
 rw[e0];have e:Builtin.Str.subAt (wd z) (wd y) p=decide ((z.drop p).take y.length=y):=by
  unfold Builtin.Str.subAt wd;rw[LL,Me,LZ,<- Array.toList_inj,Array.toList_extract,List.extract_eq_take_drop];rw[show (⟨y.toArray⟩:Str).length=y.length from J8 ..];simp
 rw[e,LL,K4,LZ,LZ,LZ,List.prefix_iff_eq_take,bw,bw];refine⟨λh=>h.2.symm,λh=>⟨?_,h.symm⟩⟩;have:=Kt List.length h;rw[JT,Ks] at this;lia
noncomputable def xP(ws:List (List Nat))(z:List Nat)(p:Nat):Option Nat:=(List.range ws.length).find? λi=>decide (ws.getD i [] <+: z.drop p)
theorem lF{ws:List (List Nat)}(h:xP ws z p=some t):t<ws.length/\ws.getD t [] <+: z.drop p:=by
 have h1:=NH h;have h2:=List.find?_some h;exact⟨KJ.mp h1,K6 h2⟩
theorem zp{ws:List (List Nat)}(h:xP ws z p=none)(ht:t<ws.length):¬ ws.getD t [] <+: z.drop p:=λhp=>by
 have:=List.find?_eq_none.mp h t (KJ.mpr ht);exact this (Kc hp)
structure Pf (ws:List (List Nat)):Prop where
 ne:∀w∈ws,w≠[]
 pre:∀(i j:Nat) (hi:i<ws.length) (hj:j<ws.length),i≠j->¬ ws[i] <+: ws[j]
theorem Pf.th{ws:List (List Nat)}(h:Pf ws)(ht:t<ws.length)(hp:ws.getD t [] <+: z.drop p):xP ws z p=some t:=by
 cases c:xP ws z p with
 |none=>exact absurd hp (zp c ht)
 |some i =>
  obtain⟨hi,hpi⟩:=lF c;by_cases e:i=t
  ·rw[e]
  ·have g:∀{k:Nat} (hk:k<ws.length),ws.getD k []=ws[k]:=λhk=>by rw[JI,Jx hk];rfl
   rw[g hi] at hpi;rw[g ht] at hp;rcases List.prefix_or_prefix_of_prefix hpi hp with q|q
   ·exact absurd q (h.pre i t hi ht e)
   ·exact absurd q (h.pre t i ht hi (KP e))
theorem vi{ws:List (List Nat)}(n:Nat)(h:n<ws.length):(List.range' n (ws.length-n)).find? (λi=>decide (ws.getD i [] <+: z.drop p))=if ws[n] <+: z.drop p then some n else (List.range' (n+1) (ws.length-(n+1))).find? λi=>decide (ws.getD i [] <+: z.drop p):=by
 rw[show ws.length-n=(ws.length-(n+1))+1 by lia,Ld,Ln]
 rw[JI,Jx h];show (match decide (ws[n] <+: z.drop p) with|true=>some n|false=>_)=_
 by_cases c:ws[n] <+: z.drop p
 ·rw[Kc c,JE c]
 ·rw[Ke c,JA c]
noncomputable def wV(ws:List (List Nat)):List V:=ws.map λw=>.str (wd w)
noncomputable def wJ:Option Nat->V
 |none=>.aR
 |some t=>.int (t:Int)
noncomputable def uq(K:W.Frag):Sp:=λvs H Q _=>∃(a:Addr) (ws:List (List Nat)) (z:List Nat) (p:Nat),vs=[.ref a,.str (wd z),.int (p:Nat)]/\bz K H a (wV ws)/\(∀w∈ws,w≠[])/\ws.length<=100/\z.length<=1000000/\∀H',KB [] H H'->Q (wJ (xP ws z p)) H'
theorem yk(T:Txt K mg)(F:HasFn K mg "thing_at" hZ ["code","bits","place"]):au P w K mg base aY 1 "thing_at" ["code","bits","place"] (uq K):=by
 refine F.eW gB (λvs H Q E h=>?_) (λf cdv A outer s H vs Q E hr h=>?_)
 ·obtain⟨a,ws,z,p,rfl,_⟩:=h;rfl
 ·have hu:=aP hr;obtain⟨a,ws,z,p,rfl,ha,hne,h100,hz,q⟩:=h;refine⟨_,(Z.ao (Z.lg Kl rfl (Z.enum K rfl rfl T.d7 (Z.cons (Z.v 0) Z.nil)) (Z.ll (n:=2) K rfl rfl (Z.bG (Z.aT (i:=3) gB.nd rfl (by right)) (Z.bG (Z.aT (i:=4) gB.nd rfl (by right)) Z.gh))) (Z.aA (Z.dA (Z.tw (Z.vn (Z.aZ zm (Z.v 4) Z.str) (Z.mV (Z.uZ K rfl (Z.bm K rfl PySem.F.plainAttrs_str PySem.F.slot_str_startswith PySem.F.type_str_startswith Y.sy (Z.v 1) (Z.cons (Z.v 4) (Z.cons (Z.v 2) Z.nil))))))) (Z.aA (Z.ret (Z.v 3))) Z.bH)))
   (Z.aA (Z.ret Z.aR))),?_⟩
  refine ax λN hN=>?_;nofun;refine⟨⟨_,ha⟩,?_⟩;refine k_ (xs:=wV ws) (λi σ H'=>KB [] H H'/\i<=ws.length/\(List.range' i (ws.length-i)).find? (λi=>decide (ws.getD i [] <+: z.drop p))=xP ws z p/\∃(s3 s4:Option V),σ=[some (.ref a),some (.str (wd z)),some (.int (p:Nat)),s3,s4]) ⟨KB.refl _ _,JL _,by unfold xP;rw[Nf];rfl,none,none,rfl⟩ ?_ ?_ ?_
  ·rintro i σ H' hi ⟨k,_⟩;exact IZ ha k
  ·rintro i x σ H' b hx ⟨k,hi,ef,s3,s4,rfl⟩ hb;have hlt:i<ws.length:=by
    have:=(J6.mp hx).1;unfold wV at this;rw[Jz] at this;exact this
   have ex:x=.str (wd ws[i]):=by
    unfold wV at hx;rw[JC,Jx hlt] at hx;exact (Option.some.inj hx).symm
   subst ex;refine⟨b,_,rfl,bz.of ae,rfl,?_⟩;have k1:KB [] H (upd H' b (.tup [.int i,.str (wd ws[i])])):=k.trans (KB.new hb);generalize upd H' b (.tup [.int i,.str (wd ws[i])])=H1 at k1;have h0:ws[i]≠[]:=hne _ (JN hlt);have hne':¬ wd ws[i]=Str.ofString "":=λe=>h0 (by rw[AF] at e;exact Kt (λs:Str=>s.cps.toList) e)
   rw[vi i hlt] at ef;nofun;rw[JE hne'];refine⟨rfl,_,_,_,rfl,rfl,_,rfl,?_⟩;rw[vz z ws[i] p h0];by_cases c:ws[i] <+: z.drop p
   ·rw[JE c] at ef;rw[<- ef] at q;rw[JE (Kc c)];exact q _ k1
   ·rw[JA c] at ef;rw[JA (by rw[Ke c];exact JO)]
    exact⟨k1,hlt,ef,_,_,rfl,rfl⟩
  ·rintro σ H' ⟨k,_,ef,s3,s4,rfl⟩;have e:(wV ws).length=ws.length:=Jz ..;rw[e,Lo] at ef;have ef':xP ws z p=none:=ef.symm;rw[ef'] at q;show N _ _;subst hN;nofun;exact q _ k
noncomputable def jH(ws:List (List Nat))(z:List Nat)(p:Nat):Option (Nat×Nat):=(xP ws z p).map λt=>(t,p+(ws.getD t []).length)
theorem eK{ws:List (List Nat)}{x:Nat×Nat}(hne:∀w∈ws,w≠[])(h:jH ws z p=some x):x.1<ws.length/\x.2=p+(ws.getD x.1 []).length/\p<x.2/\x.2<=z.length:=by
 unfold jH at h
 cases c:xP ws z p with
 |none=>rw[c] at h;cases h
 |some t =>
  rw[c] at h;cases h;obtain⟨h1,h2⟩:=lF c;have h3:=h2.length_le;rw[Ks] at h3;have h4:ws.getD t []≠[]:=by rw[JI,Jx h1];exact hne _ (JN h1)
  have h5:=Nn.mpr h4;exact⟨h1,rfl,by show p<p+_;lia,by show p+_<=_;lia⟩
noncomputable def Jb(H:Hp)(v:V):Option (Nat×Nat)->Prop
 |none=>v=.aR
 |some x=>∃t,v=.ref t/\H t=some (.tup [.int (x.1:Nat),.int (x.2:Nat)])
noncomputable def iG(K:W.Frag):Sp:=λvs H Q _=>∃(a:Addr) (ws:List (List Nat)) (z:List Nat) (p:Nat),vs=[.ref a,.str (wd z),.int (p:Nat)]/\bz K H a (wV ws)/\(∀w∈ws,w≠[])/\ws.length<=100/\z.length<=1000000/\∀v H',KB [] H H'->Jb H' v (jH ws z p)->Q v H'
theorem y9(T:Txt K mg)(F:HasFn K mg "coded_at" ig ["code","bits","place"])(hthing_at:au P w K mg base aY 1 "thing_at" ["code","bits","place"] (uq K)):au P w K mg base aY 2 "coded_at" ["code","bits","place"] (iG K):=by
 refine F.eW j3 (λvs H Q E h=>?_) (λf cdv A outer s H vs Q E hr h=>?_)
 ·obtain⟨a,ws,z,p,rfl,_⟩:=h;rfl
 ·have hu:=aP hr;obtain⟨a,ws,z,p,rfl,ha,hne,h100,hz,q⟩:=h;refine⟨_,(Z.ao (Z.se (i:=3) j3.nd (Z.fc hthing_at (Z.cons (Z.v 0) (Z.cons (Z.v 1) (Z.cons (Z.v 2) Z.nil)))))
   (Z.aA (Z.ret (Z.Bf (Z.aZ cZ (Z.v 3) Z.aR) Z.aR (Z.tup (Z.cons (Z.v 3) (Z.cons (Z.op (Z.bf K rfl) (Z.v 2) (Z.cb (Z.cJ K rfl) rfl T.cy (by decide +kernel) (Z.cons (Z.ix (Z.gZ K rfl) (Z.v 0) (Z.v 3)) Z.nil))) Z.nil))))))),?_⟩
  refine ax λN hN=>?_;nofun;refine⟨a,ws,z,p,rfl,ha,hne,h100,hz,λH1 k1=>?_⟩;subst hN;have ha1:=IZ ha k1;unfold jH at q
  cases c:xP ws z p with
  |none =>
   rw[c] at q;unfold wJ;nofun;exact q _ _ k1 rfl
  |some t =>
   rw[c] at q;obtain⟨h1,h2⟩:=lF c;unfold wJ;nofun;rw[JA V.noConfusion];have h3:=h2.length_le;rw[Ks] at h3;refine⟨a,wV ws,_,.str (wd (ws.getD t [])),rfl,rfl,ha1,bq (by unfold wV;rw[JC,JI,Jx h1];rfl),?_⟩
   nofun;rw[bw];refine⟨JF (show _<=1000000 by lia) (by decide),by decide,λb hb=>q _ _ (k1.trans (KB.new hb)) ⟨b,rfl,?_⟩⟩
   rw[ae];rfl
noncomputable def dH(z:List Nat):Prop:=∀c∈z,c=48\/c=49
theorem dH.cut(h:dH z)(a n:Nat):dH ((z.drop a).take n):=λc hc=>h c (List.mem_of_mem_drop (List.mem_of_mem_take hc))
theorem uQ(z:List Nat)(a b:Nat)(h1:a<=b)(h2:b<=z.length):Y.jC (wd z) (some (a:Int)) (some (b:Int))=wd ((z.drop a).take (b-a)):=by
 unfold Y.jC wd;congr 2;show Y.wQ z (some (a:Int)) (some (b:Int))=_;unfold Y.wQ;rw[HT.eE,HT.eE,Nh h2,Nh (JF h1 h2)]
noncomputable def wW(ws:List (List Nat))(z:List Nat)(p:Nat):Option (Nat×Nat):=match jH ws z p with
 |none=>none
 |some x=>if x.1=0 then some x else if x.2+(x.1-1)<=z.length then some (kP (49::(z.drop x.2).take (x.1-1)),x.2+(x.1-1)) else none
theorem Br(c:Nat)(w:List Nat):wd [c]++wd w=wd (c::w):=xU (by
 show (#[c]++w.toArray).toList=_;rw[LG];rfl)
noncomputable def uL(K:W.Frag):Sp:=λvs H Q _=>∃(a:Addr) (ws:List (List Nat)) (z:List Nat) (p:Nat),vs=[.ref a,.str (wd z),.int (p:Nat)]/\bz K H a (wV ws)/\(∀w∈ws,w≠[])/\ws.length<=20/\dH z/\z.length<=1000000/\∀v H',KB [] H H'->Jb H' v (wW ws z p)->Q v H'
theorem xv(T:Txt K mg)(F:HasFn K mg "number_at" fY ["code","bits","place"])(hcoded_at:au P w K mg base aY 2 "coded_at" ["code","bits","place"] (iG K)):au P w K mg base aY 3 "number_at" ["code","bits","place"] (uL K):=by
 refine F.eW fD (λvs H Q E h=>?_) (λf cdv A outer s H vs Q E hr h=>?_)
 ·obtain⟨a,ws,z,p,rfl,_⟩:=h;rfl
 ·have hu:=aP hr;obtain⟨a,ws,z,p,rfl,ha,hne,h20,hb,hz,q⟩:=h;refine⟨_,(Z.ao (Z.se (i:=3) fD.nd (Z.fc hcoded_at (Z.cons (Z.v 0) (Z.cons (Z.v 1) (Z.cons (Z.v 2) Z.nil)))))
   (Z.ao (Z.dA (Z.tw (Z.Ja (Z.aZ cZ (Z.v 3) Z.aR) (Z.HR (Z.aZ bC (Z.ix (Z.aM K rfl hu) (Z.v 3) Z.int) Z.int)))) (Z.aA (Z.ret (Z.v 3))) Z.bH)
   (Z.ao (Z.se (i:=4) fD.nd (Z.op cK (Z.op (Z.bf K rfl) (Z.ix (Z.aM K rfl hu) (Z.v 3) Z.int) (Z.ix (Z.aM K rfl hu) (Z.v 3) Z.int)) Z.int))
   (Z.ao (Z.dA (Z.aZ um (Z.v 4) (Z.cb (Z.cJ K rfl) rfl T.cy (by decide +kernel) (Z.cons (Z.v 1) Z.nil))) (Z.aA (Z.ret Z.aR)) Z.bH)
   (Z.aA (Z.ret (Z.tup (Z.cons (Z.ct m6 rfl T.pN (by decide +kernel) (Z.cons (Z.op (Z.bf K rfl) Z.str (Z.slice Y.nH (Z.v 1) (Z.uF (Z.ix (Z.aM K rfl hu) (Z.v 3) Z.int)) (Z.uF (Z.v 4)))) (Z.cons Z.int Z.nil))) (Z.cons (Z.v 4) Z.nil))))))))),?_⟩
  refine ax λN hN=>?_;nofun;refine⟨a,ws,z,p,rfl,ha,hne,by lia,hz,λv H1 k1 o1=>?_⟩
  subst hN;refine ax λN hN=>?_;unfold wW at q
  cases c:jH ws z p with
  |none =>
   rw[c] at q o1;obtain rfl:v=.aR:=o1;nofun;exact q _ _ k1 rfl
  |some x =>
   rw[c] at q o1;obtain⟨t,e⟩:=x;obtain⟨h1,_,h3,h4⟩:=eK hne c;obtain⟨b,rfl,hb1⟩:=o1;dsimp only at q h1 h3 h4 hb1;have sb:=aC hb1;have ne:¬ V.ref b=V.aR:=V.noConfusion;have a0:bV [V.int (t:Int),V.int (e:Int)] 0=some (.int (t:Int)):=rfl;have a1:bV [V.int (t:Int),V.int (e:Int)] 1=some (.int (e:Int)):=rfl;nofun;simp only[sb,a0,a1,if_neg ne];nofun;by_cases c0:t=0
   ·subst c0;rw[JE rfl] at q;rw[JE (by rfl)]
    exact q _ _ k1 ⟨b,rfl,hb1⟩
   ·rw[JA c0] at q;have ci:¬ ((t:Nat):Int)=0:=by lia
    rw[JA ci,hN];clear hN N;refine ax λN hN=>?_;nofun;simp only[sb,a0,a1];nofun;have eb:(e:Int)+(t:Int)-1=((e+(t-1):Nat):Int):=by lia
    rw[eb,hN];clear hN N;refine ax λN hN=>?_;nofun;refine⟨by rw[bw];exact JF hz (by decide),?_⟩
    rw[bw];by_cases cl:e+(t-1)<=z.length
    ·rw[JE cl] at q;rw[JA (by lia),hN];clear hN N
     nofun;simp only[sb,a0,a1];have hb2:=hb.cut e (t-1);have hll:((z.drop e).take (t-1)).length<=20:=by rw[JT];lia
     have hcl:(49::(z.drop e).take (t-1)).length<=21:=by rw[JK];lia
     refine⟨(e:Int),rfl,wd z,rfl,by rw[bw];exact JF hz (by decide),?_⟩
     rw[uQ z _ _ (by lia) cl,NV,show Str.ofString "1"=wd [49] from by decide +kernel]
     show _/\CU [.str (wd [49]++wd ((z.drop e).take (t-1))),.int 2] H1 _;rw[Br,bw,bw];refine⟨JF (show _<=21 by rw[Mb];lia) (by decide),_,rfl,by rw[bw];exact JF hcl (by decide),λc hc=>?_,by simp[wd],by decide,λb2 hb2'=>?_⟩
     ·rcases J9.mp (show c∈49::(z.drop e).take (t-1) from hc) with rfl|hc
      ·exact .inr rfl
      ·exact hb2 c hc
     ·exact q _ _ (k1.trans (KB.new hb2')) ⟨b2,rfl,by rw[ae];rfl⟩
    ·rw[JA cl] at q;rw[JE (by lia)]
     exact q _ _ k1 rfl
noncomputable def dj:Nat->List Nat
 |0=>[48]
 |1=>[49,48]
 |_=>[49,49]
noncomputable def bE:Nat->Nat
 |0=>4
 |1=>8
 |_=>16
noncomputable def cL(k:Nat):Int:=if k=0 then 8 else if k=1 then 128 else 32768
noncomputable def uR:List (List Nat):=[dj 0,dj 1,dj 2]
theorem mh{k:Nat}(h:k<3):k=0\/k=1\/k=2:=by lia
theorem nE:∀w∈uR,w≠[]:=by decide
theorem xi{k:Nat}(h:k<3):uR.getD k []=dj k:=by rcases mh h with rfl|rfl|rfl<;>rfl
noncomputable def Bx(k n:Nat):Int:=if cL k<=(n:Int) then (n:Int)-2*cL k else (n:Int)
noncomputable def gA(z:List Nat)(p:Nat):Option (Int×Nat):=match jH uR z p with
 |none=>none
 |some x=>if x.2+bE x.1<=z.length then some (Bx x.1 (kP ((z.drop x.2).take (bE x.1))),x.2+bE x.1) else none
theorem HP:[V.str (Str.ofString "0"),.str (Str.ofString "10"),.str (Str.ofString "11")]=wV uR:=by
 rw[show Str.ofString "0"=wd [48] from by decide +kernel,show Str.ofString "10"=wd [49,48] from by decide +kernel,show Str.ofString "11"=wd [49,49] from by decide +kernel]
 rfl
noncomputable def Jm(H:Hp)(v:V):Option (Int×Nat)->Prop
 |none=>v=.aR
 |some x=>∃t,v=.ref t/\H t=some (.tup [.int ((x.2:Int)+x.1),.int (x.2:Nat)])
noncomputable def pT(K:W.Frag):Sp:=λvs H Q _=>∃(z:List Nat) (p:Nat),vs=[.str (wd z),.int (p:Nat)]/\dH z/\z.length<=1000000/\∀v H',KB [] H H'->Jm H' v (gA z p)->Q v H'
theorem wc(T:Txt K mg)(F:HasFn K mg "goal_at" jo ["bits","place"])(hcoded_at:au P w K mg base aY 2 "coded_at" ["code","bits","place"] (iG K)):au P w K mg base aY 3 "goal_at" ["bits","place"] (pT K):=by
 refine F.eW dk (λvs H Q E h=>?_) (λf cdv A outer s H vs Q E hr h=>?_)
 ·obtain⟨z,p,rfl,_⟩:=h;rfl
 ·have hu:=aP hr;obtain⟨z,p,rfl,hb,hz,q⟩:=h;obtain⟨aE,hg_HEADS,sE⟩:=T.oF;obtain⟨aW,hg_WIDTHS,sW⟩:=T.kQ;obtain⟨aV,hg_HALVES,sV⟩:=T.pK;have hr_HEADS:RelV (.ref aE) (.ref aE):=rfl;have hr_WIDTHS:RelV (.ref aW) (.ref aW):=rfl;have hr_HALVES:RelV (.ref aV) (.ref aV):=rfl;refine⟨_,(Z.ao (Z.se (i:=2) dk.nd (Z.fc hcoded_at (Z.cons (Z.glob rfl hg_HEADS hr_HEADS) (Z.cons (Z.v 0) (Z.cons (Z.v 1) Z.nil)))))
   (Z.ao (Z.dA (Z.aZ cZ (Z.v 2) Z.aR) (Z.aA (Z.ret Z.aR)) Z.bH)
   (Z.ao (Z.se (i:=3) dk.nd (Z.ix (Z.aM K rfl hu) (Z.v 2) Z.int))
   (Z.ao (Z.se (i:=4) dk.nd (Z.op (Z.bf K rfl) (Z.ix (Z.aM K rfl hu) (Z.v 2) Z.int) (Z.ix (Z.gZ K rfl) (Z.glob rfl hg_WIDTHS hr_WIDTHS) (Z.v 3))))
   (Z.ao (Z.dA (Z.aZ um (Z.v 4) (Z.cb (Z.cJ K rfl) rfl T.cy (by decide +kernel) (Z.cons (Z.v 0) Z.nil))) (Z.aA (Z.ret Z.aR)) Z.bH)
   (Z.ao (Z.se (i:=5) dk.nd (Z.ct m6 rfl T.pN (by decide +kernel) (Z.cons (Z.slice Y.nH (Z.v 0) (Z.uF (Z.ix (Z.aM K rfl hu) (Z.v 2) Z.int)) (Z.uF (Z.v 4))) (Z.cons Z.int Z.nil))))
   (Z.ao (Z.dA (Z.aZ p9 (Z.v 5) (Z.ix (Z.gZ K rfl) (Z.glob rfl hg_HALVES hr_HALVES) (Z.v 3))) (Z.aA (Z.se (i:=5) dk.nd (Z.op cK (Z.v 5) (Z.op fI Z.int (Z.ix (Z.gZ K rfl) (Z.glob rfl hg_HALVES hr_HALVES) (Z.v 3)))))) Z.bH)
   (Z.aA (Z.ret (Z.tup (Z.cons (Z.op (Z.bf K rfl) (Z.v 4) (Z.v 5)) (Z.cons (Z.v 4) Z.nil)))))))))))),?_⟩
  refine ax λN hN=>?_;nofun;refine⟨aE,uR,z,p,rfl,by rw[<- HP];exact sE H,nE,by decide,hz,λv H1 k1 o1=>?_⟩
  subst hN;refine ax λN hN=>?_;unfold gA at q
  cases c:jH uR z p with
  |none =>
   rw[c] at q o1;obtain rfl:v=.aR:=o1;nofun;exact q _ _ k1 rfl
  |some x =>
   rw[c] at q o1;obtain⟨k,e⟩:=x;obtain⟨h1,_,h3,h4⟩:=eK nE c;obtain⟨b,rfl,hb1⟩:=o1;dsimp only at q h1 h3 h4 hb1;have hk:k<3:=h1;have sb:=aC hb1;have ne:¬ V.ref b=V.aR:=V.noConfusion;have a0:bV [V.int (k:Int),V.int (e:Int)] 0=some (.int (k:Int)):=rfl;have a1:bV [V.int (k:Int),V.int (e:Int)] 1=some (.int (e:Int)):=rfl;nofun;rw[if_neg ne,hN];clear hN N;refine ax λN hN=>?_;nofun;simp only[sb,a0,a1];subst hN;refine ax λN hN=>?_;nofun;simp only[sb,a0,a1];have aw:bV [V.int 4,.int 8,.int 16] (k:Int)=some (.int (bE k:Nat)):=by rcases mh hk with rfl|rfl|rfl<;>rfl
   have ah:bV [V.int 8,.int 128,.int 32768] (k:Int)=some (.int (cL k)):=by rcases mh hk with rfl|rfl|rfl<;>rfl
   have h16:bE k<=16/\0<bE k:=by rcases mh hk with rfl|rfl|rfl<;>decide
   refine⟨aW,_,_,_,rfl,rfl,sW H1,aw,?_⟩;show N [_,_,_,_,some (V.int ((e:Int)+(bE k:Nat))),none] H1;rw[show (e:Int)+(bE k:Nat)=((e+bE k:Nat):Int) by lia,hN];clear hN N
   refine ax λN hN=>?_;nofun;refine⟨by rw[bw];exact JF hz (by decide),?_⟩
   rw[bw];by_cases cl:e+bE k<=z.length
   ·rw[JE cl] at q;rw[JA (by lia),hN];clear hN N
    refine ax λN hN=>?_;nofun;simp only[sb,a0,a1];have hb2:=hb.cut e (bE k);have hl2:((z.drop e).take (bE k)).length=bE k:=by rw[JT,Ks];lia
    refine⟨(e:Int),rfl,wd z,rfl,by rw[bw];exact JF hz (by decide),?_⟩
    rw[uQ z _ _ (by lia) cl,NV]
    refine⟨_,rfl,by rw[bw,hl2];lia,hb2,λe0=>by have e1:(z.drop e).take (bE k)=[]:=e0;rw[e1] at hl2;simp at hl2;lia,?_⟩
    rw[show (wd ((z.drop e).take (bE k))).cps.toList=(z.drop e).take (bE k) from rfl];generalize kP ((z.drop e).take (bE k))=n at *;unfold Bx at q;show N _ _;subst hN;refine ax λN hN=>?_;nofun;refine⟨aV,_,_,_,rfl,rfl,sV H1,ah,_,_,rfl,rfl,_,rfl,?_⟩;have fin:∀d:Int,d=(if cL k<=(n:Int) then (n:Int)-2*cL k else (n:Int))->N [some (.str (wd z)),some (.int (p:Nat)),some (.ref b),some (.int (k:Nat)),some (.int ((e+bE k:Nat):Int)),some (.int d)] H1:=λd ed=>by
     subst hN;nofun;refine⟨by decide,λb2 hb2'=>q _ _ (k1.trans (KB.new hb2')) ⟨b2,rfl,?_⟩⟩
     rw[ae,ed]
    by_cases ch:cL k<=(n:Int)
    ·rw[JE (Kc ch)];refine⟨aV,_,_,_,rfl,rfl,sV H1,ah,?_⟩;exact⟨.inl (by decide),_,_,rfl,rfl,fin _ (by rw[JE ch])⟩
    ·rw[JA (by rw[Ke ch];exact JO)]
     exact fin _ (by rw[JA ch])
   ·rw[JA cl] at q;rw[JE (by lia)]
    exact q _ _ k1 rfl
theorem nA(u:_root_.Fin 2):u=0\/u=1:=by revert u;decide
theorem Fj(u:_root_.Fin 3):u=0\/u=1\/u=2:=by revert u;decide
theorem DY{b:Nat}(h:b<8):b=0\/b=1\/b=2\/b=3\/b=4\/b=5\/b=6\/b=7:=by lia
theorem HH{l:List α}(h:l.length=8):∃a b c d e f g i,l=[a,b,c,d,e,f,g,i]:=by
 rcases l with _|⟨a,_|⟨b,_|⟨c,_|⟨d,_|⟨e,_|⟨f,_|⟨g,_|⟨i,_|⟨j,l⟩⟩⟩⟩⟩⟩⟩⟩⟩<;>first|exact⟨_,_,_,_,_,_,_,_,rfl⟩ | (exfalso;revert h;simp)
inductive Row where
 |put (b n:Nat)|two (w:Fin 3) (a b:Nat)|one (w:Fin 2) (b:Nat)|jump (g:Nat)|zero (b g:Nat)|halt
 deriving DecidableEq
noncomputable def cx(i:Nat):Str:=⟨#[97+i]⟩
noncomputable def w2:Fin 3->Str
 |0=>"add"
 |1=>"sub"
 |2=>"copy"
noncomputable def w1:Fin 2->Str
 |0=>"tell"
 |1=>"hear"
inductive Ar where
 |s (z:Str)|n (k:Nat)
noncomputable def Row.ps:Row->List Ar
 |.put b n=>[.s "put",.s (cx b),.n n]
 |.two w a b=>[.s (w2 w),.s (cx a),.s (cx b)]
 |.one w b=>[.s (w1 w),.s (cx b)]
 |.jump g=>[.s "jump",.n g]
 |.zero b g=>[.s "zero",.s (cx b),.n g]
 |.halt=>[.s "halt"]
noncomputable def Row.Ok(size:Nat):Row->Prop
 |.put b n=>b<8/\n<65536
 |.two _ a b=>a<8/\b<8
 |.one _ b=>b<8
 |.jump g=>g<=size
 |.zero b g=>b<8/\g<=size
 |.halt=>True
theorem Row.Ok.mono{a b:Nat}{r:Row}(h:r.Ok a)(hm:a<=b):r.Ok b:=by
 cases r<;>simp only[Row.Ok] at h ⊢<;>lia
theorem DB{k:Int}(h0:0<=k)(h1:k<8):bV (Str.ofString "abcdefgh").cps.toList k=some (97+k.toNat):=by
 have e:(Str.ofString "abcdefgh").cps.toList=[97,98,99,100,101,102,103,104]:=by decide +kernel
 rw[e];obtain⟨n,rfl⟩:∃n:Nat,k=n:=⟨k.toNat,by lia⟩
 unfold bV kK;have hn:n<8:=by lia
 rw[JE (by lia),JE (by simp;lia)]
 show [97,98,99,100,101,102,103,104][((n:Nat):Int).toNat]?=some (97+((n:Nat):Int).toNat);rw[Kb];rcases DY hn with rfl|rfl|rfl|rfl|rfl|rfl|rfl|rfl<;>rfl
noncomputable def bo(ls:List Int)(t:Nat):Nat:=(ls.getD t 0).toNat
noncomputable def b7(ls:List Int):List Nat:=jN ls (List.range ls.length)
noncomputable def wordsOf(nx:List Nat->Nat->List Nat)(ls:List Int):List (List Nat):=(Cw.along nx (bo ls) (b7 ls) (none,List.replicate ls.length [])).2
noncomputable def fz(ls:List Int)(done:List Nat):Option (List Nat)×List (List Nat):=Cw.along Cw.fP (bo ls) done (none,List.replicate ls.length [])
theorem tF{v:List Nat}{n:Nat}(hv:v.length<=40)(hn:n<=40):(Cw.fP v n).length<=40:=by
 have h1:((v.reverse.dropWhile (· == 49)).reverse.dropLast).length<=39:=by
  rw[Mp,LF];have:=(ML (· == 49) (l:=v.reverse)).length_le;rw[LF] at this;lia
 unfold Cw.fP Cw.pad;rw[J5,JS,J5,Mb];lia
theorem jI(h:t∈b7 ls):t<ls.length:=KJ.mp ((jZ (by rw[Ky])).mem_iff.mp h)
theorem EB(ls:List Int)(done:List Nat):(fz ls done).2.length=ls.length:=by
 unfold fz;rw[Cw.gK,JS]
namespace Cw
noncomputable def Dv(a b:List Nat):Prop:=∃u,u++[48] <+: a/\u++[49] <+: b
theorem oT{u v:List Nat}{c d:Nat}(h1:u++[c] <+: b)(h2:v++[d] <+: b)(hl:u.length<v.length):u++[c] <+: v:=by
 have h3:v <+: b:=(LQ v [d]).trans h2;exact LH h1 h3 (by rw[J5];exact hl)
theorem Dv.trans{a c:List Nat}(h:Dv a b)(g:Dv b c):Dv a c:=by
 obtain⟨u,h1,h2⟩:=h;obtain⟨v,g1,g2⟩:=g;rcases NB u.length v.length with e|e|e
 ·exact⟨u,h1,(oT h2 g1 e).trans ((LQ v [49]).trans g2)⟩
 ·have p1:(u++[49]).length=(v++[48]).length:=by rw[J5,J5,e];rfl
  have p2:u++[49]=v++[48]:=(LH h2 g1 (by lia)).eq_of_length p1
  have p3:[49]=[48]:=(List.append_inj' p2 rfl).2;exact absurd p3 (by decide)
 ·exact⟨v,(oT g1 h2 e).trans ((LQ u [48]).trans h1),g2⟩
theorem Dv.not{a:List Nat}(h:Dv a b):¬ a <+: b/\¬ b <+: a:=by
 obtain⟨u,h1,h2⟩:=h;have key:∀c,u++[48] <+: c->u++[49] <+: c->False:=λc p q=>by
  have e:u++[48]=u++[49]:=(LH p q (by simp)).eq_of_length (by simp)
  exact absurd (List.append_cancel_left e) (by decide)
 exact⟨λp=>key b (h1.trans p) h2,λp=>key a h1 (h2.trans p)⟩
theorem Dv.lt{a:List Nat}(h:Dv a b):a<b:=by
 obtain⟨u,⟨x,rfl⟩,⟨y,rfl⟩⟩:=h
 induction u with
 |nil=>exact List.Lex.rel (by decide)
 |cons c u ih=>exact List.Lex.cons ih
theorem AK{w:List Nat}{n:Nat}(hb:∀c∈w,c=48\/c=49)(h:w.all (· == 49)=false):Dv w (i8 w n):=by
 obtain⟨p,k,rfl⟩:=parts hb h;unfold i8 pad;rw[gH];exact⟨p,⟨List.replicate k 49,by simp⟩,⟨List.replicate k 48++List.replicate (n-(p++49::List.replicate k 48).length) 48,by simp⟩⟩
noncomputable def nW(ln:Nat->Nat)(a:Option (List Nat))(t:Nat):List Nat:=match a with
 |none=>List.replicate (ln t) 48
 |some v=>fP v (ln t)
noncomputable def ki(ln:Nat->Nat):Option (List Nat)->List Nat->List (List Nat)
 |_,[]=>[]
 |a,t::r=>nW ln a t::ki ln (some (nW ln a t)) r
theorem zU:∀(order done:List Nat) (a:Option (List Nat)),(order.Pairwise λi j=>ln i<=ln j)->(∀t∈order,ln t<=40)->(∀v,a=some v->iY done v/\∀t∈order,v.length<=ln t)->(a=none->done=[])->Kr.ks 40 (done++order.map ln)<=2^40 ->
  (∀v,a=some v->∀x∈ki ln a order,Dv v x)/\(ki ln a order).Pairwise Dv/\∀(i t:Nat),order[i]?=some t->∃w,(ki ln a order)[i]?=some w/\w.length=ln t
 |[],_,_,_,_,_,_,_=>⟨λ_ _ x hx=>(by cases hx),List.Pairwise.nil,λi t e=>(by cases e)⟩
 |t::r,done,a,hp,h40,ha,hn,hk=>by
  obtain⟨p1,p2⟩:=Kk.mp hp;have ht:=h40 t JH;have hk':Kr.ks 40 ((done++[ln t])++r.map ln)<=2^40:=by rw[JU];exact hk
  have fin:∀w:List Nat,w=nW ln a t->iY (done++[ln t]) w->w.length=ln t->(∀v,a=some v->Dv v w) ->
    (∀v,a=some v->∀x∈ki ln a (t::r),Dv v x)/\(ki ln a (t::r)).Pairwise Dv/\∀(i s:Nat),(t::r)[i]?=some s->∃w,(ki ln a (t::r))[i]?=some w/\w.length=ln s:=λw ew hH hl hd=>by
   obtain⟨q1,q2,q3⟩:=zU r (done++[ln t]) (some w) p2 (λx hx=>h40 x (JG _ hx)) (λv e=>by cases e;exact⟨hH,λx hx=>by rw[hl];exact p1 x hx⟩) (λe=>by cases e) hk'
   have es:ki ln a (t::r)=w::ki ln (some w) r:=by rw[ew];rfl
   rw[es];refine⟨λv e x hx=>?_,Kk.mpr ⟨λx hx=>q1 w rfl x hx,q2⟩,λi s e=>?_⟩
   ·rcases J9.mp hx with rfl|hx
    ·exact hd v e
    ·exact (hd v e).trans (q1 w rfl x hx)
   ·cases i with
    |zero=>cases e;exact⟨w,rfl,hl⟩
    |succ i=>exact q3 i s (by simpa using e)
  cases a with
  |none =>
   have:=hn rfl;subst this;exact fin _ rfl (iY.first ht) (show (List.replicate (ln t) 48).length=ln t by rw[JS]) (λv e=>by cases e)
  |some v =>
   obtain⟨hv,hl⟩:=ha v rfl;have hvl:=hl t JH;have hk2:Kr.ks 40 done+2^(40-ln t)<=2^40:=by
    rw[Kr.cE,Kr.cE] at hk';simp[Kr.ks] at hk'
    omega
   have z:=hv.zero (rest:=[]) hk2;have e:=wz hv.bits z hvl;refine fin _ rfl ?_ ?_ ?_
   ·show iY _ (fP v (ln t));rw[e];exact hv.next hvl ht hk2
   ·show (fP v (ln t)).length=_;rw[e];exact fk hvl
   ·intro u eu;cases eu;show Dv v (fP v (ln t));rw[e];exact AK hv.bits z
theorem pF:∀(order:List Nat) (a:Option (List Nat)) (ws:List (List Nat)),order.Nodup->(∀t∈order,t<ws.length)->(∀(i t:Nat),order[i]?=some t->(along fP ln order (a,ws)).2[t]?=(ki ln a order)[i]?)/\∀t,t∉order->(along fP ln order (a,ws)).2[t]?=ws[t]?
 |[],_,_,_,_=>⟨λi t e=>(by cases e),λ_ _=>rfl⟩
 |t::r,a,ws,hn,hl=>by
  obtain⟨n1,n2⟩:=KY.mp hn;have ht:=hl t JH;have ea:along fP ln (t::r) (a,ws)=along fP ln r (some (nW ln a t),ws.set t (nW ln a t)):=by cases a<;>rfl
  rw[ea];obtain⟨q1,q2⟩:=pF r (some (nW ln a t)) (ws.set t (nW ln a t)) n2 (λx hx=>by rw[KZ];exact hl x (JG _ hx))
  refine⟨λi s e=>?_,λs hs=>?_⟩
  ·cases i with
   |zero =>
    cases e;exact (q2 t n1).trans (by rw[LU ht];rfl)
   |succ i=>exact q1 i s (by simpa using e)
  ·have h1:s≠t:=λz=>hs (by rw[z];exact JH)
   have h2:s∉r:=λz=>hs (JG _ z);exact (q2 s h2).trans (by rw[MX (KP h1)])
noncomputable def Lx(p q:Int×Nat):Prop:=p.1<q.1\/(p.1=q.1/\p.2<q.2)
theorem zf{p:Int×Nat}:∀{l:List (Int×Nat)},l.Pairwise Lx->(∀q∈l,p.2<q.2)->(iN p l).Pairwise Lx
 |[],_,_=>NU _ _
 |q::r,h,hp=>by
  obtain⟨h1,h2⟩:=Kk.mp h;have hq:=hp q JH;unfold iN;split
  ·rename_i c;refine Kk.mpr ⟨λz hz=>?_,h⟩;have hz2:=hp z hz;have:q.1<=z.1:=by
    rcases J9.mp hz with rfl|hz
    ·exact MK _
    ·have:=h1 z hz;unfold Lx at this;omega
   unfold Lx;omega
  ·rename_i c;refine Kk.mpr ⟨λz hz=>?_,zf h2 λz hz=>hp z (JG _ hz)⟩;rcases J9.mp ((gP p r).mem_iff.mp hz) with rfl|hz
   ·unfold Lx;omega
   ·exact h1 z hz
theorem uU:∀{l:List (Int×Nat)},(l.Pairwise λp q=>p.2<q.2)->(fo l).Pairwise Lx
 |[],_=>.nil
 |p::r,h=>by
  obtain⟨h1,h2⟩:=Kk.mp h;exact zf (uU h2) λq hq=>h1 q ((dZ r).mem_iff.mp hq)
end Cw
structure Canon (ls:List Int) (W:List (List Nat)):Prop where
 len:W.length=ls.length
 E9:∀t,t<ls.length->(W.getD t []).length=bo ls t
 part:∀s t,s<ls.length->t<ls.length->(ls.getD s 0<ls.getD t 0\/(ls.getD s 0=ls.getD t 0/\s<t))->Cw.Dv (W.getD s []) (W.getD t [])
theorem m_(ls:List Int):ls.zip (List.range ls.length)=(List.range ls.length).map λt=>(ls.getD t 0,t):=by
 apply Ml
 ·simp
 ·intro i h1 h2;simp at h1;simp[h1]
theorem canon(hL:oR ls)(hk:KS ls<=2^40):Canon ls (wordsOf Cw.fP ls):=by
 have hS:(Cw.Lx · ·)=(Cw.Lx · ·):=rfl;have hlx:(fo (ls.zip (List.range ls.length))).Pairwise Cw.Lx:=by
  refine Cw.uU ?_;rw[m_];exact MI.mpr Oh
 have hmem:∀p∈fo (ls.zip (List.range ls.length)),p.1=ls.getD p.2 0/\p.2<ls.length:=λp hp=>by
  have:=(dZ _).mem_iff.mp hp;rw[m_] at this;obtain⟨t,ht,rfl⟩:=Ki.mp this;exact⟨rfl,KJ.mp ht⟩
 have hord:(b7 ls).Pairwise λs t=>ls.getD s 0<ls.getD t 0\/(ls.getD s 0=ls.getD t 0/\s<t):=by
  unfold b7 jN;refine MI.mpr (hlx.imp_of_mem λ{p q} hp hq h=>?_);rw[<- (hmem p hp).1,<- (hmem q hq).1];exact h
 have hperm:(b7 ls).Perm (List.range ls.length):=jZ (by rw[Ky])
 have hnd:(b7 ls).Nodup:=hperm.nodup_iff.mpr List.nodup_range;have hb:∀t,t<ls.length->1<=ls.getD t 0/\ls.getD t 0<=40:=λt ht=>by
  rw[JI,Jx ht];have:=hL.2.2 _ (JN ht);show 1<=ls[t]/\ls[t]<=40;lia
 have hmm:∀t∈b7 ls,t<ls.length:=λt ht=>jI ht;have hks:Kr.ks 40 ([]++(b7 ls).map (bo ls))<=2^40:=by
  rw[KN,Kr.gR (hperm.map (bo ls))];have e:(List.range ls.length).map (bo ls)=ls.map Int.toNat:=by
   apply Ml
   ·simp
   ·intro i h1 h2;simp at h1;simp[bo,h1]
  rw[e];exact hk
 obtain⟨_,q2,q3⟩:=Cw.zU (ln:=bo ls) (b7 ls) [] none (hord.imp_of_mem λ{s t} hs ht h=>by
  have:=hb s (hmm s hs);have:=hb t (hmm t ht);unfold bo;omega) (λt ht=>by have:=hb t (hmm t ht);unfold bo;omega) (λv e=>by cases e) (λ_=>rfl) hks
 obtain⟨a1,_⟩:=Cw.pF (ln:=bo ls) (b7 ls) none (List.replicate ls.length []) hnd (λt ht=>by rw[JS];exact hmm t ht)
 have hat:∀t,t<ls.length->∃i w,(b7 ls)[i]?=some t/\(Cw.ki (bo ls) none (b7 ls))[i]?=some w/\w.length=bo ls t/\(wordsOf Cw.fP ls).getD t []=w:=λt ht=>by
  obtain⟨i,hi⟩:=MT.mp (hperm.mem_iff.mpr (KJ.mpr ht));obtain⟨w,hw,hl⟩:=q3 i t hi;refine⟨i,w,hi,hw,hl,?_⟩;unfold wordsOf;rw[JI,a1 i t hi,hw];rfl
 refine⟨?_,λt ht=>?_,λs t hs ht h=>?_⟩
 ·unfold wordsOf;rw[Cw.gK,JS]
 ·obtain⟨i,w,_,_,hl,e⟩:=hat t ht;rw[e];exact hl
 ·obtain⟨i,w,h1,h2,_,e⟩:=hat s hs;obtain⟨j,v,g1,g2,_,e'⟩:=hat t ht;rw[e,e'];obtain⟨hi,rfl⟩:=J6.mp h2;obtain⟨hj,rfl⟩:=J6.mp g2;obtain⟨hi',ei⟩:=J6.mp h1;obtain⟨hj',ej⟩:=J6.mp g1;have hij:i<j:=by
   rcases NB i j with c|c|c
   ·exact c
   ·subst c;have est:s=t:=ei.symm.trans ej;subst est
    exfalso;omega
   ·have:=L6.mp hord j i hj' hi' c;rw[ei,ej] at this
    exfalso;omega
  exact L6.mp q2 i j hi hj hij
noncomputable def dg(n:Int):Nat:=48+(n % 2).toNat
noncomputable def bS:Int->Nat->List Nat->List Nat
 |_,0,acc=>acc
 |n,k+1,acc=>bS (n / 2) k (dg n::acc)
theorem dM:∀(k:Nat) (n:Int) (acc:List Nat),(bS n k acc).length=k+acc.length
 |0,_,_=>by rw[bS,Lb]
 |k+1,n,acc=>by rw[bS,dM k,JK];lia
theorem kC:∀(k:Nat) (n:Int) (acc:List Nat),∃d,bS n (k+1) acc=d::bS n k acc
 |0,n,acc=>⟨dg n,rfl⟩
 |k+1,n,acc=>by
  obtain⟨d,e⟩:=kC k (n / 2) (dg n::acc);exact⟨d,e⟩
theorem Eg(n:Int):dg n=48\/dg n=49:=by
 unfold dg;have:n % 2=0\/n % 2=1:=by lia
 rcases this with e|e<;>rw[e]
 ·exact .inl rfl
 ·exact .inr rfl
theorem ie:∀(k:Nat) (n:Int) (acc:List Nat),(∀c∈acc,c=48\/c=49)->∀c∈bS n k acc,c=48\/c=49
 |0,_,_,h=>h
 |k+1,n,acc,h=>ie k (n / 2) (dg n::acc) λc hc=>by
  rcases J9.mp hc with rfl|hc
  ·exact Eg n
  ·exact h c hc
theorem DM(n:Int):Str.ofString (toString (n % 2))=wd [dg n]:=by
 have:n % 2=0\/n % 2=1:=by lia
 unfold dg;rcases this with e|e<;>rw[e]
 ·exact (by decide +kernel)
 ·exact (by decide +kernel)
theorem kn(a b:List Nat):wd a++wd b=wd (a++b):=by
 apply xU;show (a.toArray++b.toArray).toList=_;simp
theorem zZ:Str.ofString ""=wd []:=by decide +kernel
noncomputable def a_(n:Nat):Nat:=Builtin.Int.intBits (n:Int)
noncomputable def dQ(n:Nat):List Nat:=bS (n:Int) (a_ n) []
theorem iJ{n:Nat}(h:n<65536):a_ n<17:=by
 unfold a_ Builtin.Int.intBits;split
 ·decide
 ·rename_i hz;have h0:n≠0:=λz=>hz (by rw[z];rfl)
  show (n:Int).natAbs.log2+1<17;rw[N1];have:=(Nat.log2_lt (n:=n) (k:=16) h0).mpr (by lia)
  lia
noncomputable def dz(k:Nat)(d:Int):List Nat:=dj k++bS d (bE k) []
theorem wA{n:Nat}(h:0<n):Builtin.Int.intBits (n:Int)=Builtin.Int.intBits ((n / 2:Nat):Int)+1:=by
 unfold Builtin.Int.intBits;rw[JA (by simp;lia)]
 show (n:Int).natAbs.log2+1=_;rw[N1,Nat.log2_def];split
 ·rw[JA (by simp;lia),N1]
 ·have e:n / 2=0:=by lia
  rw[e];rfl
noncomputable def Row.wi:Row->Nat
 |.put _ _=>0
 |.two u _ _=>1+u
 |.one u _=>4+u
 |.jump _=>6
 |.zero _ _=>7
 |.halt=>8
theorem Row.uH(r:Row):r.wi<9:=by
 cases r with
 |two u a b=>exact (by decide:∀u:_root_.Fin 3,1+(u:Nat)<9) u
 |one u b=>exact (by decide:∀u:_root_.Fin 2,4+(u:Nat)<9) u
 |put b n=>exact (by decide:0<9)
 |jump g=>exact (by decide:6<9)
 |zero b g=>exact (by decide:7<9)
 |halt=>exact (by decide:8<9)
inductive Pk where
 |box (b:Nat)|num (n:Nat)|goal (g:Nat)
noncomputable def Pk.kd:Pk->Str
 |.box _=>"box"
 |.num _=>"number"
 |.goal _=>"goal"
noncomputable def Pk.Ok:Pk->Prop
 |.box b=>b<8
 |.num n=>n<65536
 |.goal _=>True
noncomputable def Pk.pB:Pk->List (Nat×Nat)
 |.box b=>[(2,b)]
 |.num n=>[(1,a_ n)]
 |.goal _=>[]
noncomputable def Row.wd:Row->Str
 |.put _ _=>"put"
 |.two u _ _=>w2 u
 |.one u _=>w1 u
 |.jump _=>"jump"
 |.zero _ _=>"zero"
 |.halt=>"halt"
noncomputable def Row.eA:Row->List Pk
 |.put b n=>[.box b,.num n]
 |.two _ a b=>[.box a,.box b]
 |.one _ b=>[.box b]
 |.jump g=>[.goal g]
 |.zero b g=>[.box b,.goal g]
 |.halt=>[]
theorem Row.rW{r:Row}{k:Nat}(h:r.Ok k):∀p∈r.eA,p.Ok:=by
 cases r with
 |put b n=>simp only[Row.eA,J9,J_,KA];exactλp z=>z.elim (λe=>e ▸ h.1) λe=>e ▸ h.2
 |two u a b=>simp only[Row.eA,J9,J_,KA];exactλp z=>z.elim (λe=>e ▸ h.1) λe=>e ▸ h.2
 |one u b=>simp only[Row.eA,J9,J_,KA];rintro p rfl;exact h
 |jump g=>simp only[Row.eA,J9,J_,KA];rintro p rfl;exact trivial
 |zero b g=>simp only[Row.eA,J9,J_,KA];exactλp z=>z.elim (λe=>e ▸ h.1) λe=>e ▸ trivial
 |halt=>simp[Row.eA]
noncomputable def cV(r:Row):List (Nat×Nat):=(0,r.wi)::r.eA.flatMap Pk.pB
noncomputable def cw:List Str:=["put","add","sub","copy","tell","hear","jump","zero","halt"]
theorem GC:∀k,k<9->∀m,m<k->cw[m]?≠cw[k]?:=by decide +kernel
theorem tN(r:Row):cw[r.wi]?=some r.wd/\∀m,m<r.wi->cw[m]?≠some r.wd:=by
 have h1:cw[r.wi]?=some r.wd:=by
  cases r with
  |two u a b=>exact (by decide +kernel:∀u:_root_.Fin 3,cw[1+(u:Nat)]?=some (w2 u)) u
  |one u b=>exact (by decide +kernel:∀u:_root_.Fin 2,cw[4+(u:Nat)]?=some (w1 u)) u
  |put b n=>rfl
  |jump g=>rfl
  |zero b g=>rfl
  |halt=>rfl
 exact⟨h1,λm hm=>by rw[<- h1];exact GC _ r.uH m hm⟩
noncomputable def bR:List (Str×List Str):=[("put",["box","number"]),("add",["box","box"]),("sub",["box","box"]),("copy",["box","box"]),("tell",["box"]),("hear",["box"]),("jump",["goal"]),("zero",["box","goal"]),("halt",[])]
theorem vt(r:Row):KTD.datumAt r.wd bR=some (r.eA.map Pk.kd):=by
 cases r with
 |two u a b=>exact (by decide +kernel:∀u:_root_.Fin 3,KTD.datumAt (w2 u) bR=some [("box":Str),"box"]) u
 |one u b=>exact (by decide +kernel:∀u:_root_.Fin 2,KTD.datumAt (w1 u) bR=some [("box":Str)]) u
 |put b n=>exact (by decide +kernel:KTD.datumAt ("put":Str) bR=some [("box":Str),"number"])
 |jump g=>exact (by decide +kernel:KTD.datumAt ("jump":Str) bR=some [("goal":Str)])
 |zero b g=>exact (by decide +kernel:KTD.datumAt ("zero":Str) bR=some [("box":Str),"goal"])
 |halt=>exact (by decide +kernel:KTD.datumAt ("halt":Str) bR=some ([]:List Str))
noncomputable def FH:List Str:=["a","b","c","d","e","f","g","h"]
theorem yr{b:Nat}(h:b<8):FH[b]?=some (cx b)/\∀m,m<b->FH[m]?≠some (cx b):=(by decide +kernel:∀b,b<8->FH[b]?=some (cx b)/\∀m,m<b->FH[m]?≠some (cx b)) b h
theorem lH:∀(o:List Nat) (a:Option (List Nat)) (ws:List (List Nat)),(∀t∈o,ln t<=40)->(∀v,a=some v->v.length<=40)->(∀x∈ws,x.length<=40)->∀x∈(Cw.along Cw.fP ln o (a,ws)).2,x.length<=40
 |[],_,_,_,_,h=>h
 |t::o,a,ws,ho,ha,hw=>by
  have ht:=ho t JH;have h2:=λt h=>ho t (JG _ h)
  cases a with
  |none =>
   refine lH o (some (List.replicate (ln t) 48)) _ h2 (λv e=>by cases e;rw[JS];exact ht) λx hx=>?_
   rcases Li hx with z|z
   ·exact hw x z
   ·rw[z,JS];exact ht
  |some v =>
   have hv:=tF (ha v rfl) ht;refine lH o (some (Cw.fP v (ln t))) _ h2 (λv e=>by cases e;exact hv) λx hx=>?_
   rcases Li hx with z|z
   ·exact hw x z
   ·rw[z];exact hv
theorem zS(hL:oR ls):∀x∈wordsOf Cw.fP ls,x.length<=40:=by
 refine lH _ _ _ (λt ht=>?_) (λv e=>by cases e) λx hx=>by rw[(KR.mp hx).2];decide
 have h:=jI ht;have:=hL.2.2 _ (JN h);unfold bo;rw[JI,Jx h];show ls[t].toNat<=40;lia
theorem jh(ls:List Int):(wordsOf Cw.fP ls).length=ls.length:=(Cw.gK _ _).trans (JS ..)
structure Cd (cd:List (List (List Nat))):Prop where
 ex:∃a b c,cd=[a,b,c]/\a.length=9/\b.length=17/\c.length=8
 le:∀ws∈cd,∀x∈ws,x.length<=40
noncomputable def aO(cd:List (List (List Nat)))(p:Nat×Nat):List Nat:=(cd.getD p.1 []).getD p.2 []
noncomputable def fM:Row->List Nat
 |.put _ n=>(dQ n).tail
 |_=>[]
noncomputable def bB(cd:List (List (List Nat)))(r:Row):List Nat:=(cV r).flatMap (aO cd)++fM r
noncomputable def Bk(bk:List (List Int)):Prop:=∃a b c,bk=[a,b,c]/\a.length=9/\b.length=17/\c.length=8/\∀l∈bk,oR l/\qH l=true
noncomputable def bQ(bk:List (List Int)):List (List (List Nat)):=bk.map (wordsOf Cw.fP)
theorem Bk.cd{bk:List (List Int)}(h:Bk bk):Cd (bQ bk):=by
 obtain⟨a,b,c,rfl,h1,h2,h3,h4⟩:=h;refine⟨⟨_,_,_,rfl,by rw[jh,h1],by rw[jh,h2],by rw[jh,h3]⟩,λws hw=>?_⟩
 obtain⟨l,hl,rfl⟩:=Ki.mp hw;exact zS (h4 l hl).1
theorem ny:∀l:List (List Nat),(Str.ofString "").join (l.map wd)=wd l.flatten
 |[]=>rfl
 |[x]=>by simp[Str.join]
 |x::y::r=>by
  show wd x++Str.ofString ""++(Str.ofString "").join ((y::r).map wd)=_;rw[ny (y::r),zZ,kn,kn,Kp];rfl
theorem xV{r:Row}{k:Nat}(h:r.Ok k):∀p∈cV r,(p.1=0/\p.2<9)\/(p.1=1/\p.2<17)\/(p.1=2/\p.2<8):=by
 intro p hp;unfold cV at hp;rcases J9.mp hp with rfl|hp
 ·exact .inl ⟨rfl,r.uH⟩
 ·obtain⟨q,hq,hp⟩:=List.mem_flatMap.mp hp;have:=Row.rW h q hq
  cases q with
  |box b=>rw[JQ.mp hp];exact .inr (.inr ⟨rfl,this⟩)
  |num n=>rw[JQ.mp hp];exact .inr (.inl ⟨rfl,iJ this⟩)
  |goal n=>cases hp
theorem Cd.at{cd:List (List (List Nat))}(h:Cd cd){p:Nat×Nat}(hp:(p.1=0/\p.2<9)\/(p.1=1/\p.2<17)\/(p.1=2/\p.2<8)):cd[p.1]?=some (cd.getD p.1 [])/\(cd.getD p.1 [])[p.2]?=some (aO cd p)/\(aO cd p).length<=40:=by
 obtain⟨a,b,c,rfl,h1,h2,h3⟩:=h.ex;have key:∀(l:List (List Nat)) (i:Nat),i<l.length->l[i]?=some (l.getD i [])/\l.getD i []∈l:=λl i hi=>by
  rw[JI,Jx hi];exact⟨rfl,JN hi⟩
 obtain⟨x,y⟩:=p;rcases hp with ⟨rfl,hy⟩|⟨rfl,hy⟩|⟨rfl,hy⟩
 ·have:=key a y (by rw[h1];exact hy)
  exact⟨rfl,this.1,h.le a (by simp) _ this.2⟩
 ·have:=key b y (by rw[h2];exact hy)
  exact⟨rfl,this.1,h.le b (by simp) _ this.2⟩
 ·have:=key c y (by rw[h3];exact hy)
  exact⟨rfl,this.1,h.le c (by simp) _ this.2⟩
theorem ou(r:Row):(cV r).length<=3:=by cases r<;>simp[cV,Row.eA,Pk.pB]
theorem oY{cd:List (List (List Nat))}{r:Row}{k:Nat}(hC:Cd cd)(h:r.Ok k):((cV r).flatMap (aO cd)).length<=120/\(fM r).length<=16:=by
 refine⟨?_,?_⟩
 ·have:∀l:List (Nat×Nat),(∀p∈l,(aO cd p).length<=40)->(l.flatMap (aO cd)).length<=40*l.length:=λl=>by
   induction l with
   |nil=>exactλ_=>JD _
   |cons p l ih =>
    intro h;have h1:=h p JH;have h2:=ih λq hq=>h q (JG _ hq);rw[List.flatMap_cons,J5,JK];lia
  have h1:=this (cV r) λp hp=>(hC.at (xV h p hp)).2.2;have h2:=ou r;lia
 ·cases r with
  |put b n =>
   have:=iJ (n:=n) h.2;show (dQ n).tail.length<=16;rw[List.length_tail];unfold dQ;rw[dM];simp only[K2];lia
  |_=>exact JL _
noncomputable def nZ(l:List Nat):List Int:=l.map λk:Nat=>(k:Int)
theorem bp(l:List Nat):(nZ l).length=l.length:=Jz ..
theorem DV{l:List Nat}(h:Kr.ks 40 l<=2^40):qH (nZ l)=true:=by
 unfold qH KS nZ;rw[Lp,show (Int.toNat ∘ λk:Nat=>(k:Int))=id from funext λk=>Kb k,List.map_id];exact Kc h
structure Pt (l:List Nat):Prop where
 ks:Kr.ks 40 l=2^40
 le:∀x∈l,x+1<=l.length
 one:l=[0]\/∀x∈l,1<=x
theorem Pt.pos{l:List Nat}(h:Pt l):1<=l.length:=by
 cases l with
 |nil=>have:=h.ks;simp[Kr.ks] at this
 |cons=>simp
theorem Pt.next{l l3:List Nat}{a:Nat}(h:Pt l)(ha:a<l.length)(hl:l.length<=17)(hp:l3.Perm ((l[a]+1)::(l[a]+1)::l.eraseIdx a)):Pt l3/\l3.length=l.length+1:=by
 have hpm:(l[a]::l.eraseIdx a).Perm l:=by
  rw[Lk]
  conv=>rhs;rw[<- Lg a l,<- Oo ha]
  exact Mj.symm
 have hle:=l.length_eraseIdx_of_lt ha;have hx:=h.le _ (JN ha);have h3:l3.length=l.length+1:=by
  rw[hp.length_eq,JK,JK,hle];lia
 have mem:∀y∈l3,y=l[a]+1\/y∈l.eraseIdx a:=λy hy=>by
  rcases J9.mp (hp.mem_iff.mp hy) with z|z
  ·exact .inl z
  ·rcases J9.mp z with z|z
   ·exact .inl z
   ·exact .inr z
 have mem2:∀y∈l.eraseIdx a,y∈l:=λy hy=>hpm.mem_iff.mp (JG _ hy);refine⟨⟨?_,λy hy=>?_,.inr λy hy=>?_⟩,h3⟩
 ·have e1:=Kr.gR (L:=40) hpm;rw[h.ks,Kr.ks] at e1;rw[Kr.gR hp,Kr.ks,Kr.ks];have e2:2^(40-l[a])=2*2^(40-(l[a]+1)):=by rw[show 40-l[a]=(40-(l[a]+1))+1 by lia,Ng];lia
  lia
 ·rw[h3];rcases mem y hy with rfl|z
  ·lia
  ·have:=h.le y (mem2 y z);lia
 ·rcases mem y hy with rfl|z
  ·lia
  ·rcases h.one with e|e
   ·subst e;have ha0:a=0:=by simpa using ha
    subst ha0;cases z
   ·exact e y (mem2 y z)
theorem FL:∀(k:Nat) (w acc:List Nat),w.length=k->(∀c∈w,c=48\/c=49)->bS (Cw.val w:Int) k acc=w++acc:=by
 intro k
 induction k with
 |zero=>intro w acc h _;rw[KU.mp h];rfl
 |succ k ih =>
  intro w acc h hb;obtain⟨v,c,rfl⟩:∃v c,w=v++[c]:=by
   rcases Oy w with e|⟨v,c,e⟩
   ·rw[e] at h;cases h
   ·exact⟨v,c,by rw[e,List.concat_eq_append]⟩
  have hc:=hb c (by simp)
  have ev:Cw.val (v++[c])=2*Cw.val v+(c-48):=by
   rw[Cw.gM];rcases hc with rfl|rfl
   ·simp[Cw.val];lia
   ·simp[Cw.val];lia
  rw[bS];have e1:((Cw.val (v++[c]):Nat):Int) / 2=(Cw.val v:Int):=by rw[ev];lia
  have e2:dg ((Cw.val (v++[c]):Nat):Int)=c:=by
   unfold dg;rw[ev];rcases hc with rfl|rfl
   ·have:((2*Cw.val v+(48-48):Nat):Int) % 2=0:=by lia
    rw[this];rfl
   ·have:((2*Cw.val v+(49-48):Nat):Int) % 2=1:=by lia
    rw[this];rfl
  rw[e1,e2,ih v (c::acc) (by rw[J5,Mb] at h;lia) (λx hx=>hb x (by simp[hx])),JU]
  rfl
theorem EY(ls:List Int):Kr.ks 40 ((b7 ls).map (bo ls))=KS ls:=by
 unfold KS;refine Kr.gR ?_;have e:ls.map Int.toNat=(List.range ls.length).map (bo ls):=by
  apply Ml
  ·simp
  ·intro i h1 h2;have hi:i<ls.length:=by simpa using h1
   simp[bo,hi]
 rw[e];exact (jZ (by rw[Ky])).map _
structure At (ls:List Int) (done todo:List Nat) (a:Option (List Nat)) (n h:Int):Prop where
 all:done++todo=b7 ls
 st:(a=none/\done=[]/\n=-1/\h=0)\/∃w,a=some w/\n=(Cw.val w:Int)/\h=(w.length:Int)/\Cw.iY (done.map (bo ls)) w/\∀t∈todo,w.length<=bo ls t
noncomputable def nW(a:Option (List Nat))(l:Nat):List Nat:=match a with|none=>List.replicate l 48|some v=>Cw.i8 v l
theorem At.next{ls:List Int}{done todo:List Nat}{a:Option (List Nat)}{n h:Int}{t:Nat}(x:At ls done (t::todo) a n h)(hL:oR ls)(ho:qH ls=true)(hu:(b7 ls).Pairwise λi j=>bo ls i<=bo ls j):
  ∃d:Nat,(bo ls t:Int)-h=d/\d<=bo ls t/\(n+1)*2^d=(Cw.val (nW a (bo ls t)):Int)/\(nW a (bo ls t)).length=bo ls t/\(∀c∈nW a (bo ls t),c=48\/c=49)/\At ls (done++[t]) todo (some (nW a (bo ls t))) (Cw.val (nW a (bo ls t)):Int) (bo ls t:Int):=by
 have hall:(done++[t])++todo=b7 ls:=by rw[JU];exact x.all
 have htl:bo ls t<=40:=by
  have h:=jI (ls:=ls) (t:=t) (by rw[<- x.all];simp)
  have:=hL.2.2 _ (JN h);unfold bo;rw[JI,Jx h];show ls[t].toNat<=40;lia
 have hk:Kr.ks 40 ((done++[t]++todo).map (bo ls))<=2^40:=by rw[hall,EY];exact K6 ho
 rw[JR,JR,Kr.cE,Kr.cE] at hk;have hle:∀u∈todo,bo ls t<=bo ls u:=λu hu'=>by
  rw[<- x.all] at hu;exact (Kk.mp (KD.mp hu).2.1).1 u hu'
 rcases x.st with ⟨rfl,rfl,rfl,rfl⟩|⟨w,rfl,rfl,rfl,hH,hw⟩
 ·refine⟨bo ls t,by lia,JD _,?_,JS ..,λc hc=>.inl (KR.mp hc).2,hall,.inr ⟨_,rfl,rfl,by rw[show nW none (bo ls t)=List.replicate (bo ls t) 48 from rfl,JS],Cw.iY.first htl,λu hu'=>by rw[show nW none (bo ls t)=List.replicate (bo ls t) 48 from rfl,JS];exact hle u hu'⟩⟩
  rw[show nW none (bo ls t)=List.replicate (bo ls t) 48 from rfl,Cw.fu];simp
 ·have hwt:=hw t JH;have hk2:Kr.ks 40 (done.map (bo ls))+2^(40-bo ls t)<=2^40:=by
   simp only[Kg,L_,Kr.ks] at hk;lia
  have hz:=hH.zero (rest:=[]) hk2;have hN:=hH.next hwt htl hk2;refine⟨bo ls t-w.length,by lia,Nat.sub_le _ _,?_,Cw.fk hwt,Cw.mD hH.bits,hall,.inr ⟨_,rfl,rfl,by rw[show nW (some w) (bo ls t)=Cw.i8 w (bo ls t) from rfl,Cw.fk hwt],by rw[JR];exact hN,λu hu'=>by rw[show nW (some w) (bo ls t)=Cw.i8 w (bo ls t) from rfl,Cw.fk hwt];exact hle u hu'⟩⟩
  rw[show nW (some w) (bo ls t)=Cw.i8 w (bo ls t) from rfl,Cw.ql hH.bits hz];simp
theorem iX:∀(k:Nat) (n:Int) (acc:List Nat),bS n k acc=bS n k []++acc
 |0,_,_=>rfl
 |k+1,n,acc=>by
  rw[bS,bS,iX k (n / 2) (dg n::acc),iX k (n / 2) [dg n],JU];rfl
theorem qQ(k:Nat)(n:Int):bS n (k+1) []=bS (n / 2) k []++[dg n]:=by rw[bS,iX]
theorem Ad(w:List Nat)(c:Nat):Cw.val (w++[c])=2*Cw.val w+(c-48):=by
 rw[Cw.gM];simp[Cw.val];lia
theorem je:∀(k:Nat) (n:Int),(Cw.val (bS n k []):Int)=n % 2^k
 |0,n=>by simp[bS,Cw.val,Int.emod_one]
 |k+1,n=>by
  rw[qQ,Ad];have ih:=je k (n / 2);have hd:((dg n-48:Nat):Int)=n % 2:=by unfold dg;have:=LR n (show (2:Int)≠0 by decide);lia
  have e:(2:Int)*((n / 2) % 2^k)+n % 2=n % 2^(k+1):=by
   have h1:=O0 n 2;have h2:=O0 (n / 2) (2^k);have hp:(0:Int)<2^k:=Int.pow_pos (by decide)
   have h3:=LR (n / 2) (Int.ne_of_gt hp);have h4:=LS (n / 2) hp;have h5:=LR n (show (2:Int)≠0 by decide)
   have h6:=LS n (show (0:Int)<2 by decide)
   rw[Int.pow_succ];have key:n=(2*((n / 2) % 2^k)+n % 2)+(2^k*2)*((n / 2) / 2^k):=by
    rw[Int.mul_assoc,Int.mul_left_comm];generalize 2^k*(n / 2 / 2^k)=y at h2 ⊢;lia
   generalize hr:2*((n / 2) % 2^k)+n % 2=r at key ⊢;generalize (n / 2) / 2^k=y at key;rw[key,Int.add_mul_emod_self_left,MJ (by lia) (by lia)]
  push_cast
  rw[ih,hd,e]
theorem oJ:∀(cs:List Nat) (a:Nat),cs.foldl (λa c=>a*2+(c-48)) a=a*2^cs.length+Cw.val cs
 |[],a=>by simp[Cw.val]
 |c::cs,a=>by
  rw[NX,oJ cs,Cw.val,JK,Ng,Nat.add_mul];rw[Mr,Nat.mul_comm 2 (2^cs.length),Ms]
theorem uv(cs:List Nat):kP cs=Cw.val cs:=by
 unfold kP;rw[oJ,Nat.zero_mul,Lb]
theorem zQ:∀{cs:List Nat},(∀c∈cs,c=48\/c=49)->Cw.val cs<2^cs.length
 |[],_=>by decide
 |c::cs,h=>by
  have ih:=zQ (cs:=cs) λx hx=>h x (JG _ hx);rw[Cw.val,JK,Ng];rcases h c JH with rfl|rfl<;>simp<;>lia
theorem pV(n:Nat):∀c∈dQ n,c=48\/c=49:=ie _ _ _ λc hc=>by cases hc
theorem jR(n:Nat):(dQ n).length=a_ n:=by unfold dQ;rw[dM];rfl
theorem kh{n:Nat}(h:0<n):2^(a_ n-1)<=n/\n<2^a_ n/\0<a_ n:=by
 have e:a_ n=n.log2+1:=by
  unfold a_ Builtin.Int.intBits;rw[JA (by simp;lia)]
  rfl
 rw[e];exact⟨Nat.log2_self_le (by lia),Nat.lt_log2_self,Nat.succ_pos _⟩
theorem tG{n:Nat}(h:0<n):Cw.val (dQ n)=n:=by
 have h1:=je (a_ n) (n:Int);have h2:=(kh h).2.1;have e:(n:Int) % 2^a_ n=n:=MJ (by lia) (by exact_mod_cast h2)
 rw[e] at h1;unfold dQ
 exact_mod_cast h1
theorem yC{n:Nat}(h:0<n):dQ n=49::(dQ n).tail:=by
 obtain⟨b1,b2,b3⟩:=kh h;have hl:=jR n;have hv:=tG h;have hb:=pV n
 cases e:dQ n with
 |nil=>rw[e] at hl;simp at hl;lia
 |cons c r =>
  rw[e] at hl hv hb;rcases hb c JH with rfl|rfl
  ·exfalso
   have:=zQ (cs:=r) λx hx=>hb x (JG _ hx);rw[JK] at hl;rw[<- hl,M9] at b1;simp[Cw.val] at hv;lia
  ·rfl
theorem B0{n:Nat}(h:0<n):kP (49::(dQ n).tail)=n:=by rw[<- yC h,uv,tG h]
theorem vw{n:Nat}(h:a_ n=0):n=0:=by
 rcases MB n with e|e
 ·exact e
 ·have:=(kh e).2.2;lia
inductive Kd where
 |box|num|go
noncomputable def Kd.s:Kd->Str
 |.box=>Str.ofString "box"
 |.num=>Str.ofString "number"
 |.go=>Str.ofString "goal"
inductive PV where
 |box (b:Nat)|num (n:Nat)|go (d:Int)
noncomputable def mf(cd:List (List (List Nat)))(z:List Nat)(p:Nat):Kd->Option (PV×Nat)
 |.box=>(jH (cd.getD 2 []) z p).map λx=>(.box x.1,x.2)
 |.num=>(wW (cd.getD 1 []) z p).map λx=>(.num x.1,x.2)
 |.go=>(gA z p).map λx=>(.go x.1,x.2)
structure sO (cd:List (List (List Nat))):Prop where
 fK:Cd cd
 pf:∀w∈cd,Pf w
noncomputable def BF(i:Nat):List Kd:=[[Kd.box,.num],[.box,.box],[.box,.box],[.box,.box],[.box],[.box],[.go],[.box,.go],[]].getD i []
noncomputable def qF(cd:List (List (List Nat)))(z:List Nat):List Kd->Nat->Option (List (PV×Nat)×Nat)
 |[],p=>some ([],p)
 |k::ks,p=>(mf cd z p k).bind λx=>(qF cd z ks x.2).map λy=>(x::y.1,y.2)
structure RW where
 wi:Nat
 vs:List (PV×Nat)
noncomputable def Af(cd:List (List (List Nat)))(z:List Nat)(p:Nat):Option (RW×Nat):=(jH (cd.getD 0 []) z p).bind λx=>(qF cd z (BF x.1) x.2).map λy=>(⟨x.1,y.1⟩,y.2)
noncomputable def wG(cd:List (List (List Nat)))(z:List Nat)(p:Int):Option (RW×Nat):=if p<0 then none else Af cd z p.toNat
theorem nV(cd:List (List (List Nat)))(z:List Nat)(p:Nat):wG cd z (p:Int)=Af cd z p:=by
 unfold wG;rw[JA (by lia),Kb]
theorem Aq(h:i<9):KTD.datumAt (cw.getD i (Str.ofString "")) bR=some ((BF i).map Kd.s):=by
 have:i=0\/i=1\/i=2\/i=3\/i=4\/i=5\/i=6\/i=7\/i=8:=by lia
 rcases this with rfl|rfl|rfl|rfl|rfl|rfl|rfl|rfl|rfl<;>decide +kernel
theorem Pf.nd{ws:List (List Nat)}(h:Pf ws):ws.Nodup:=by
 unfold List.Nodup;rw[L6];intro i j hi hj hij e;exact h.pre i j hi hj (JX hij) (by rw[e];exact List.prefix_refl _)
noncomputable def PV.n:PV->Int
 |.box b=>(b:Int)
 |.num n=>(n:Int)
 |.go d=>d
noncomputable def Kd.c:Kd->Nat
 |.box=>98
 |.num=>110
 |.go=>103
structure Jl (cd:List (List (List Nat))):Prop extends sO cd where
 Jv:∀ws∈cd,∀w∈ws,w.length<=20
theorem xh{ws:List (List Nat)}{x:Nat×Nat}(hne:∀w∈ws,w≠[])(h:wW ws z p=some x):p<x.2/\x.2<=z.length:=by
 unfold wW at h
 cases c:jH ws z p with
 |none=>rw[c] at h;cases h
 |some y =>
  rw[c] at h;obtain⟨_,_,h3,h4⟩:=eK hne c;dsimp only at h
  split at h
  ·cases h;exact⟨h3,h4⟩
  ·split at h
   ·rename_i hl;cases h;exact⟨by show p<y.2+_;lia,hl⟩
   ·cases h
theorem Dc{x:Int×Nat}(h:gA z p=some x):p<x.2/\x.2<=z.length:=by
 unfold gA at h
 cases c:jH uR z p with
 |none=>rw[c] at h;cases h
 |some y =>
  rw[c] at h;obtain⟨_,_,h3,h4⟩:=eK nE c;dsimp only at h
  split at h
  ·rename_i hl;cases h;exact⟨by show p<y.2+_;lia,hl⟩
  ·cases h
theorem yU{cd:List (List (List Nat))}{k:Kd}{x:PV×Nat}(hR:sO cd)(h:mf cd z p k=some x):p<x.2/\x.2<=z.length/\(∀b,x.1=.box b->b<8):=by
 obtain⟨c0,c1,c2,rfl,l0,l1,l2⟩:=hR.fK.ex;have n1:=(hR.pf c1 (by simp)).ne
 have n2:=(hR.pf c2 (by simp)).ne
 cases k with
 |box =>
  replace h:(jH c2 z p).map (λx=>(PV.box x.1,x.2))=some x:=h
  cases c:jH c2 z p with
  |none=>rw[c] at h;cases h
  |some y=>rw[c] at h;cases h;obtain⟨h1,_,h3,h4⟩:=eK n2 c;exact⟨h3,h4,λb e=>by cases e;lia⟩
 |num =>
  replace h:(wW c1 z p).map (λx=>(PV.num x.1,x.2))=some x:=h
  cases c:wW c1 z p with
  |none=>rw[c] at h;cases h
  |some y=>rw[c] at h;cases h;exact⟨(xh n1 c).1,(xh n1 c).2,λb e=>by cases e⟩
 |go =>
  replace h:(gA z p).map (λx=>(PV.go x.1,x.2))=some x:=h
  cases c:gA z p with
  |none=>rw[c] at h;cases h
  |some y=>rw[c] at h;cases h;exact⟨(Dc c).1,(Dc c).2,λb e=>by cases e⟩
theorem dH.app{x y:List Nat}(hx:dH x)(hy:dH y):dH (x++y):=λc hc=>(K0.mp hc).elim (hx c) (hy c)
theorem dH.rep(n:Nat){v:Nat}(h:v=48\/v=49):dH (List.replicate n v):=λc hc=>by rw[(KR.mp hc).2];exact h
theorem AO{w:List Nat}{n:Nat}(h:dH w):dH (Cw.fP w n):=by
 unfold Cw.fP Cw.pad;refine dH.app (dH.app (λc hc=>h c ?_) λc hc=>.inr (JQ.mp hc)) (dH.rep _ (.inl rfl));have h1:=Lz.mp (List.dropLast_subset _ hc);exact Lz.mp ((ML _).subset h1)
theorem w8{o:List Nat}:∀{a:Option (List Nat)} {ws:List (List Nat)},(∀v,a=some v->dH v)->(∀x∈ws,dH x)->∀x∈(Cw.along Cw.fP ln o (a,ws)).2,dH x:=by
 induction o with
 |nil=>exactλ_ h=>h
 |cons t o ih =>
  intro a ws ha hw
  cases a with
  |none =>
   refine ih (a:=some (List.replicate (ln t) 48)) (λv e=>by cases e;exact dH.rep _ (.inl rfl)) λx hx=>?_
   rcases Li hx with z|z
   ·exact hw x z
   ·rw[z];exact dH.rep _ (.inl rfl)
  |some v =>
   have hv:=AO (n:=ln t) (ha v rfl);refine ih (a:=some (Cw.fP v (ln t))) (λv e=>by cases e;exact hv) λx hx=>?_
   rcases Li hx with z|z
   ·exact hw x z
   ·rw[z];exact hv
theorem ve(ls:List Int):∀x∈wordsOf Cw.fP ls,dH x:=w8 (λv e=>by cases e) λx hx=>by rw[(KR.mp hx).2];exactλc hc=>by cases hc
theorem zh{cd:List (List (List Nat))}(h:∀ws∈cd,∀w∈ws,dH w)(r:Row):dH (bB cd r):=by
 have at2:∀p,dH (aO cd p):=λp=>by
  unfold aO;rw[JI,JI]
  cases e:cd[p.1]? with
  |none=>exactλc hc=>by cases hc
  |some ws =>
   show dH (ws[p.2]?.getD [])
   cases e2:ws[p.2]? with
   |none=>exactλc hc=>by cases hc
   |some w=>exact h ws (K1 e) w (K1 e2)
 unfold bB;refine dH.app (λc hc=>?_) ?_
 ·obtain⟨p,_,hp⟩:=List.mem_flatMap.mp hc;exact at2 p c hp
 ·cases r with
  |put b n=>exactλc hc=>pV n c (List.mem_of_mem_tail hc)
  |two=>exactλc hc=>by cases hc
  |one=>exactλc hc=>by cases hc
  |jump=>exactλc hc=>by cases hc
  |zero=>exactλc hc=>by cases hc
  |halt=>exactλc hc=>by cases hc
theorem Ex(bk:List (List Int)):∀ws∈bQ bk,∀w∈ws,dH w:=λws hw=>by
 obtain⟨l,_,rfl⟩:=Ki.mp hw;exact ve l
theorem fe{cd:List (List (List Nat))}(hC:Cd cd){r:Row}{k:Nat}(hr:r.Ok k):(bB cd r).length<=136:=by
 have:=oY hC hr;unfold bB;rw[J5];lia
inductive d6 where
 |put (b n:Nat)|two (w:Fin 3) (a b:Nat)|one (w:Fin 2) (b:Nat)|jump (g:Int)|zero (b:Nat) (g:Int)|halt
inductive AD where
 |s (z:Str)|n (k:Int)
noncomputable def d6.ps:d6->List AD
 |.put b n=>[.s "put",.s (cx b),.n (n:Nat)]
 |.two w a b=>[.s (w2 w),.s (cx a),.s (cx b)]
 |.one w b=>[.s (w1 w),.s (cx b)]
 |.jump g=>[.s "jump",.n g]
 |.zero b g=>[.s "zero",.s (cx b),.n g]
 |.halt=>[.s "halt"]
noncomputable def d6.Ok:d6->Prop
 |.put b _=>b<8
 |.two _ a b=>a<8/\b<8
 |.one _ b=>b<8
 |.jump _=>True
 |.zero b _=>b<8
 |.halt=>True
noncomputable def d6.rel(e:Int):d6->d6
 |.jump g=>.jump (g-e)
 |.zero b g=>.zero b (g-e)
 |r=>r
noncomputable def qJ(x:RW×Nat):d6:=match x.1.vs with
 |[(.box b,_)]=>.one (if x.1.wi=4 then 0 else 1) b
 |[(.go d,e)]=>.jump ((e:Int)+d)
 |[(.box a,_),(.box b,_)]=>.two (if x.1.wi=1 then 0 else if x.1.wi=2 then 1 else 2) a b
 |[(.box b,_),(.num n,_)]=>.put b n
 |[(.box b,_),(.go d,e)]=>.zero b ((e:Int)+d)
 |_=>.halt
theorem HW{cd:List (List (List Nat))}{k:Kd}{y:List (PV×Nat)×Nat}(h:qF cd z [k] p=some y):∃x,mf cd z p k=some x/\y=([x],x.2):=by
 obtain⟨x,hx,h⟩:=LJ.mp h;cases h;exact⟨x,hx,rfl⟩
theorem Hs{cd:List (List (List Nat))}{k l:Kd}{y:List (PV×Nat)×Nat}(h:qF cd z [k,l] p=some y):∃x x',mf cd z p k=some x/\mf cd z x.2 l=some x'/\y=([x,x'],x'.2):=by
 obtain⟨x,hx,h⟩:=LJ.mp h;obtain⟨y',hy,rfl⟩:=JW.mp h;obtain⟨x',hx',rfl⟩:=HW hy;exact⟨x,x',hx,hx',rfl⟩
theorem eL{cd:List (List (List Nat))}{x:PV×Nat}(hR:sO cd)(h:mf cd z p .box=some x):∃b e,x=(.box b,e)/\b<8:=by
 have h8:=(yU hR h).2.2;obtain⟨v,_,rfl⟩:=JW.mp h;exact⟨_,_,rfl,h8 _ rfl⟩
theorem DW{cd:List (List (List Nat))}{x:PV×Nat}(h:mf cd z p .num=some x):∃n e,x=(.num n,e):=by
 obtain⟨v,_,rfl⟩:=JW.mp h;exact⟨_,_,rfl⟩
theorem CC{cd:List (List (List Nat))}{x:PV×Nat}(h:mf cd z p .go=some x):∃d e,x=(.go d,e):=by
 obtain⟨v,_,rfl⟩:=JW.mp h;exact⟨_,_,rfl⟩
theorem DS{cd:List (List (List Nat))}{ks:List Kd}{y:List (PV×Nat)×Nat}(hR:sO cd)(h:qF cd z ks p=some y):p<=y.2/\(p<=z.length->y.2<=z.length):=by
 induction ks generalizing p y with
 |nil=>cases h;exact⟨JD _,id⟩
 |cons k ks ih =>
  rw[qF] at h;obtain⟨x,hx,h⟩:=LJ.mp h;obtain⟨y',hy,rfl⟩:=JW.mp h;obtain⟨i1,i2⟩:=ih hy;obtain⟨j1,j2,_⟩:=yU hR hx;exact⟨by show p<=y'.2;lia,λ_=>i2 j2⟩
theorem xr(hL:oR ls)(ho:qH ls=true):Pf (wordsOf Cw.fP ls):=by
 have hc:=canon hL (K6 ho);have hg:∀(i:Nat) (h:i<(wordsOf Cw.fP ls).length),(wordsOf Cw.fP ls)[i]=(wordsOf Cw.fP ls).getD i []:=λi h=>by
  rw[JI,Jx h];rfl
 refine⟨λw hw e=>?_,λi j hi hj hne hp=>?_⟩
 ·obtain⟨i,hi,rfl⟩:=Mn.mp hw;have hi':i<ls.length:=by rw[<- hc.len];exact hi
  have h1:=hc.E9 i hi';rw[<- hg i hi,e,K2] at h1;unfold bo at h1;rw[JI,Jx hi'] at h1;have h2:=hL.2.2 _ (JN hi');have h1':0=(ls[i]).toNat:=h1;lia
 ·have hi':i<ls.length:=by rw[<- hc.len];exact hi
  have hj':j<ls.length:=by rw[<- hc.len];exact hj
  rw[hg i hi,hg j hj] at hp;have:(ls.getD i 0<ls.getD j 0\/(ls.getD i 0=ls.getD j 0/\i<j))\/(ls.getD j 0<ls.getD i 0\/(ls.getD j 0=ls.getD i 0/\j<i)):=by lia
  rcases this with h|h
  ·exact (hc.part i j hi' hj' h).not.1 hp
  ·exact (hc.part j i hj' hi' h).not.2 hp
theorem Ci{bk:List (List Int)}(h:Bk bk):∀ws∈bQ bk,Pf ws:=λws hw=>by
 obtain⟨l,hl,rfl⟩:=Ki.mp hw;obtain⟨a,b,c,e,_,_,_,h4⟩:=h;exact xr (h4 l hl).1 (h4 l hl).2
theorem qE{bk:List (List Int)}(h:Bk bk):Jl (bQ bk):=by
 refine⟨⟨h.cd,Ci h⟩,λws hw w hw2=>?_⟩;obtain⟨l,hl,rfl⟩:=Ki.mp hw;obtain⟨a,b,c,e,_,_,_,h4⟩:=h;have hc:=canon (h4 l hl).1 (K6 (h4 l hl).2);obtain⟨i,hi,rfl⟩:=Mn.mp hw2;have hi':i<l.length:=by rw[<- hc.len];exact hi
 have h1:=hc.E9 i hi';rw[JI,Jx hi] at h1;unfold bo at h1;rw[JI,Jx hi'] at h1;have h2:=(h4 l hl).1.2.2 _ (JN hi');have h3:((wordsOf Cw.fP l)[i]).length=(l[i]).toNat:=h1;lia
noncomputable def Ar.v:Ar->V
 |.s z=>.str z
 |.n k=>.int (k:Nat)
noncomputable def Row.vs(r:Row):List V:=r.ps.map Ar.v
noncomputable def Pk.v:Pk->V
 |.box b=>.str (cx b)
 |.num n=>.int (n:Nat)
 |.goal g=>.int (g:Nat)
theorem Row.CZ(r:Row):r.vs=.str r.wd::r.eA.map Pk.v:=by cases r<;>rfl
noncomputable def PV.v(behind:Nat):PV->V
 |.box b=>.str (cx b)
 |.num n=>.int (n:Int)
 |.go d=>.int ((behind:Int)+d)
noncomputable def PV.l:PV->V
 |.box b=>.str (cx b)
 |.num n=>.int (n:Int)
 |.go d=>.int d
noncomputable def RW.v(r:RW):List V:=.str (cw.getD r.wi (Str.ofString ""))::r.vs.map λx=>x.1.v x.2
noncomputable def RW.l(r:RW):List V:=.str (cw.getD r.wi (Str.ofString ""))::r.vs.map λx=>x.1.l
noncomputable def AD.v:AD->V
 |.s z=>.str z
 |.n k=>.int k
noncomputable def d6.vs(r:d6):List V:=r.ps.map AD.v
theorem Hm{cd:List (List (List Nat))}{x:RW×Nat}(hR:sO cd)(h:Af cd z p=some x):(qJ x).Ok/\x.1.v=(qJ x).vs/\x.1.l=((qJ x).rel x.2).vs/\p<x.2/\x.2<=z.length:=by
 obtain⟨c0,c1,c2,rfl,l0,l1,l2⟩:=hR.fK.ex;obtain⟨v,hv,h⟩:=LJ.mp h;obtain⟨y,hy,rfl⟩:=JW.mp h;obtain⟨w1,_,w3,w4⟩:=eK (hR.pf c0 (by simp)).ne hv
 obtain⟨i1,i2⟩:=DS hR hy;obtain⟨wi,e⟩:=v;dsimp only at *;refine and_assoc.mp (and_assoc.mp ⟨?_,by show p<y.2;lia,i2 w4⟩)
 have far:∀(e:Nat) (d:Int),(e:Int)+d-(e:Int)=d:=λe d=>by lia
 have:wi=0\/wi=1\/wi=2\/wi=3\/wi=4\/wi=5\/wi=6\/wi=7\/wi=8:=by lia
 rcases this with rfl|rfl|rfl|rfl|rfl|rfl|rfl|rfl|rfl
 ·obtain⟨x,x',hx,hx',rfl⟩:=Hs hy;obtain⟨b,e,rfl,hb⟩:=eL hR hx;obtain⟨n,e',rfl⟩:=DW hx';exact⟨⟨hb,rfl⟩,rfl⟩
 ·obtain⟨x,x',hx,hx',rfl⟩:=Hs hy;obtain⟨b,e,rfl,hb⟩:=eL hR hx;obtain⟨n,e',rfl,hb'⟩:=eL hR hx';exact⟨⟨⟨hb,hb'⟩,rfl⟩,rfl⟩
 ·obtain⟨x,x',hx,hx',rfl⟩:=Hs hy;obtain⟨b,e,rfl,hb⟩:=eL hR hx;obtain⟨n,e',rfl,hb'⟩:=eL hR hx';exact⟨⟨⟨hb,hb'⟩,rfl⟩,rfl⟩
 ·obtain⟨x,x',hx,hx',rfl⟩:=Hs hy;obtain⟨b,e,rfl,hb⟩:=eL hR hx;obtain⟨n,e',rfl,hb'⟩:=eL hR hx';exact⟨⟨⟨hb,hb'⟩,rfl⟩,rfl⟩
 ·obtain⟨x,hx,rfl⟩:=HW hy;obtain⟨b,e,rfl,hb⟩:=eL hR hx;exact⟨⟨hb,rfl⟩,rfl⟩
 ·obtain⟨x,hx,rfl⟩:=HW hy;obtain⟨b,e,rfl,hb⟩:=eL hR hx;exact⟨⟨hb,rfl⟩,rfl⟩
 ·obtain⟨x,hx,rfl⟩:=HW hy;obtain⟨d,e,rfl⟩:=CC hx;refine⟨⟨trivial,rfl⟩,?_⟩;show [_,V.int d]=[_,.int ((e:Int)+d-(e:Int))];rw[far];rfl
 ·obtain⟨x,x',hx,hx',rfl⟩:=Hs hy;obtain⟨b,e,rfl,hb⟩:=eL hR hx;obtain⟨d,e',rfl⟩:=CC hx';refine⟨⟨hb,rfl⟩,?_⟩;show [_,_,V.int d]=[_,_,.int ((e':Int)+d-(e':Int))];rw[far];rfl
 ·cases hy;exact⟨⟨trivial,rfl⟩,rfl⟩
noncomputable def gE(H:Hp)(p dq:Addr)(n:Nat):Prop:=∃(cells:List Int) (i t z:Int),H p=some (.lst [.ref dq,.int i,.int t,.int z])/\H dq=some (.lst (iV cells))/\(∀c∈cells,0<=c)/\0<=i/\i<=cells.length/\cells.length<=63/\0<=t/\t<=n
theorem gE.mono{p:Addr}{n m:Nat}(h:gE H p dq n)(hm:n<=m):gE H p dq m:=by
 obtain⟨cells,i,t,z,h1,h2,h3,h4,h5,h6,h7,h8⟩:=h;exact⟨cells,i,t,z,h1,h2,h3,h4,h5,h6,h7,by lia⟩
theorem gE.keep{p:Addr}{n:Nat}(h:gE H p dq n)(k:KB ex H H')(n1:p∉ex)(n2:dq∉ex):gE H' p dq n:=by
 obtain⟨cells,i,t,z,h1,h2,h3⟩:=h;exact⟨cells,i,t,z,k _ _ h1 n1,k _ _ h2 n2,h3⟩
theorem gE.kb{p:Addr}{n:Nat}(h:gE H p dq n)(k:KB [] H H'):gE H' p dq n:=h.keep k (by simp) (by simp)
theorem gE.lst{p:Addr}{n:Nat}(h:gE H p dq n):∀b∈[p,dq],∃ys,H b=some (.lst ys):=by
 obtain⟨cells,i,t,z,h1,h2,h3⟩:=h;intro b hb;simp only[J9,J_,KA] at hb;rcases hb with rfl|rfl
 ·exact⟨_,h1⟩
 ·exact⟨_,h2⟩
theorem gE.new{p l:Addr}{n:Nat}(h:gE H p dq n)(hl:H l=none):l∉[p,dq]:=λz=>by
 obtain⟨ys,e⟩:=h.lst l z;rw[hl] at e;cases e
theorem gE.tup{p:Addr}{n:Nat}(h:gE H p dq n)(k:KB [p,dq] H H')(e:H a=some (.tup xs)):H' a=some (.tup xs):=Ea k h.lst e
theorem FU(l:List Nat)(a:Nat):(iV (nZ l)).eraseIdx a=iV (nZ (l.eraseIdx a)):=by
 unfold iV nZ;simp only[Lk,JR,N8,List.map_drop]
theorem cY(l:List Nat):(iV (nZ l)).length=l.length:=by rw[bU,bp]
noncomputable def CO(K:W.Frag):Sp:=λvs H Q _=>∃(a:Addr) (ls:List Int),vs=[.ref a]/\(H a=some (.tup (iV ls))\/H a=some (.lst (iV ls)))/\oR ls/\∀H',KB [] H H'->Q (.bl (qH ls)) H'
theorem qL(h:H a=some (.tup xs)\/H a=some (.lst xs)):∃b,sq H a=some (b,xs):=h.elim (λh=>⟨_,aC h⟩) λh=>⟨_,az h⟩
theorem yN(ha:H a=some (.tup (iV ls))\/H a=some (.lst (iV ls)))(hn:ls.length<64)(q:∀ns':List Int,ns'.Perm ls->ns'.Pairwise (·<=·)->∀l,H l=none->Q (.ref l) (upd H l (.lst (ns'.map V.int)))):Y.yb K [.ref a] H Q:=ha.elim (λh=>.inl ⟨a,ls,rfl,bz.of h,hn,q⟩) λh=>.inr ⟨a,ls,rfl,bI.of h,hn,q⟩
theorem E8(T:Txt K mg)(F:HasFn K mg "can_be" lO ["lengths"]):au P w K mg base aY 1 "can_be" ["lengths"] (CO K):=by
 refine F.eW cH (λvs H Q E h=>?_) (λf cdv A outer s H vs Q E hr h=>?_)
 ·obtain⟨a,ls,rfl,_⟩:=h;rfl
 ·have hu:=aP hr;obtain⟨a,ls,rfl,ha,hL,q⟩:=h;refine⟨_,(Z.ao (Z.se (i:=1) cH.nd Z.int)
   (Z.ao (Z.se (i:=2) cH.nd Z.int)
   (Z.ao (Z.se (i:=3) cH.nd (Z.cb (Z.cJ K rfl) rfl T.cy (by decide +kernel) (Z.cons (Z.v 0) Z.nil)))
   (Z.ao (Z.lg Kl rfl (Z.any K rfl (Z.cb (Y.si K rfl) rfl T.pG (by decide +kernel) (Z.cons (Z.v 0) Z.nil))) (Z.aT (i:=4) cH.nd rfl (by right)) (Z.ao (Z.dA (Z.aZ bC (Z.v 1) Z.int) (Z.aA (Z.ret Z.bl)) Z.bH)
   (Z.ao (Z.ia Kl (Z.tw (Z.vn (Z.aZ eF (Z.v 2) (Z.v 4)) (Z.mV (Z.aZ eF (Z.v 1) (Z.v 3))))) (Z.ao (Z.se (i:=1) cH.nd (Z.op fI (Z.v 1) Z.int))
   (Z.aA (Z.se (i:=2) cH.nd (Z.op (Z.bf K rfl) (Z.v 2) Z.int)))))
   (Z.ao (Z.dA (Z.aZ p9 (Z.v 1) (Z.v 3)) (Z.aA (Z.ret Z.bl)) Z.bH)
   (Z.ao (Z.se (i:=1) cH.nd (Z.op cK (Z.v 1) Z.int))
   (Z.aA (Z.se (i:=3) cH.nd (Z.op cK (Z.v 3) Z.int))))))))
   (Z.aA (Z.ret Z.bl)))))),?_⟩
  refine ax λN hN=>?_;nofun;subst hN;refine ax λN hN=>?_;nofun;subst hN;obtain⟨kd,hsq⟩:=qL ha;refine ax λN hN=>?_;exists hsq;subst hN;refine ax λN hN=>?_;nofun;refine yN ha (by have:=hL.2.1;lia) λrs hp hs l hl=>?_
  obtain⟨k1,s1⟩:=dF hl (.lst (rs.map V.int));generalize upd H l _=H1 at *;simp only[az s1];refine iZ (xs:=iV rs) (λi σ H'=>∃(f d n:Int) (s4:Option V),H1=H'/\(∀x∈rs.drop i,1<=x/\x<=40/\d<=x)/\0<=f/\0<=d/\n=(rs.drop i).length/\(qH ls=true ↔ Kr.fit ((rs.drop i).map Int.toNat) f.toNat d.toNat 40)/\σ=[some (.ref a),some (.int f),some (.int d),some (.int n),s4]) ⟨1,0,_,none,rfl,λx hx=>by have:=hL.2.2 x (hp.mem_iff.mp hx);lia,by decide,by decide,by rw[Lf,hp.length_eq,bU],?_,rfl⟩ ?_ ?_ ?_
  ·unfold qH KS Kr.fit;rw[LZ,Lf,Kr.gR (hp.map Int.toNat),show (1:Int).toNat*2^(40-(0:Int).toNat)=2^40 from rfl]
  ·rintro i σ H' _ ⟨f,d,n,s4,rfl,_⟩;exact bI.of s1
  ·rintro i x σ H' hx ⟨f,d,n,s4,rfl,hb,f0,d0,hn,hi,rfl⟩;obtain⟨hir,rfl⟩:=lT hx;have ed:=KO hir;have hs2:(rs.drop i).Pairwise (·<=·):=List.Pairwise.drop hs;rw[ed] at hb hn hi hs2;generalize rs[i]=l at *;generalize rs.drop (i+1)=r at *;obtain⟨hl1,hl2,hl3⟩:=hb l (by simp)
   have hle:∀x∈r,l<=x:=(Kk.mp hs2).1;unfold b6;refine ax λM hM=>?_;by_cases hf:f=0
   ·exists JE hf;have:qH ls=false:=by
     cases c:qH ls with
     |false=>rfl
     |true=>have:=hi.mp c;rw[hf] at this;exact absurd this Kr.wX
    rw[this] at q;exact q _ k1
   ·exists JA hf;subst hM;refine ax λM hM=>?_;refine⟨λm σ H'=>H1=H'/\∃f d:Int,0<f/\0<=d/\d<=l/\m=(l-d).toNat/\(qH ls=true ↔ Kr.fit ((l::r).map Int.toNat) f.toNat d.toNat 40)/\σ=[some (.ref a),some (.int f),some (.int d),some (.int n),some (.int l)],⟨_,rfl,f,d,by lia,d0,hl3,rfl,hi,rfl⟩,?_⟩
    rintro m σ H' ⟨rfl,f,d,f0,d0,dl,rfl,hi,rfl⟩;have after:(d=l\/n<=f)->M [some (.ref a),some (.int f),some (.int d),some (.int n),some (.int l)] H1:=λhc=>by
     subst hM;refine ax λM hM=>?_;by_cases h3:n<=f
     ·exists JE h3;have:qH ls=true:=hi.mpr (Kr.qR (λx hx=>by
       obtain⟨y,hy,rfl⟩:=Ki.mp hx;rcases J9.mp hy with rfl|hy
       ·lia
       ·have:=hle y hy;lia) (by rw[Jz];lia))
      rw[this] at q;exact q _ k1
     ·exists JA h3;subst hM;refine ax λM hM=>?_;nofun;subst hM;refine yy λM hM=>?_;nofun;rw[hM];have hd:d=l:=hc.resolve_right h3;subst hd;refine⟨f-1,d,n-1,some _,rfl,λx hx'=>⟨(hb x (by simp[hx'])).1,(hb x (by simp[hx'])).2.1,hle x hx'⟩,by lia,d0,by rw[hn,JK];lia,?_,rfl⟩
      rw[hi,Kg,Kr.zK (by lia),show (f-1).toNat=f.toNat-1 by lia]
    by_cases c1:d<l
    ·by_cases c2:f<n
     ·exists JE c1,JE c2;refine⟨λσ' H'=>∃m',m'<(l-d).toNat/\(H1=H'/\∃f d:Int,0<f/\0<=d/\d<=l/\m'=(l-d).toNat/\(qH ls=true ↔ Kr.fit ((l::r).map Int.toNat) f.toNat d.toNat 40)/\σ'=[some (.ref a),some (.int f),some (.int d),some (.int n),some (.int l)]),λ_ _ h=>h,?_⟩;refine⟨.inr (by decide),?_⟩
      refine⟨_,?_,rfl,f*2,d+1,by lia,by lia,by lia,rfl,?_,rfl⟩
      ·lia
      ·rw[hi,Kr.rf (l:=l.toNat) (by lia) (by lia),show (f*2).toNat=f.toNat*2 by lia,show (d+1).toNat=d.toNat+1 by lia]
     ·exists JE c1,JA c2;exact after (.inr (by lia))
    ·exists JA c1;exact after (.inl (by lia))
  ·rintro σ H' ⟨f,d,n,s4,rfl,_,_,_,_,hi,rfl⟩;rw[bU,LD] at hi;show N _ _;subst hN;nofun;have:qH ls=true:=hi.mpr (JL _);rw[this] at q;exact q _ k1
noncomputable def Jj:Option (List Nat)->V
 |none=>.aR
 |some w=>.str (wd w)
theorem rT(ws:List (List Nat)):(wV ws).length=ws.length:=Jz ..
noncomputable def xQ(K:W.Frag):Sp:=λvs H Q _=>∃(a:Addr) (ls:List Int),vs=[.ref a]/\H a=some (.tup (iV ls))/\oR ls/\qH ls=true/\∀b H',KB [] H H'->H' b=some (.tup (wV (wordsOf Cw.fP ls)))->Q (.ref b) H'
theorem AL(T:Txt K mg)(F:HasFn K mg "code_of" dm ["lengths"])(hcan_be:au P w K mg base aY 1 "can_be" ["lengths"] (CO K))(hword_behind:au P w K mg base aY 1 "word_behind" ["ahead","length"] Hk):au P w K mg base aY 4 "code_of" ["lengths"] (xQ K):=by
 obtain⟨c,Pt,htab,hcc⟩:=T.pO.ex;refine F.Ij ee (λvs H Q E h=>?_) (λf cdv A outer s H vs Q E hr hm fK h=>?_)
 ·obtain⟨a,ls,rfl,_⟩:=h;rfl
 ·have:=hcc _ _ ⟨hm,fK⟩;subst this;have hu:=aP hr;obtain⟨a,ls,rfl,ha,hL,ho,q⟩:=h;refine⟨_,(Z.ao (Z.dA (Z.EZ (Z.uZ K rfl (Z.fc hcan_be (Z.cons (Z.v 0) Z.nil)))) (Z.aA Z.HX) Z.bH)
   (Z.ao (Z.sec (j:=1) ee.nd (osc:=af dm) (ON:=["lengths","words","ahead","thing"]) (own:=["length"]) (N:=["length","lengths","words","ahead","thing"]) (aG.of rfl (by decide +kernel)) (Z.any K rfl (Z.v 0)) (λnd _ _ _ _=>(Z.aT (i:=0) nd rfl (by right))) (λ_ _ _ _=>Z.lZ) (λ_ _ _ _=>Z.str))
   (Z.ao (Z.se (i:=2) ee.nd Z.aR)
   (Z.ao (Z.lg Kl rfl (Z.any K rfl (Z.FZ (k:=0) (j:=0) K rfl (by decide) htab rfl rfl rfl rfl rfl T.pG (Z.cons (Z.ct Y.qB rfl T.fA (by decide +kernel) (Z.cons (Z.cb (Z.cJ K rfl) rfl T.cy (by decide +kernel) (Z.cons (Z.v 0) Z.nil)) Z.nil)) Z.nil) (hr.mono (by decide)) rfl (by decide) rfl rfl rfl rfl rfl rfl rfl (λ_ _ _ _=>rfl))) (Z.aT (i:=3) ee.nd rfl (by right)) (Z.ao (Z.asg (Z.fc hword_behind (Z.cons (Z.v 2) (Z.cons (Z.ix (Z.aM K rfl hu) (Z.v 0) (Z.v 3)) Z.nil))) (Z.z_ (Z.v 1) (Z.v 3)))
   (Z.aA (Z.se (i:=2) ee.nd (Z.ix (Z.aM K rfl hu) (Z.v 1) (Z.v 3))))))
   (Z.aA (Z.ret (Z.ct (Z.b_ K rfl) rfl T.cc (by decide +kernel) (Z.cons (Z.v 1) Z.nil)))))))),?_⟩
  refine ax λN hN=>?_;nofun;refine⟨a,ls,rfl,.inl ha,hL,λH1 k1=>?_⟩;exists ho,Bool.not_true;rw[JA (λz=>Bool.noConfusion z),hN];clear hN N;have ha1:=k1.n ha;refine ax λN hN=>?_;exists aC ha1;refine cq (xs:=iV ls) (JF (show _<=20 by rw[bU];exact hL.2.1) (by decide)) (λD i ys H'=>H' D=some (.lst ys)/\ys=wV (List.replicate i [])/\KB [] H1 H'/\H1 D=none) (λD hD=>⟨ae,rfl,KB.new hD,hD⟩) (λD i ys H' h=>⟨h.1,by rw[h.2.1,rT,JS]⟩) (λD i ys H' h=>bz.of (h.2.2.1 _ _ ha1 (by simp))) ?_ ?_
  ·rintro D i ys H' x R hx ⟨g1,rfl,g3,g4⟩ kk;nofun;refine kk _ _ g1 ⟨ae,?_,λb o e _=>?_,g4⟩
   ·rw[List.replicate_succ',wV,wV,JR];rfl
   ·rw[aj (aq e g4)];exact g3 b o e (by simp)
  rintro D ys H2 ⟨g1,rfl,g3,g4⟩;rw[bU] at g1;show N _ _;subst hN;refine ax λN hN=>?_;nofun;subst hN;have h02:=k1.trans g3;have D0:H D=none:=k1.free (by simp) g4
  have ha2:=h02.n ha;refine ax λN hN=>?_;exists aC ha2;refine .inl ⟨_,rfl,λr hr0=>?_⟩;have k3:KB [] H2 (upd H2 r (.mE 0 ((iV ls).length:Nat))):=KB.new hr0;have s3:upd H2 r (.mE 0 ((iV ls).length:Nat)) r=some (.mE 0 (ls.length:Nat)):=by rw[ae,bU]
  generalize upd H2 r (.mE 0 ((iV ls).length:Nat))=H3 at *;have le:(kA ls.length).length=ls.length:=by rw[Jz,Ky]
  have ha3:=k3.n ha2;refine⟨r,kA ls.length,ls,rfl,⟨ls.length,s3,rfl⟩,le.symm,by rw[le];have:=hL.2.1;lia,λi v k e1 e2 H' g=>?_,λH4 l g hl=>?_⟩
  ·have hi:i<ls.length:=(J6.mp e2).1;have e3:(kA ls.length)[i]?=some (.int (i:Int)):=by simp[hi]
   rw[e3] at e1;cases e1;exact⟨_,a,iV ls,rfl,rfl,bz.of (g.same _ _ ha3),bq (by unfold iV;rw[JC,e2];rfl)⟩
  have eo:jN ls (kA ls.length)=(b7 ls).map λk=>V.int ((k:Nat):Int):=A7 ..;rw[eo];have k4:KB [] H3 (upd H4 l (.lst ((b7 ls).map λk=>V.int ((k:Nat):Int)))):=λb o e _=>by rw[aj (aq (g.same _ _ e) hl)];exact g.same _ _ e
  have s4:upd H4 l (.lst ((b7 ls).map λk=>V.int ((k:Nat):Int))) l=_:=ae;have gD4:=k4.n (k3.n g1);have lD:l≠D:=λz=>by
   have:=g.same _ _ (k3.n g1);rw[<- z,hl] at this;cases this
  generalize upd H4 l (.lst ((b7 ls).map λk=>V.int ((k:Nat):Int)))=H5 at *;have h05:KB [] H H5:=h02.trans (k3.trans k4);have a5:a≠D:=λz=>by rw[z,D0] at ha;cases ha
  clear k3 k4 g hl hr0 s3 ha3 le eo g1 h02 ha2 g3 g4 ha1 k1;refine iZ (xs:=(b7 ls).map λk=>V.int ((k:Nat):Int)) (λi σ H'=>∃o:Option V,i<=(b7 ls).length/\(∀v,(fz ls ((b7 ls).take i)).1=some v->v.length<=40)/\H' D=some (.lst (wV (fz ls ((b7 ls).take i)).2))/\H' l=some (.lst ((b7 ls).map λk=>V.int ((k:Nat):Int)))/\KB [] H H'/\σ=[some (.ref a),some (.ref D),some (Jj (fz ls ((b7 ls).take i)).1),o]) ⟨none,JL _,(λv z=>by cases z),gD4,s4,h05,rfl⟩ (λi σ H' _ h=>by obtain⟨o,_,_,_,h,_⟩:=h;exact bI.of h) ?_ ?_
  ·rintro i x σ H' hx ⟨o,hi,hw,gD,gl,h0,rfl⟩;have hio:i<(b7 ls).length:=by have:=(J6.mp hx).1;rw[Jz] at this;exact this
   obtain rfl:x=.int (((b7 ls)[i]:Nat):Int):=by
    rw[JC,Jx hio] at hx;exact (Option.some.inj hx).symm
   have hth:(b7 ls)[i]<ls.length:=jI (JN hio);have eT:(b7 ls).take (i+1)=(b7 ls).take i++[(b7 ls)[i]]:=by rw[Ko,Jx hio];rfl
   rw[eT];generalize (b7 ls)[i]=th at *;generalize (b7 ls).take i=done at *;have ex:bV (iV ls) (th:Int)=some (.int ls[th]):=mI hth;have hlt:=hL.2.2 _ (JN hth);have en:ls[th]=((bo ls th:Nat):Int):=by
    unfold bo;rw[JI,Jx hth];simp;lia
   have hn20:bo ls th<=40:=by lia
   have eD:fz ls (done++[th])=Cw.along Cw.fP (bo ls) [th] (fz ls done):=Cw.iL _ _ _;have hwl:(fz ls done).2.length=ls.length:=EB ls done;have gt:=aC (h0.n ha);obtain⟨n,hn⟩:∃n,bo ls th=n:=⟨_,rfl⟩;rw[hn] at en hn20;have fin:∀y:List Nat,y.length<=40->fz ls (done++[th])=(some y,(fz ls done).2.set th y)->∀M,M=(λσ H'=>∃o:Option V,i+1<=(b7 ls).length/\(∀v,(fz ls (done++[th])).1=some v->v.length<=40)/\H' D=some (.lst (wV (fz ls (done++[th])).2))/\H' l=some (.lst ((b7 ls).map λk=>V.int ((k:Nat):Int)))/\KB [] H H'/\σ=[some (.ref a),some (.ref D),some (Jj (fz ls (done++[th])).1),o])->M [some (.ref a),some (.ref D),some (.str (wd y)),some (.int (th:Nat))] (upd H' D (.lst ((wV (fz ls done).2).set th (.str (wd y))))):=λy hy e M hM=>by
    rw[hM,e];refine⟨some _,hio,λv z=>by cases z;exact hy,?_,by rw[aj lD];exact gl,λb u e _=>by rw[aj (aq e D0)];exact h0.n e,rfl⟩
    rw[ae];unfold wV;rw[OE]
   have xk:kK (wV (fz ls done).2).length (th:Int)=some th:=by rw[EE (by lia) (by rw[rT,hwl];lia),Kb]
   have setI:∀y:List Nat,bV ((wV (fz ls done).2).set th (.str (wd y))) (th:Int)=some (.str (wd y)):=λy=>bq (LU (by rw[rT,hwl];exact hth))
   unfold b6;refine ax λM hM=>?_;exists gt,ex
   cases hs:(fz ls done).1 with
   |none =>
    refine⟨n,hn20,.inl ⟨by rw[en];rfl,?_⟩⟩
    exists gD,xk;subst hM;dsimp only;refine yy λM hM=>?_;exists setI;refine fin _ (by rw[List.length_replicate];exact hn20) ?_ M hM
    rw[eD];generalize fz ls done=st at *;obtain⟨x,ws⟩:=st;obtain rfl:x=none:=hs;subst hn;rfl
   |some v =>
    refine⟨n,hn20,.inr ⟨v,by rw[en];rfl,hw v hs,?_⟩⟩
    exists gD,xk;subst hM;dsimp only;refine yy λM hM=>?_;exists setI;refine fin _ (tF (hw v hs) hn20) ?_ M hM;rw[eD];generalize fz ls done=st at *;obtain⟨x,ws⟩:=st;obtain rfl:x=some v:=hs;subst hn;rfl
  ·rintro σ H' ⟨o,_,_,gD,_,h0,rfl⟩;rw[Jz,Kq] at gD;show N _ _;subst hN;exists az gD;exactλb hb=>q b _ (h0.trans (KB.new hb)) ae
noncomputable def sQ(H:Hp)(ca:Addr)(cd:List (List (List Nat))):Prop:=∃a0 a1 a2,H ca=some (.lst [.ref a0,.ref a1,.ref a2])/\H a0=some (.tup (wV (cd.getD 0 [])))/\H a1=some (.tup (wV (cd.getD 1 [])))/\H a2=some (.tup (wV (cd.getD 2 [])))
theorem sQ.keep{ca:Addr}{cd:List (List (List Nat))}(h:sQ H ca cd)(k:KB ex H H')(n:ca∉ex)(hx:∀b∈ex,∀xs,H b≠some (.tup xs)):sQ H' ca cd:=by
 obtain⟨a0,a1,a2,h1,h2,h3,h4⟩:=h;exact⟨a0,a1,a2,k _ _ h1 n,k _ _ h2 λz=>hx _ z _ h2,k _ _ h3 λz=>hx _ z _ h3,k _ _ h4 λz=>hx _ z _ h4⟩
theorem sQ.kb{ca:Addr}{cd:List (List (List Nat))}(h:sQ H ca cd)(k:KB [] H H'):sQ H' ca cd:=h.keep k (by simp) (by simp)
noncomputable def Ia(H:Hp)(v:V):Option (PV×Nat)->Prop
 |none=>v=.aR
 |some x=>∃t,v=.ref t/\H t=some (.tup [x.1.v x.2,.int (x.2:Nat)])
theorem GA{b:Nat}(h:b<8):bV [V.str "a",.str "b",.str "c",.str "d",.str "e",.str "f",.str "g",.str "h"] (b:Int)=some (.str (cx b)):=by
 show bV (FH.map V.str) (b:Int)=_;exact bq (by rw[JC,(yr h).1];rfl)
noncomputable def p7(K:W.Frag):Sp:=λvs H Q _=>∃(ca:Addr) (cd:List (List (List Nat))) (z:List Nat) (p:Nat) (k:Kd),vs=[.str k.s,.ref ca,.str (wd z),.int (p:Nat)]/\sQ H ca cd/\sO cd/\dH z/\z.length<=1000000/\∀v H',KB [] H H'->Ia H' v (mf cd z p k)->Q v H'
theorem vM(T:Txt K mg)(F:HasFn K mg "part_at" jk ["kind","codes","bits","place"])(hcoded_at:au P w K mg base aY 2 "coded_at" ["code","bits","place"] (iG K))(hnumber_at:au P w K mg base aY 3 "number_at" ["code","bits","place"] (uL K))(hgoal_at:au P w K mg base aY 3 "goal_at" ["bits","place"] (pT K)):au P w K mg base aY 4 "part_at" ["kind","codes","bits","place"] (p7 K):=by
 obtain⟨u1,hg_OF_CLASSES,hr_OF_CLASSES⟩:=T.i0;obtain⟨u2,hg_OF_BOXES,hr_OF_BOXES⟩:=T.lL;obtain⟨aB,hg_BOXES,sB⟩:=T.jS;have hr_BOXES:RelV (.ref aB) (.ref aB):=rfl;refine F.eW lr (λvs H Q E h=>?_) (λf cdv A outer s H vs Q E hr h=>?_)
 ·obtain⟨ca,cd,z,p,k,rfl,_⟩:=h;rfl
 ·have hu:=aP hr;obtain⟨ca,cd,z,p,k,rfl,hc,hR,hb,hz,q⟩:=h;refine⟨_,(Z.ao (Z.dA (Z.aZ bC (Z.v 0) Z.str) (Z.aA (Z.ret (Z.fc hnumber_at (Z.cons (Z.ix (Z.aM K rfl hu) (Z.v 1) (Z.glob rfl hg_OF_CLASSES hr_OF_CLASSES)) (Z.cons (Z.v 2) (Z.cons (Z.v 3) Z.nil)))))) Z.bH)
   (Z.ao (Z.dA (Z.aZ bC (Z.v 0) Z.str) (Z.aA (Z.ret (Z.fc hgoal_at (Z.cons (Z.v 2) (Z.cons (Z.v 3) Z.nil))))) Z.bH)
   (Z.ao (Z.se (i:=4) lr.nd (Z.fc hcoded_at (Z.cons (Z.ix (Z.aM K rfl hu) (Z.v 1) (Z.glob rfl hg_OF_BOXES hr_OF_BOXES)) (Z.cons (Z.v 2) (Z.cons (Z.v 3) Z.nil)))))
   (Z.aA (Z.ret (Z.Bf (Z.aZ cZ (Z.v 4) Z.aR) Z.aR (Z.tup (Z.cons (Z.ix (Z.gZ K rfl) (Z.glob rfl hg_BOXES hr_BOXES) (Z.ix (Z.aM K rfl hu) (Z.v 4) Z.int)) (Z.cons (Z.ix (Z.aM K rfl hu) (Z.v 4) Z.int) Z.nil))))))))),?_⟩
  obtain⟨c0,c1,c2,rfl,l0,l1,l2⟩:=hR.fK.ex;have n1:=(hR.pf c1 (by simp)).ne
  have n2:=(hR.pf c2 (by simp)).ne
  obtain⟨a0,a1,a2,g,g0,g1,g2⟩:=hc;have sg:=az g;refine ax λN hN=>?_
  cases k with
  |box =>
   replace q:∀v H',KB [] H H'->Ia H' v ((jH c2 z p).map λx=>(.box x.1,x.2))->Q v H':=q
   exists JA (by decide +kernel:¬ Kd.s .box=Str.ofString "number")
   subst hN;refine ax λN hN=>?_;exists JA (by decide +kernel:¬ Kd.s .box=Str.ofString "goal")
   subst hN;refine ax λN hN=>?_;exists sg;refine⟨a2,c2,z,p,rfl,bz.of g2,n2,by lia,hz,λv H1 k1 o1=>?_⟩
   subst hN
   cases c:jH c2 z p with
   |none =>
    rw[c] at q o1;obtain rfl:v=.aR:=o1;nofun;exact q _ _ k1 rfl
   |some x =>
    rw[c] at q o1;have hb:=(eK n2 c).1;obtain⟨t,rfl,ht⟩:=o1;exists JA (show ¬ V.ref t=V.aR from V.noConfusion),aC ht;refine⟨aB,_,_,_,rfl,rfl,sB H1,GA (show x.1<8 by lia),?_⟩
    exists aC ht;exact⟨by decide,λb2 hb2=>q _ _ (k1.trans (KB.new hb2)) ⟨b2,rfl,ae⟩⟩
  |num =>
   replace q:∀v H',KB [] H H'->Ia H' v ((wW c1 z p).map λx=>(.num x.1,x.2))->Q v H':=q
   exists JE (show Kd.s .num=Str.ofString "number" from rfl),sg;refine⟨a1,c1,z,p,rfl,bz.of g1,n1,by lia,hb,hz,λv H1 k1 o1=>q v H1 k1 ?_⟩
   cases c:wW c1 z p with
   |none=>rw[c] at o1;exact o1
   |some x=>rw[c] at o1;exact o1
  |go =>
   replace q:∀v H',KB [] H H'->Ia H' v ((gA z p).map λx=>(.go x.1,x.2))->Q v H':=q
   exists JA (by decide +kernel:¬ Kd.s .go=Str.ofString "number")
   subst hN;refine ax λN hN=>?_;exists JE (show Kd.s .go=Str.ofString "goal" from rfl);refine⟨z,p,rfl,hb,hz,λv H1 k1 o1=>q v H1 k1 ?_⟩
   cases c:gA z p with
   |none=>rw[c] at o1;exact o1
   |some x=>rw[c] at o1;exact o1
noncomputable def HJ(H:Hp)(v:V):Option (RW×Nat)->Prop
 |none=>v=.aR
 |some x=>∃t r,v=.ref t/\H t=some (.tup [.ref r,.int (x.2:Nat)])/\H r=some (.tup x.1.v)
noncomputable def nR(K:W.Frag):Sp:=λvs H Q _=>∃(ca:Addr) (cd:List (List (List Nat))) (z:List Nat) (p:Int),vs=[.ref ca,.str (wd z),.int p]/\sQ H ca cd/\sO cd/\dH z/\z.length<=1000000/\∀v H',KB [] H H'->HJ H' v (wG cd z p)->Q v H'
noncomputable def e7:=bR
theorem xI(T:Txt K mg)(F:HasFn K mg "row_at" lE ["codes","bits","place"])(hcoded_at:au P w K mg base aY 2 "coded_at" ["code","bits","place"] (iG K))(hpart_at:au P w K mg base aY 4 "part_at" ["kind","codes","bits","place"] (p7 K)):au P w K mg base aY 5 "row_at" ["codes","bits","place"] (nR K):=by
 obtain⟨u1,hg_OF_WORDS,hr_OF_WORDS⟩:=T.kj;obtain⟨dS,hg_SHAPES,hd0⟩:=T.lh;have hd_SHAPES:lJ K dS e7:=hd0;have hr_SHAPES:RelV (.ref dS) (.ref dS):=rfl;clear hd0;refine F.eW cS (λvs H Q E h=>?_) (λf cdv A outer s H vs Q E hr h=>?_)
 ·obtain⟨ca,cd,z,p,rfl,_⟩:=h;rfl
 ·have hu:=aP hr;obtain⟨ca,cd,z,p,rfl,hc,hR,hb,hz,q⟩:=h;refine⟨_,(Z.ao (Z.dA (Z.aZ eF (Z.v 2) Z.int) (Z.aA (Z.ret Z.aR)) Z.bH)
   (Z.ao (Z.se (i:=3) cS.nd (Z.fc hcoded_at (Z.cons (Z.ix (Z.aM K rfl hu) (Z.v 0) (Z.glob rfl hg_OF_WORDS hr_OF_WORDS)) (Z.cons (Z.v 1) (Z.cons (Z.v 2) Z.nil)))))
   (Z.ao (Z.dA (Z.aZ cZ (Z.v 3) Z.aR) (Z.aA (Z.ret Z.aR)) Z.bH)
   (Z.ao (Z.se (i:=4) cS.nd (Z.ix (Z.aM K rfl hu) (Z.ct (kM (D:=e7) K rfl rfl) rfl T.sv (by decide +kernel) (Z.cons (Z.glob rfl hg_SHAPES hr_SHAPES) Z.nil)) (Z.ix (Z.aM K rfl hu) (Z.v 3) Z.int)))
   (Z.ao (Z.se (i:=5) cS.nd (Z.lst (Z.cons (Z.v 4) Z.nil)))
   (Z.ao (Z.se (i:=6) cS.nd (Z.ix (Z.aM K rfl hu) (Z.v 3) Z.int))
   (Z.ao (Z.lg Kl rfl (Z.seq K rfl (Z.Il K rfl rfl hg_SHAPES hd_SHAPES (Z.v 4))) (Z.aT (i:=7) cS.nd rfl (by right)) (Z.ao (Z.se (i:=8) cS.nd (Z.fc hpart_at (Z.cons (Z.v 7) (Z.cons (Z.v 0) (Z.cons (Z.v 1) (Z.cons (Z.v 6) Z.nil))))))
   (Z.ao (Z.dA (Z.aZ cZ (Z.v 8) Z.aR) (Z.aA (Z.ret Z.aR)) Z.bH)
   (Z.ao (Z.expr (Z.app K (Z.v 5) (Z.cons (Z.ix (Z.aM K rfl hu) (Z.v 8) Z.int) Z.nil)))
   (Z.aA (Z.se (i:=6) cS.nd (Z.ix (Z.aM K rfl hu) (Z.v 8) Z.int)))))))
   (Z.aA (Z.ret (Z.tup (Z.cons (Z.ct (Z.b_ K rfl) rfl T.cc (by decide +kernel) (Z.cons (Z.v 5) Z.nil)) (Z.cons (Z.v 6) Z.nil)))))))))))),?_⟩
  refine ax λN hN=>?_;by_cases hp:p<0
  ·unfold wG at q;rw[JE hp] at q;exists JE hp;exact q _ _ (KB.refl _ _) rfl
  obtain⟨p,rfl⟩:∃p':Nat,p=(p':Int):=⟨p.toNat,by lia⟩
  rw[nV] at q;exists JA hp;subst hN;refine ax λN hN=>?_;obtain⟨c0,c1,c2,rfl,l0,l1,l2⟩:=hR.fK.ex;have n0:=(hR.pf c0 (by simp)).ne
  have hc':=hc;obtain⟨a0,a1,a2,g,g0,g1,g2⟩:=hc';exists az g;refine⟨a0,c0,z,p,rfl,bz.of g0,n0,by lia,hz,λv H1 k1 o1=>?_⟩
  subst hN;refine ax λN hN=>?_;unfold Af at q
  replace q:∀v H',KB [] H H'->HJ H' v ((jH c0 z p).bind λx=>(qF [c0,c1,c2] z (BF x.1) x.2).map λy=>(⟨x.1,y.1⟩,y.2))->Q v H':=q
  cases c:jH c0 z p with
  |none =>
   rw[c] at q o1;obtain rfl:v=.aR:=o1;nofun;exact q _ _ k1 rfl
  |some x =>
   rw[c] at q o1;obtain⟨wi,e⟩:=x;have h9:wi<9:=by have:=(eK n0 c).1;dsimp only at this;lia
   replace q:∀v H',KB [] H H'->HJ H' v ((qF [c0,c1,c2] z (BF wi) e).map λy=>(⟨wi,y.1⟩,y.2))->Q v H':=q
   obtain⟨t,rfl,ht⟩:=o1;dsimp only at ht;exists if_neg (show ¬ V.ref t=V.aR from V.noConfusion);subst hN;refine ax λN hN=>?_;have ak:bV (e7.map λp=>V.str p.1) (wi:Int)=some (.str (cw.getD wi (Str.ofString ""))):=bq (by
    show (cw.map V.str)[wi]?=_;rw[JC,JI,Jx (show wi<cw.length from h9)];rfl)
   nofun;refine⟨dS,rfl,hd_SHAPES,by decide,λl hl=>?_⟩
   obtain⟨k2,s2⟩:=dF hl (.lst (e7.map λp=>V.str p.1));generalize upd H1 l _=H2 at *;have ht2:=k2.n ht;exists aC ht2,az s2,ak;have h02:KB [] H H2:=k1.trans k2;clear k1 k2 s2 hl ht ak;subst hN;have hlen:(BF wi).length<=2:=by
    have:wi=0\/wi=1\/wi=2\/wi=3\/wi=4\/wi=5\/wi=6\/wi=7\/wi=8:=by lia
    rcases this with rfl|rfl|rfl|rfl|rfl|rfl|rfl|rfl|rfl<;>decide
   have e1:=Aq h9;generalize hps:BF wi=ks0 at *;generalize hw9:cw.getD wi (Str.ofString "")=W at *;refine ax λN hN=>?_;nofun;refine⟨by decide,λrl hrl=>?_⟩
   obtain⟨k3,s3⟩:=dF hrl (.lst [.str W]);generalize upd H2 rl _=H3 at *;have hrl0:H rl=none:=h02.free (by simp) hrl
   have h03:KB [] H H3:=h02.trans k3;have ht3:=k3.n ht2;subst hN;refine ax λN hN=>?_;exists aC ht3;subst hN;refine ax λN hN=>?_;nofun;refine⟨W,_,rfl,e1,λpk kt=>?_⟩;have st:∀H,bz K H pk ((ks0.map Kd.s).map V.str):=λH=>.inr kt;refine .inr ⟨⟨_,st H3⟩,?_⟩;have kL:∀{H4 H5:Hp},KB [rl] H4 H5->KB [rl] H H4->KB [] H H5:=λa b c o e _=>a _ _ (b _ _ e (by simpa using aq e hrl0)) (by simpa using aq e hrl0)
   refine qi (xs:=(ks0.map Kd.s).map V.str) (λi σ H'=>∃(acc:List (PV×Nat)) (a:Nat) (o7 o8:Option V),i<=ks0.length/\(qF [c0,c1,c2] z ks0 e=(qF [c0,c1,c2] z (ks0.drop i) a).map λy=>(acc++y.1,y.2))/\acc.length=i/\H' rl=some (.lst (.str W::acc.map λx=>x.1.v x.2))/\KB [] H H'/\σ=[some (.ref ca),some (.str (wd z)),some (.int (p:Nat)),some (.ref t),some (.str W),some (.ref rl),some (.int (a:Nat)),o7,o8]) ⟨[],e,none,none,JL _,by rw[Lf];cases qF [c0,c1,c2] z ks0 e<;>rfl,rfl,s3,h03,rfl⟩ (λi σ H' _ _=>st H') ?_ ?_
   ·rintro i x σ H' hx ⟨acc,a,o7,o8,hi,ep,hacc,hrl',h0',rfl⟩;have hi2:i<ks0.length:=by have:=(J6.mp hx).1;rw[Jz,Jz] at this;exact this
    obtain rfl:x=.str (ks0[i]).s:=by
     rw[JC,JC,Jx hi2] at hx;exact (Option.some.inj hx).symm
    rw[KO hi2,qF] at ep;generalize ks0[i]=k at *;unfold b6;refine ax λM hM=>?_;nofun;refine⟨ca,[c0,c1,c2],z,a,k,rfl,hc.kb h0',hR,hb,hz,λv H5 k5 o5=>?_⟩;subst hM;have h05:=h0'.trans k5
    cases c3:mf [c0,c1,c2] z a k with
    |none =>
     rw[c3] at ep o5;obtain rfl:v=.aR:=o5;have ep':qF [c0,c1,c2] z ks0 e=none:=ep;rw[ep'] at q;refine ax λM hM=>?_;nofun;exact q _ _ h05 rfl
    |some x =>
     rw[c3] at ep o5;obtain⟨t5,rfl,ht5⟩:=o5;refine ax λM hM=>?_;exists JA (show ¬ V.ref t5=V.aR from V.noConfusion);subst hM;refine ax λM hM=>?_;exists aC ht5;have hr5:=k5.n hrl';refine⟨.inl ⟨rfl,_,bI.of hr5⟩,rl,_,_,rfl,rfl,hr5,JZ (show _<4 by rw[JK,Jz];lia) (by decide),?_⟩
     subst hM;have nt:t5≠rl:=λz=>by rw[z,hr5] at ht5;cases ht5
     have e6:(V.str W::acc.map λx=>x.1.v x.2)++[x.1.v x.2]=.str W::(acc++[x]).map λx=>x.1.v x.2:=by rw[JR];rfl
     rw[e6];have s6:upd H5 rl (.lst (.str W::(acc++[x]).map λx=>x.1.v x.2)) rl=_:=ae;have ht6:=(aj (o:=HO.lst (.str W::(acc++[x]).map λx=>x.1.v x.2)) (H:=H5) nt).trans ht5;have h06:KB [] H (upd H5 rl (.lst (.str W::(acc++[x]).map λx=>x.1.v x.2))):=λc o e _=>by rw[aj (aq e hrl0)];exact h05.n e
     generalize upd H5 rl (.lst (.str W::(acc++[x]).map λx=>x.1.v x.2))=H6 at *;dsimp only;refine yy λM hM=>?_;exists aC ht6;rw[hM];refine⟨acc++[x],x.2,some _,some _,hi2,?_,by rw[List.length_append,hacc];rfl,s6,h06,rfl⟩
     rw[ep,Mq]
     cases qF [c0,c1,c2] z (ks0.drop (i+1)) x.2 with
     |none=>rfl
     |some y=>show some (acc++(x::y.1),y.2)=some ((acc++[x])++y.1,y.2);rw[JU];rfl
   ·rintro σ H' ⟨acc,a,o7,o8,_,ep,_,hrl',h0',rfl⟩;rw[Jz,Jz,LD] at ep;have ep':qF [c0,c1,c2] z ks0 e=some (acc,a):=by rw[ep];show some (acc++[],a)=_;rw[Kp]
    rw[ep'] at q;show N _ _;subst hN;exists az hrl';intro rt hrt;obtain⟨k7,s7⟩:=dF hrt (.tup (.str W::acc.map λx=>x.1.v x.2));generalize upd H' rt _=H7 at *;refine⟨by decide,λtt htt=>q _ _ ((h0'.trans k7).trans (KB.new htt)) ⟨tt,rt,rfl,ae,?_⟩⟩
    rw[aj (aq s7 htt),s7];show some (HO.tup (V.str W::_))=some (.tup (RW.v ⟨wi,acc⟩));unfold RW.v;rw[hw9]
noncomputable def NT(ex:List Addr)(H:Hp):Prop:=∀b∈ex,∀xs,H b≠some (.tup xs)
theorem NT.nil(H:Hp):NT [] H:=λb hb=>nomatch hb
theorem gE.nt{p:Addr}{n:Nat}(h:gE H p dq n):NT [p,dq] H:=λb hb xs e=>by
 obtain⟨ys,e'⟩:=h.lst b hb;rw[e] at e';cases e'
noncomputable def u5(H:Hp)(b:Addr)(bk:List (List Int)):Prop:=∃as:List Addr,H b=some (.tup (as.map V.ref))/\as.length=bk.length/\∀(i:Nat) (a:Addr),as[i]?=some a->H a=some (.tup (iV (bk.getD i [])))
theorem u5.keep{b:Addr}{bk:List (List Int)}(h:u5 H b bk)(k:KB ex H H')(hx:NT ex H):u5 H' b bk:=by
 obtain⟨as,h1,h2,h3⟩:=h;exact⟨as,k _ _ h1 λz=>hx _ z _ h1,h2,λi a e=>k _ _ (h3 i a e) λz=>hx _ z _ (h3 i a e)⟩
theorem u5.kb{b:Addr}{bk:List (List Int)}(h:u5 H b bk)(k:KB [] H H'):u5 H' b bk:=h.keep k (NT.nil _)
theorem zd{l:List α}(h:l.length=3):∃a b c,l=[a,b,c]:=by
 rcases l with _|⟨a,_|⟨b,_|⟨c,_|⟨d,l⟩⟩⟩⟩<;>first|exact⟨_,_,_,rfl⟩ | (exfalso;revert h;simp)
noncomputable def jW(K:W.Frag):Sp:=λvs H Q _=>∃(b:Addr) (bk:List (List Int)),vs=[.ref b]/\u5 H b bk/\Bk bk/\∀ca H',H ca=none->KB [] H H'->sQ H' ca (bQ bk)->Q (.ref ca) H'
theorem zg(T:Txt K mg)(F:HasFn K mg "codes_of" fH ["book"])(hcode_of:au P w K mg base aY 4 "code_of" ["lengths"] (xQ K)):au P w K mg base aY 6 "codes_of" ["book"] (jW K):=by
 refine F.eW pE (λvs H Q E h=>?_) (λf cdv A outer s H vs Q E hr h=>?_)
 ·obtain⟨b,bk,rfl,_⟩:=h;rfl
 ·have hu:=aP hr;obtain⟨b,bk,rfl,hb,hB,q⟩:=h;obtain⟨as,hb1,hb2,hb3⟩:=hb;obtain⟨l0,l1,l2,rfl,_,_,_,hl⟩:=hB;refine⟨_,(Z.aA (Z.ret (Z.rA (osc:=af fH) (ON:=["book"]) (own:=["lengths"]) (N:=["lengths","book"]) (aG.of rfl (by decide +kernel)) (Z.any K rfl (Z.v 0)) (λnd _ _ _ _=>(Z.aT (i:=0) nd rfl (by right))) (λ_ _ _ _=>Z.lZ) (λ_ _ _ _=>(Z.fc hcode_of (Z.cons (Z.v 0) Z.nil)))))),?_⟩
  exists aC hb1;refine cq (xs:=as.map V.ref) (JF (show _<=3 by rw[Jz,hb2];exact JD 3) (by decide)) (λD i ys H'=>H D=none/\H' D=some (.lst ys)/\KB [] H H'/\∃cs:List Addr,ys=cs.map V.ref/\cs.length=i/\∀(j:Nat) (c:Addr),cs[j]?=some c->H' c=some (.tup (wV (wordsOf Cw.fP (List.getD [l0,l1,l2] j []))))) (λD hD=>⟨hD,ae,KB.new hD,[],rfl,rfl,λj c e=>nomatch e⟩) (λD i ys H' h=>⟨h.2.1,by obtain⟨_,_,_,cs,rfl,e,_⟩:=h;rw[Jz,e]⟩) (λD i ys H' h=>bz.of (h.2.2.1 _ _ hb1 (by simp))) ?_ ?_
  ·rintro D i ys H' x R hx ⟨g0,g1,g2,cs,rfl,g4,g5⟩ kk;obtain⟨a,ea,rfl⟩:∃a,as[i]?=some a/\x=.ref a:=by
    rw[JC] at hx;obtain⟨a,e,rfl⟩:=JW.mp hx;exact⟨a,e,rfl⟩
   have hi:i<3:=by have:=(J6.mp ea).1;rw[hb2] at this;exact this
   have hm:List.getD [l0,l1,l2] i []∈[l0,l1,l2]:=by
    rcases mh hi with rfl|rfl|rfl<;>simp
   nofun;refine⟨a,_,rfl,g2.n (hb3 i a ea),(hl _ hm).1,(hl _ hm).2,λc H5 k5 e5=>?_⟩;have gD:=k5.n g1;have cD:c≠D:=λz=>by rw[z,gD] at e5;cases e5
   refine kk _ _ gD ⟨g0,ae,λu o e _=>by rw[aj (aq e g0)];exact k5.n (g2.n e),cs++[c],by rw[JR];rfl,by rw[J5,g4];rfl,λj d e=>?_⟩
   rcases Kx j cs.length with hj|hj
   ·rw[Kf hj] at e;have e6:=k5.n (g5 j d e);rw[aj (λz=>by rw[z,gD] at e6;cases e6)];exact e6
   ·rw[JY hj] at e;obtain⟨hj2,rfl⟩:=J6.mp e;have:j=i:=by simp at hj2;lia
    subst this;rw[aj (show _≠D by simpa using cD)]
    simpa using e5
  ·rintro D ys H' ⟨g0,g1,g2,cs,rfl,g4,g5⟩;rw[Jz,hb2] at g4;obtain⟨c0,c1,c2,rfl⟩:=zd g4;exact q D H' g0 g2 ⟨c0,c1,c2,g1,g5 0 c0 rfl,g5 1 c1 rfl,g5 2 c2 rfl⟩
noncomputable def s_(cd:List (List (List Nat))):Pk->List Nat
 |.box b=>aO cd (2,b)
 |.num n=>aO cd (1,a_ n)++(dQ n).tail
 |.goal _=>[]
noncomputable def Pk.of(w:Str):Pk->Prop
 |.box _=>True
 |.num _=>w=Str.ofString "put"
 |.goal _=>w≠Str.ofString "put"
theorem rm(cd:List (List (List Nat)))(r:Row):bB cd r=aO cd (0,r.wi)++r.eA.flatMap (s_ cd):=by
 cases r<;>simp[bB,cV,Row.eA,Pk.pB,s_,fM]
theorem vJ(x:V)(xs:List V):dJ (x::xs) (some 1) none=xs:=by
 unfold dJ;rw[HT.dP,show (some (1:Int))=some ((1:Nat):Int) from rfl,HT.eE];simp
theorem rL{bk:List (List Int)}(h:Bk bk){c:Nat}{l:List Int}(hc:bk[c]?=some l)(hi:i<l.length):(((aO (bQ bk) (c,i)).length:Nat):Int)=l[i]:=by
 obtain⟨_,_,_,_,_,_,_,h4⟩:=h;have hl:=K1 hc;have hk:=canon (h4 l hl).1 (K6 (h4 l hl).2);have e:(bQ bk).getD c []=wordsOf Cw.fP l:=by
  unfold bQ;rw[JI,JC,hc];rfl
 have h1:=hk.E9 i hi;unfold bo at h1;rw[JI (l:=l),Jx hi] at h1;have h2:=(h4 l hl).1.2.2 _ (JN hi);unfold aO;rw[e];have h3:((wordsOf Cw.fP l).getD i []).length=(l[i]).toNat:=h1;show ((((wordsOf Cw.fP l).getD i []).length:Nat):Int)=_;rw[h3];lia
noncomputable def uI:Sp:=λvs H Q _=>∃n:Nat,vs=[.int (n:Nat)]/\n<65536/\Q (.int (a_ n:Nat)) H
theorem xm(T:Txt K mg)(F:HasFn K mg "_law_class" fw ["number"]):au P w K mg base aY 1 "_law_class" ["number"] uI:=by
 refine F.eW dy (λvs H Q E h=>?_) (λf cdv A outer s H vs Q E hr h=>?_)
 ·obtain⟨n,rfl,_⟩:=h;rfl
 ·have hu:=aP hr;obtain⟨n,rfl,hn,q⟩:=h;refine⟨_,(Z.ao (Z.se (i:=1) dy.nd Z.int)
   (Z.ao (Z.ia Kl (Z.aZ um (Z.v 0) Z.int) (Z.ao (Z.se (i:=0) dy.nd (Z.op jY (Z.v 0) Z.int))
   (Z.aA (Z.se (i:=1) dy.nd (Z.op (Z.bf K rfl) (Z.v 1) Z.int)))))
   (Z.aA (Z.ret (Z.v 1))))),?_⟩
  refine ax λN hN=>?_;nofun;subst hN;refine ax λN hN=>?_;refine⟨λm σ H'=>∃n' f:Nat,n'=m/\f+a_ n'=a_ n/\H'=H/\σ=[some (.int (n':Nat)),some (.int (f:Nat))],⟨n,n,0,rfl,Lb _,rfl,rfl⟩,?_⟩;rintro m σ H' ⟨n',f,rfl,hf,rfl,rfl⟩;nofun;by_cases c:(0:Int)<(n':Int)
  ·rw[JE c];have hb:=wA (n:=n') (by lia)
   refine⟨λσ' H''=>∃m',m'<n'/\∃n2 f:Nat,n2=m'/\f+a_ n2=a_ n/\H''=H'/\σ'=[some (.int (n2:Nat)),some (.int (f:Nat))],λ_ _ h=>h,?_⟩;refine⟨⟨by decide,by decide⟩,n' / 2,by lia,n' / 2,f+1,rfl,?_,rfl,?_⟩
   ·unfold a_ at hf ⊢;lia
   ·rw[show (n':Int) / 2=((n' / 2:Nat):Int) by lia,show (f:Int)+1=((f+1:Nat):Int) from rfl]
  ·rw[JA c];have e0:n'=0:=by lia
   have:f=a_ n:=by
    have:a_ 0=0:=by decide +kernel
    rw[e0] at hf;lia
   subst e0;subst this;show N _ _;subst hN;nofun;exact q
noncomputable def C7(bk:List (List Int)):Pk->Nat
 |.box b=>(aO (bQ bk) (2,b)).length
 |_=>0
noncomputable def DF(bk:List (List Int)):Row->Nat
 |.put _ n=>(aO (bQ bk) (1,a_ n)).length+(a_ n-1)
 |_=>0
theorem mF(bk:List (List Int))(r:Row):(aO (bQ bk) (0,r.wi)++r.eA.flatMap (s_ (bQ bk))).length=(aO (bQ bk) (0,r.wi)).length+(r.eA.map (C7 bk)).sum+DF bk r:=by
 cases r<;>simp[Row.eA,s_,C7,DF,jR]<;>lia
theorem xK(n:Nat):(if (n:Int)-1 > 0 then (n:Int)-1 else 0)=((n-1:Nat):Int):=by
 split<;>lia
theorem two_put:∀(u:Fin 3) (a b:Nat),(Row.two u a b).wd≠Str.ofString "put":=by
 intro u a b;show w2 u≠_;revert u
 decide +kernel
theorem Cj:∀(u:Fin 2) (b:Nat),(Row.one u b).wd≠Str.ofString "put":=by
 intro u b;show w1 u≠_;revert u
 decide +kernel
noncomputable def xM(K:W.Frag):Sp:=λvs H Q _=>∃(ra b:Addr) (r:Row) (k:Nat) (bk:List (List Int)),vs=[.ref ra,.ref b]/\H ra=some (.tup r.vs)/\u5 H b bk/\Bk bk/\r.Ok k/\∀H',KB [] H H'->Q (.int ((bB (bQ bk) r).length:Nat)) H'
theorem BE(T:Txt K mg)(F:HasFn K mg "_law_bare" fV ["row","book"])(h_law_class:au P w K mg base aY 1 "_law_class" ["number"] uI):au P w K mg base aY 2 "_law_bare" ["row","book"] (xM K):=by
 refine F.eW cC (λvs H Q E h=>?_) (λf cdv A outer s H vs Q E hr h=>?_)
 ·obtain⟨ra,b,r,k,bk,rfl,_⟩:=h;rfl
 ·have hu:=aP hr;obtain⟨ra,b,r,k,bk,rfl,hra,hb,hB,aQ,q⟩:=h;rw[rm] at q;obtain⟨as,hb1,hb2,hb3⟩:=hb;obtain⟨l0,l1,l2,rfl,e0,e1,e2,hl⟩:=id hB;obtain⟨a0,a1,a2,rfl⟩:=zd (show as.length=3 from hb2);have t0:=hb3 0 a0 rfl;have t1:=hb3 1 a1 rfl;have t2:=hb3 2 a2 rfl;have hra':=hra;rw[Row.CZ] at hra;refine⟨_,(Z.ao (Z.se (i:=2) cC.nd (Z.lst (Z.consts rfl)))
   (Z.ao (Z.se (i:=3) cC.nd (Z.ix (Z.aM K rfl hu) (Z.ix (Z.aM K rfl hu) (Z.v 1) Z.int) (Z.bm K rfl PySem.F.plainAttrs_list PySem.F.slot_list_index PySem.F.type_list_index Y.uJ (Z.v 2) (Z.cons (Z.ix (Z.aM K rfl hu) (Z.v 0) Z.int) Z.nil))))
   (Z.ao (Z.lg Kl rfl (Z.any K rfl (Z.slice (Z.wu K rfl) (Z.v 0) (Z.uF Z.int) Z.Aj)) (Z.aT (i:=4) cC.nd rfl (by right)) (Z.aA (Z.dA (Z.uZ K rfl (Z.cb (Z.HA K rfl) rfl T.nY PyProof.Rows.boot_isinstance (Z.cons (Z.v 4) (Z.cons (Z.Jr (T:="str") rfl T.Dg (by decide +kernel)) Z.nil)))) (Z.aA (Z.se (i:=3) cC.nd (Z.op (Z.bf K rfl) (Z.v 3) (Z.ix (Z.aM K rfl hu) (Z.ix (Z.aM K rfl hu) (Z.v 1) Z.int) (Z.bm K rfl PySem.F.plainAttrs_str PySem.F.slot_str_find PySem.F.type_str_find Y.AG Z.str (Z.cons (Z.v 4) Z.nil)))))) Z.bH)))
   (Z.ao (Z.dA (Z.aZ bC (Z.ix (Z.aM K rfl hu) (Z.v 0) Z.int) Z.str) (Z.aA (Z.se (i:=3) cC.nd (Z.op (Z.bf K rfl) (Z.op (Z.bf K rfl) (Z.v 3) (Z.ix (Z.aM K rfl hu) (Z.ix (Z.aM K rfl hu) (Z.v 1) Z.int) (Z.fc h_law_class (Z.cons (Z.ix (Z.aM K rfl hu) (Z.v 0) Z.int) Z.nil)))) (Z.cb (jm rfl) rfl T.xB (by decide +kernel) (Z.cons Z.int (Z.cons (Z.op cK (Z.fc h_law_class (Z.cons (Z.ix (Z.aM K rfl hu) (Z.v 0) Z.int) Z.nil)) Z.int) Z.nil)))))) Z.bH)
   (Z.aA (Z.ret (Z.v 3))))))),?_⟩
  refine ax λN hN=>?_;nofun;refine⟨by decide,λl hl=>?_⟩
  rw[show HO.lst [V.str (Str.ofString "put"),V.str (Str.ofString "add"),V.str (Str.ofString "sub"),V.str (Str.ofString "copy"),V.str (Str.ofString "tell"),V.str (Str.ofString "hear"),V.str (Str.ofString "jump"),V.str (Str.ofString "zero"),V.str (Str.ofString "halt")]=.lst (cw.map V.str) from rfl];obtain⟨k1,s1⟩:=dF hl (.lst (cw.map V.str));generalize upd H l _=H1 at *;subst hN;refine ax λN hN=>?_;have tb:bV (List.map V.ref [a0,a1,a2]) (0:Int)=some (.ref a0):=rfl;have tw:bV (iV ([l0,l1,l2].getD 0 [])) (r.wi:Int)=some (.int (((aO (bQ [l0,l1,l2]) (0,r.wi)).length:Nat):Int)):=by
   rw[rL hB (c:=0) (l:=l0) rfl (by rw[e0];exact r.uH)]
   exact mI _
  exists aC (k1.n hb1),tb,aC (k1.n hra);refine⟨.inl ⟨rfl,_,bI.of s1⟩,l,cw,r.wd,r.wi,rfl,s1,rfl,(tN r).1,(tN r).2,?_⟩;exists aC (k1.n t0),tw;subst hN;refine ax λN hN=>?_;have hra1:=k1.n hra;exists aC hra1;refine⟨ra,_,rfl,bz.of hra1,by rw[show (some (1:Int))=some ((1:Nat):Int) from rfl,HT.eE,JK];lia,λt ht=>?_⟩
  rw[vJ];obtain⟨k2,s2⟩:=dF ht (.tup (r.eA.map Pk.v));generalize upd H1 t _=H2 at *;have k02:=k1.trans k2;simp only[aC s2];have GB:=k02.n hb1;have G2:=k02.n t2;have GR:=k02.n hra;refine qi (xs:=r.eA.map Pk.v) (λi σ H'=>H'=H2/\∃(x:Nat) (o3:Option V),(aO (bQ [l0,l1,l2]) (0,r.wi)).length+(r.eA.map (C7 [l0,l1,l2])).sum=x+((r.eA.drop i).map (C7 [l0,l1,l2])).sum/\σ=[some (.ref ra),some (.ref b),some (.ref l),some (.int (x:Nat)),o3]) ⟨rfl,_,none,rfl,rfl⟩ (λi σ H' _ h=>by rw[h.1];exact bz.of s2) ?_ ?_
  ·rintro i x σ H' hx ⟨rfl,y,o3,ea,rfl⟩;have hi:i<r.eA.length:=by have:=(J6.mp hx).1;rw[Jz] at this;exact this
   obtain rfl:x=(r.eA[i]).v:=by
    rw[JC,Jx hi] at hx;exact (Option.some.inj hx).symm
   have hp0:=Row.rW aQ _ (List.getElem_mem hi);rw[List.drop_eq_getElem_cons hi,List.map_cons,List.sum_cons] at ea;generalize r.eA[i]=pk at *;unfold b6;dsimp only;refine yy λM hM=>?_
   cases pk with
   |box b' =>
    have hb:b'<8:=hp0;have fi:Txt.find (Str.ofString "abcdefgh") (cx b')=(b':Int):=by
     rcases DY hb with rfl|rfl|rfl|rfl|rfl|rfl|rfl|rfl<;>decide +kernel
    have tc:bV (List.map V.ref [a0,a1,a2]) (2:Int)=some (.ref a2):=rfl;have tx:bV (iV ([l0,l1,l2].getD 2 [])) (b':Int)=some (.int (((aO (bQ [l0,l1,l2]) (2,b')).length:Nat):Int)):=by
     rw[rL hB (c:=2) (l:=l2) rfl (by rw[e2];exact hb)]
     exact mI _
    show nG _ _ _ _ [_,_,_,_,some (V.str (cx b'))] _;exists (show vE "str" "str"=true from by decide +kernel),aC GB,tc
    refine⟨by decide,rfl,_,cx b',rfl,rfl,?_⟩
    rw[fi];exists aC G2,tx;rw[hM];exact⟨rfl,y+(aO (bQ [l0,l1,l2]) (2,b')).length,some _,by rw[ea,Ms];rfl,rfl⟩
   |num n =>
    show nG _ _ _ _ [_,_,_,_,some (V.int (n:Nat))] _;exists (show vE "int" "str"=false from by decide +kernel)
    refine⟨by decide,?_⟩
    rw[hM];exact⟨rfl,y,some _,by rw[ea];show _+(0+_)=_;rw[Lb],rfl⟩
   |goal n =>
    show nG _ _ _ _ [_,_,_,_,some (V.int (n:Nat))] _;exists (show vE "int" "str"=false from by decide +kernel)
    refine⟨by decide,?_⟩
    rw[hM];exact⟨rfl,y,some _,by rw[ea];show _+(0+_)=_;rw[Lb],rfl⟩
  ·rintro σ H' ⟨rfl,x,o3,ea,rfl⟩;rw[Jz,LD,L_,List.sum_nil,OD] at ea;show N _ _;subst hN;have GB1:=k02.n t1
   cases r with
   |put bb n =>
    have hn:n<65536:=aQ.2;have hb:=iJ hn;have tc:bV (List.map V.ref [a0,a1,a2]) (1:Int)=some (.ref a1):=rfl;have tx:bV (iV ([l0,l1,l2].getD 1 [])) (a_ n:Int)=some (.int (((aO (bQ [l0,l1,l2]) (1,a_ n)).length:Nat):Int)):=by
     rw[rL hB (c:=1) (l:=l1) rfl (by rw[e1];exact hb)]
     exact mI _
    have a2:bV (V.str (Row.put bb n).wd::List.map Pk.v (Row.put bb n).eA) (2:Int)=some (.int (n:Nat)):=rfl;have fl:(dQ n).length=a_ n:=jR n;exists aC GR,aC GB,tc,a2;refine⟨n,rfl,hn,?_⟩;exists aC GR,aC GB1,tx,a2;refine⟨n,rfl,hn,?_⟩;exists aC GR,xK;have:=q _ k02;rw[mF,ea] at this;refine Eq.mpr (Kt (λz:Int=>Q (.int z) H') ?_) this;unfold DF;lia
   |_ =>
    exists aC GR;rw[JA (by first|exact two_put _ _ _|exact Cj _ _|exact (by decide +kernel:Str.ofString "jump"≠Str.ofString "put")|exact (by decide +kernel:Str.ofString "zero"≠Str.ofString "put")|decide +kernel)]
    show Q _ H';have:=q _ k02;rw[mF,ea] at this;exact this
noncomputable def aD:Row->Option Nat
 |.jump g=>some g
 |.zero _ g=>some g
 |_=>none
theorem pre_split{a:List Nat}(h:a++b <+: z.drop p):a <+: z.drop p/\b <+: z.drop (p+a.length):=by
 obtain⟨y,e⟩:=h;refine⟨⟨b++y,by rw[<- e,JU]⟩,y,?_⟩
 rw[<- List.drop_drop,<- e,JU,Ox]
theorem u4{ws:List (List Nat)}(h:Pf ws)(ht:t<ws.length)(hp:ws.getD t [] <+: z.drop p):jH ws z p=some (t,p+(ws.getD t []).length):=by
 unfold jH;rw[h.th ht hp];rfl
theorem DR:Pf uR:=⟨nE,λi j hi hj hne=>by
 rcases mh hi with rfl|rfl|rfl<;>rcases mh hj with rfl|rfl|rfl<;>first|exact absurd rfl hne|decide +revert⟩
theorem lb{cd:List (List (List Nat))}{b:Nat}(hR:sO cd)(hb:b<8)(hp:aO cd (2,b) <+: z.drop p):mf cd z p .box=some (.box b,p+(aO cd (2,b)).length):=by
 obtain⟨c0,c1,c2,rfl,l0,l1,l2⟩:=hR.fK.ex;show (jH c2 z p).map _=_;rw[u4 (hR.pf c2 (by simp)) (by lia) hp];rfl
theorem DP{cd:List (List (List Nat))}{n:Nat}(hR:sO cd)(hn:n<65536)(hp:aO cd (1,a_ n)++(dQ n).tail <+: z.drop p):mf cd z p .num=some (.num n,p+(aO cd (1,a_ n)++(dQ n).tail).length):=by
 obtain⟨c0,c1,c2,rfl,l0,l1,l2⟩:=hR.fK.ex;have hb:=iJ hn;obtain⟨h1,y,e⟩:=pre_split hp;have hl:=hp.length_le;rw[J5,Ks] at hl;have htl:(dQ n).tail.length=a_ n-1:=by rw[List.length_tail,jR]
 have hc:=u4 (hR.pf c1 (by simp)) (by lia) h1
 have h0:=(eK (hR.pf c1 (by simp)).ne hc).2.2.1
 replace hc:jH c1 z p=some (a_ n,p+(aO [c0,c1,c2] (1,a_ n)).length):=hc
 show (wW c1 z p).map _=_;unfold wW;rw[hc];dsimp only
 replace h0:p<p+(aO [c0,c1,c2] (1,a_ n)).length:=h0
 generalize aO [c0,c1,c2] (1,a_ n)=w at *;by_cases c:a_ n=0
 ·rw[JE c];have e0:=vw c;subst e0;rw[J5,htl,c];rfl
 ·rw[JA c,JE (by lia),<- e,<- htl,MD]
  have hn0:0<n:=by
   rcases MB n with e|e
   ·subst e;exact absurd (by decide +kernel) c
   ·exact e
  rw[B0 hn0,J5,Ms];rfl
theorem lM{w:Nat}(d:Int):(dz w d).length=(dj w).length+bE w:=by
 unfold dz;rw[J5,dM];rfl
theorem CT{cd:List (List (List Nat))}{k:Nat}(hk:k<3)(h1:-cL k<=d)(h2:d<cL k)(hp:dz k d <+: z.drop p):mf cd z p .go=some (.go d,p+(dz k d).length):=by
 obtain⟨hh,y,e⟩:=pre_split hp;have hl:=hp.length_le;rw[lM,Ks] at hl;have hc:=u4 (t:=k) DR hk (by rw[xi hk];exact hh)
 rw[xi hk] at hc;have h16:0<bE k:=by rcases mh hk with rfl|rfl|rfl<;>decide
 have h2h:(2:Int)^bE k=2*cL k:=by rcases mh hk with rfl|rfl|rfl<;>decide
 have hl2:(bS d (bE k) []).length=bE k:=by rw[dM];rfl
 show (gA z p).map _=_;unfold gA;rw[hc];dsimp only;rw[if_pos (by lia),<- e,lM]
 have et:(bS d (bE k) []++y).take (bE k)=bS d (bE k) []:=by
  conv=>lhs;arg 1;rw[<- hl2]
  rw[MD]
 rw[et,uv,Ms];have hv:=je (bE k) d;rw[h2h] at hv;have:Bx k (Cw.val (bS d (bE k) []))=d:=by
  unfold Bx;rw[hv];by_cases c:0<=d
  ·rw[MJ c (by lia),JA (by lia)]
  ·have:d % (2*cL k)=d+2*cL k:=by
    rw[<- Int.add_emod_right];exact MJ (by lia) (by lia)
   rw[this,JE (by lia)];lia
 rw[this];rfl
noncomputable def dI(cd:List (List (List Nat)))(r:Row)(w:Nat)(d:Int):List Nat:=bB cd r++(match aD r with|none=>[]|some _=>dz w d)
noncomputable def Row.m(g:Int):Row->d6
 |.put b n=>.put b n
 |.two u a b=>.two u a b
 |.one u b=>.one u b
 |.jump _=>.jump g
 |.zero b _=>.zero b g
 |.halt=>.halt
theorem yH{cd:List (List (List Nat))}{n k:Nat}{r:Row}(hR:sO cd)(hr:r.Ok n)(hd:∀t,aD r=some t->k<3/\-cL k<=d/\d<cL k)(hp:dI cd r k d <+: z.drop p):∃x,Af cd z p=some x/\x.2=p+(dI cd r k d).length/\qJ x=r.m ((x.2:Int)+d):=by
 have hw:∀{i:Nat} {y:List Nat},i<9->aO cd (0,i)++y <+: z.drop p->jH (cd.getD 0 []) z p=some (i,p+(aO cd (0,i)).length)/\y <+: z.drop (p+(aO cd (0,i)).length):=λ{i y} hi h=>by
  obtain⟨h1,h2⟩:=pre_split h;obtain⟨c0,c1,c2,rfl,l0,l1,l2⟩:=hR.fK.ex;exact⟨u4 (hR.pf c0 (by simp)) (by rw[show [c0,c1,c2].getD 0 []=c0 from rfl];lia) h1,h2⟩
 have fin:∀(i:Nat) (y:List Nat) (v:List (PV×Nat)) (e:Nat),i<9->dI cd r k d=aO cd (0,i)++y->(y <+: z.drop (p+(aO cd (0,i)).length)->qF cd z (BF i) (p+(aO cd (0,i)).length)=some (v,e))->e=p+(dI cd r k d).length->qJ (⟨i,v⟩,e)=r.m ((e:Int)+d)->∃x,Af cd z p=some x/\x.2=p+(dI cd r k d).length/\qJ x=r.m ((x.2:Int)+d):=λi y v e hi e1 e2 e3 e4=>by
  rw[e1] at hp;obtain⟨h1,h2⟩:=hw hi hp;refine⟨(⟨i,v⟩,e),?_,e3,e4⟩;unfold Af;rw[h1,Mq,e2 h2];rfl
 cases r with
 |put b n' =>
  have e0:dI cd (.put b n') k d=aO cd (0,0)++(aO cd (2,b)++(aO cd (1,a_ n')++(dQ n').tail)):=by
   simp[dI,bB,cV,Row.eA,Pk.pB,Row.wi,fM,aD]
  refine fin 0 _ [(.box b,p+(aO cd (0,0)).length+(aO cd (2,b)).length),(.num n',p+(aO cd (0,0)).length+(aO cd (2,b)).length+(aO cd (1,a_ n')++(dQ n').tail).length)] (p+(aO cd (0,0)).length+(aO cd (2,b)).length+(aO cd (1,a_ n')++(dQ n').tail).length) (by decide) e0 (λhy=>?_) ?_ rfl
  ·obtain⟨y1,y2⟩:=pre_split hy;show (mf cd z _ .box).bind _=_;rw[lb hR hr.1 y1,Mq];show ((mf cd z _ .num).bind _).map _=_;rw[DP hR hr.2 y2];rfl
  ·rw[e0];simp only[J5];lia
 |two u a b =>
  have hu:(1+(u:Nat))<9:=(by decide:∀u:_root_.Fin 3,1+(u:Nat)<9) u
  have e0:dI cd (.two u a b) k d=aO cd (0,1+(u:Nat))++(aO cd (2,a)++aO cd (2,b)):=by
   simp[dI,bB,cV,Row.eA,Pk.pB,Row.wi,fM,aD]
  have ek:BF (1+(u:Nat))=[.box,.box]:=by rcases Fj u with rfl|rfl|rfl<;>rfl
  refine fin (1+(u:Nat)) _ [(.box a,p+(aO cd (0,1+(u:Nat))).length+(aO cd (2,a)).length),(.box b,p+(aO cd (0,1+(u:Nat))).length+(aO cd (2,a)).length+(aO cd (2,b)).length)] (p+(aO cd (0,1+(u:Nat))).length+(aO cd (2,a)).length+(aO cd (2,b)).length) hu e0 (λhy=>?_) ?_ ?_
  ·obtain⟨y1,y2⟩:=pre_split hy;rw[ek];show (mf cd z _ .box).bind _=_;rw[lb hR hr.1 y1,Mq];show ((mf cd z _ .box).bind _).map _=_;rw[lb hR hr.2 y2];rfl
  ·rw[e0];simp only[J5];lia
  ·rcases Fj u with rfl|rfl|rfl<;>rfl
 |one u b =>
  have hu:(4+(u:Nat))<9:=(by decide:∀u:_root_.Fin 2,4+(u:Nat)<9) u
  have e0:dI cd (.one u b) k d=aO cd (0,4+(u:Nat))++aO cd (2,b):=by
   simp[dI,bB,cV,Row.eA,Pk.pB,Row.wi,fM,aD]
  have ek:BF (4+(u:Nat))=[.box]:=by rcases nA u with rfl|rfl<;>rfl
  refine fin (4+(u:Nat)) _ [(.box b,p+(aO cd (0,4+(u:Nat))).length+(aO cd (2,b)).length)] (p+(aO cd (0,4+(u:Nat))).length+(aO cd (2,b)).length) hu e0 (λhy=>?_) ?_ ?_
  ·rw[ek];show (mf cd z _ .box).bind _=_;rw[lb hR hr hy];rfl
  ·rw[e0];simp only[J5];lia
  ·rcases nA u with rfl|rfl<;>rfl
 |jump g =>
  have e0:dI cd (.jump g) k d=aO cd (0,6)++dz k d:=by
   simp[dI,bB,cV,Row.eA,Pk.pB,Row.wi,fM,aD]
  obtain⟨d1,d2,d3⟩:=hd g rfl;refine fin 6 _ [(.go d,p+(aO cd (0,6)).length+(dz k d).length)] (p+(aO cd (0,6)).length+(dz k d).length) (by decide) e0 (λhy=>?_) ?_ rfl
  ·show (mf cd z _ .go).bind _=_;rw[CT d1 d2 d3 hy];rfl
  ·rw[e0];simp only[J5];lia
 |zero b g =>
  have e0:dI cd (.zero b g) k d=aO cd (0,7)++(aO cd (2,b)++dz k d):=by
   simp[dI,bB,cV,Row.eA,Pk.pB,Row.wi,fM,aD]
  obtain⟨d1,d2,d3⟩:=hd g rfl;refine fin 7 _ [(.box b,p+(aO cd (0,7)).length+(aO cd (2,b)).length),(.go d,p+(aO cd (0,7)).length+(aO cd (2,b)).length+(dz k d).length)] (p+(aO cd (0,7)).length+(aO cd (2,b)).length+(dz k d).length) (by decide) e0 (λhy=>?_) ?_ rfl
  ·obtain⟨y1,y2⟩:=pre_split hy;show (mf cd z _ .box).bind _=_;rw[lb hR hr.1 y1,Mq];show ((mf cd z _ .go).bind _).map _=_;rw[CT d1 d2 d3 y2];rfl
  ·rw[e0];simp only[J5];lia
 |halt =>
  have e0:dI cd .halt k d=aO cd (0,8)++[]:=by
   simp[dI,bB,cV,Row.eA,Pk.pB,Row.wi,fM,aD]
  refine fin 8 _ [] (p+(aO cd (0,8)).length) (by decide) e0 (λhy=>rfl) ?_ rfl
  rw[e0];simp only[J5];rfl
noncomputable def HY:Nat->Nat
 |0=>5
 |1=>10
 |_=>18
noncomputable def addW:Option Nat->Nat->Nat
 |none,_=>0
 |some _,w=>HY w
theorem BU(g:Option Nat)(w:Nat):addW g w<=18:=by
 unfold addW HY;split
 ·decide
 ·split<;>decide
noncomputable def iQ:Nat->List Nat->List (Option Nat)->List Nat->List Nat
 |a,s::ss,g::gs,w::ws=>a::iQ (a+s+addW g w) ss gs ws
 |a,_,_,_=>[a]
theorem jq(a:Nat)(ss:List Nat)(gs:List (Option Nat))(ws:List Nat):∃l,iQ a ss gs ws=a::l:=by
 unfold iQ;split
 ·exact⟨_,rfl⟩
 ·exact⟨_,rfl⟩
theorem jK:∀(ss:List Nat) (gs:List (Option Nat)) (ws:List Nat) (a:Nat),gs.length=ss.length->ws.length=ss.length->(iQ a ss gs ws).length=ss.length+1
 |[],_,_,_,_,_=>by unfold iQ;rfl
 |s::ss,[],_,_,h,_=>by cases h
 |s::ss,_::_,[],_,_,h=>by cases h
 |s::ss,g::gs,w::ws,a,h1,h2=>by
  rw[iQ,JK,jK ss gs ws _ (Nat.succ.inj h1) (Nat.succ.inj h2)];rfl
theorem yS:∀(ss:List Nat) (gs:List (Option Nat)) (ws:List Nat) (a:Nat),(∀s∈ss,s<=150)->∀v∈iQ a ss gs ws,a<=v/\v<=a+168*ss.length
 |[],_,_,a,_,v,h=>by
  have:v=a:=by unfold iQ at h;simpa using h
  rw[this];simp
 |s::ss,[],_,a,_,v,h=>by
  have:v=a:=by unfold iQ at h;simpa using h
  rw[this];simp
 |s::ss,_::_,[],a,_,v,h=>by
  have:v=a:=by unfold iQ at h;simpa using h
  rw[this];simp
 |s::ss,g::gs,w::ws,a,hs,v,h=>by
  rw[iQ] at h;have h1:=hs s JH;have h2:=BU g w;rw[JK];rcases J9.mp h with rfl|h
  ·exact⟨JD _,Nat.le_add_right _ _⟩
  ·have:=yS ss gs ws _ (λx hx=>hs x (JG _ hx)) v h;lia
theorem oo:∀(ss:List Nat) (gs:List (Option Nat)) (ws:List Nat) (a k:Nat) (s:Nat) (g:Option Nat) (w:Nat),ss[k]?=some s->gs[k]?=some g->ws[k]?=some w->(iQ a ss gs ws).getD (k+1) 0=(iQ a ss gs ws).getD k 0+s+addW g w
 |[],_,_,_,_,_,_,_,h,_,_=>by simp at h
 |s::ss,[],_,_,_,_,_,_,_,h,_=>by simp at h
 |s::ss,_::_,[],_,_,_,_,_,_,_,h=>by simp at h
 |s::ss,g::gs,w::ws,a,0,s',g',w',h1,h2,h3=>by
  simp at h1 h2 h3;subst h1;subst h2;subst h3;rw[iQ];obtain⟨l,e⟩:=jq (a+s+addW g w) ss gs ws;rw[e];rfl
 |s::ss,g::gs,w::ws,a,k+1,s',g',w',h1,h2,h3=>by
  rw[iQ];have:=oo ss gs ws (a+s+addW g w) k s' g' w' (by simpa using h1) (by simpa using h2) (by simpa using h3)
  simpa using this
noncomputable def fm(sp:List Nat)(t k:Nat):Int:=(sp.getD t 0:Int)-(sp.getD (k+1) 0:Int)
noncomputable def Al(w:Nat)(d:Int):Bool:=decide (-cL w<=d) && decide (d<cL w)
theorem jQ:∀{ws:List Nat},(∀w∈ws,w<3)->ws.sum<=2*ws.length
 |[],_=>JD _
 |w::ws,h=>by
  have h1:=h w JH;have h2:=jQ λx hx=>h x (JG _ hx);rw[LK,JK];lia
theorem wO(hs:∀s∈ss,s<=150)(i:Nat):(iQ 0 ss gs ws).getD i 0<=168*ss.length:=by
 rw[JI]
 cases c:(iQ 0 ss gs ws)[i]? with
 |none=>exact JL _
 |some v=>have:=yS ss gs ws 0 hs v (K1 c);show v<=_;lia
noncomputable def AI(ss:List Nat)(gs:List (Option Nat))(ws:List Nat):Prop:=∀(k t w:Nat),gs[k]?=some (some t)->ws[k]?=some w->Al w (fm (iQ 0 ss gs ws) t k)=true
noncomputable def fO(cd:List (List (List Nat)))(rs:List Row):List Nat:=rs.map λr=>(bB cd r).length
noncomputable def BV(sp:List Nat)(k w:Nat):Option Nat->List Nat
 |none=>[]
 |some t=>dz w (fm sp t k)
noncomputable def ow(cd:List (List (List Nat)))(sp:List Nat):Nat->List Row->List Nat->List Nat
 |k,r::rs,w::ws=>bB cd r++BV sp k w (aD r)++ow cd sp (k+1) rs ws
 |_,_,_=>[]
theorem gN{r:Row}{n:Nat}(h:r.Ok n)(e:aD r=some t):t<=n:=by
 cases r with
 |jump g=>cases e;exact h
 |zero b g=>cases e;exact h.2
 |put=>cases e
 |two=>cases e
 |one=>cases e
 |halt=>cases e
theorem uC{w:Nat}(h:w<3)(d:Int):(dz w d).length=HY w:=by
 rw[lM];rcases mh h with rfl|rfl|rfl<;>rfl
structure Laid (cd:List (List (List Nat))) (rs:List Row) (ws sp z:List Nat):Prop where
 hR:sO cd
 len:ws.length=rs.length
 le:rs.length<=64
 ok:∀r∈rs,r.Ok rs.length
 lt:∀w∈ws,w<3
 mJ:sp=iQ 0 (fO cd rs) (rs.map aD) ws
 fit:AI (fO cd rs) (rs.map aD) ws
 hz:z=ow cd sp 0 rs ws
section
variable {cd:List (List (List Nat))} {rs:List Row} {ws sp z:List Nat}
theorem Laid.sl(L:Laid cd rs ws sp z):sp.length=rs.length+1:=by
 rw[L.mJ,jK _ _ _ _ (by unfold fO;rw[Jz,Jz]) (by unfold fO;rw[Jz];exact L.len)]
 unfold fO;rw[Jz]
noncomputable def yR(sp:List Nat)(k:Nat)(r:Row):Int:=match aD r with|none=>0|some t=>fm sp t k
theorem Laid.row(L:Laid cd rs ws sp z){k:Nat}(hk:k<rs.length):∃w,ws[k]?=some w/\w<3/\sp.getD (k+1) 0=sp.getD k 0+(dI cd rs[k] w (yR sp k rs[k])).length/\ow cd sp k (rs.drop k) (ws.drop k)=dI cd rs[k] w (yR sp k rs[k])++ow cd sp (k+1) (rs.drop (k+1)) (ws.drop (k+1))/\∀t,aD rs[k]=some t->w<3/\-cL w<=yR sp k rs[k]/\yR sp k rs[k]<cL w:=by
 have hw:k<ws.length:=by rw[L.len];exact hk
 have ew:=Jx hw;have lw:=L.lt _ (JN hw);have er:=Jx hk;have okr:=L.ok _ (JN hk);refine⟨ws[k],ew,lw,?_,?_,?_⟩
 ·have:=oo (fO cd rs) (rs.map aD) ws 0 k (bB cd rs[k]).length (aD rs[k]) ws[k] (by unfold fO;rw[JC,er];rfl) (by rw[JC,er];rfl) ew
  rw[<- L.mJ] at this;rw[this,dI,J5,Ms];congr 2
  cases e:aD rs[k] with
  |none=>rfl
  |some t=>exact (uC lw _).symm
 ·rw[KO hk,KO hw,ow,dI];congr 2;unfold BV yR
  cases e:aD rs[k] with
  |none=>rfl
  |some t=>rfl
 ·intro t et;have hf:=L.fit k t ws[k] (by rw[JC,er];exact Kt some et) ew
  rw[<- L.mJ] at hf;unfold Al at hf;rw[K4] at hf;unfold yR;rw[et];exact⟨lw,K6 hf.1,K6 hf.2⟩
theorem Laid.at(L:Laid cd rs ws sp z):∀k,k<=rs.length->z.drop (sp.getD k 0)=ow cd sp k (rs.drop k) (ws.drop k)/\sp.getD k 0<=z.length
 |0,_=>by
  have e:sp.getD 0 0=0:=by
   rw[L.mJ];obtain⟨l,e⟩:=jq 0 (fO cd rs) (rs.map aD) ws;rw[e];rfl
  rw[e,Lf];exact⟨L.hz,JL _⟩
 |k+1,hk=>by
  obtain⟨h1,h2⟩:=L.at k (by lia)
  obtain⟨w,_,_,e1,e2,_⟩:=L.row (show k<rs.length by lia)
  rw[e2] at h1;have hl:=Kt List.length h1;rw[Ks,J5] at hl;refine⟨?_,by lia⟩
  rw[e1,<- List.drop_drop,h1,Ox]
theorem Laid.pos(L:Laid cd rs ws sp z){k w:Nat}(hk:k<rs.length):0<(dI cd rs[k] w d).length:=by
 have g0:=L.hR.fK.at (p:=(0,rs[k].wi)) (.inl ⟨rfl,rs[k].uH⟩);obtain⟨c0,c1,c2,e,l0,l1,l2⟩:=L.hR.fK.ex;have hne:aO cd (0,rs[k].wi)≠[]:=by
  refine (L.hR.pf c0 (by rw[e];simp)).ne _ ?_
  have:=g0.2.1;rw[e] at this ⊢;exact K1 this
 unfold dI bB cV;rw[J5,J5,List.flatMap_cons,J5];have:=Nn.mpr hne;lia
theorem Laid.up(L:Laid cd rs ws sp z){k:Nat}(hk:k<rs.length):sp.getD k 0<sp.getD (k+1) 0:=by
 obtain⟨w,_,_,e1,_⟩:=L.row hk;have:=L.pos (w:=w) (d:=yR sp k rs[k]) hk;lia
theorem Laid.mono(L:Laid cd rs ws sp z):∀(i d:Nat),i+d+1<=rs.length->sp.getD i 0<sp.getD (i+d+1) 0
 |i,0,h=>L.up (by lia)
 |i,d+1,h=>Mc (L.mono i d (by lia)) (L.up (show i+d+1<rs.length by lia))
theorem Laid.last(L:Laid cd rs ws sp z):z.length=sp.getD rs.length 0:=by
 obtain⟨h1,h2⟩:=L.at rs.length (JD _);rw[LD] at h1;have hl:=Kt List.length h1;rw[Ks,show (ow cd sp rs.length [] (ws.drop rs.length)).length=0 by unfold ow;rfl] at hl
 lia
theorem Laid.IW(L:Laid cd rs ws sp z):z.length<=20000:=by
 rw[L.last,L.mJ];have:=wO (ss:=fO cd rs) (gs:=rs.map aD) (ws:=ws) (λs hs=>by
  obtain⟨r,hr,rfl⟩:=Ki.mp hs;have:=fe L.hR.fK (L.ok r hr)
  lia) rs.length
 have l:(fO cd rs).length=rs.length:=Jz ..;have:=L.le;lia
end
noncomputable def PA(H:Hp)(as:List Addr)(rs:List Row):Prop:=as.length=rs.length/\∀(i:Nat) (q:Addr) (r:Row),as[i]?=some q->rs[i]?=some r->H q=some (.tup r.vs)
theorem PA.snoc{rs:List Row}{r:Row}(h:PA H as rs)(e:H q=some (.tup r.vs)):PA H (as++[q]) (rs++[r]):=by
 refine⟨by rw[J5,J5,h.1];rfl,λi q' r' e1 e2=>?_⟩
 rcases Kx i as.length with hi|hi
 ·rw[Kf hi] at e1;rw[Kf (by rw[<- h.1];exact hi)] at e2
  exact h.2 i q' r' e1 e2
 ·have h1:=h.1;rw[JY hi] at e1;rw[JY (by lia),<- h1] at e2
  obtain⟨hj,rfl⟩:=J6.mp e1;obtain⟨hj2,rfl⟩:=J6.mp e2;have:i-as.length=0:=by simp at hj;lia
  simp only[this,MM];exact e
theorem PA.keep{rs:List Row}(h:PA H as rs)(k:KB ex H H')(hx:NT ex H):PA H' as rs:=⟨h.1,λi q r e1 e2=>k _ _ (h.2 i q r e1 e2) λz=>hx q z _ (h.2 i q r e1 e2)⟩
theorem jb{D:Addr}(h:H D=some (.lst ys)):NT [D] H:=λb hb xs e=>by
 rw[JQ.mp hb,h] at e;cases e
noncomputable def ur(H:Hp)(a:Addr)(rs:List Row):Prop:=∃as:List Addr,H a=some (.tup (as.map V.ref))/\PA H as rs
theorem ur.keep{rs:List Row}(h:ur H a rs)(k:KB ex H H')(hx:NT ex H):ur H' a rs:=by
 obtain⟨as,h1,h2⟩:=h;exact⟨as,k _ _ h1 λz=>hx a z _ h1,h2.keep k hx⟩
theorem ur.kb{rs:List Row}(h:ur H a rs)(k:KB [] H H'):ur H' a rs:=h.keep k (NT.nil _)
noncomputable def bO:Option Nat->V
 |none=>.aR
 |some t=>.int (t:Nat)
theorem t9{X:Cx}{es:List Expr}{tk:Nat}{tp:Pos}{e1 e2:Expr}{ta:TA}{p pos:Pos}(K:W.Frag)(hK:X.K=K)(hg:Gl X "zip")(hm:X.mg "zip"=none)(ha:QA X [e1,e2] ta)(h1:autoParam (fT e1=true) ℜ0)(h2:autoParam (fT e2=true) ℜ0):QI X (.Tuple es tk tp) (.Call (.Name "zip" p) [e1,e2] [] pos) (zB K ta):=by
 subst hK;exact⟨C8 hg hm ha.h h1 h2⟩
theorem iC(K:W.Frag)(ta:TA)(σ:L2.St)(H:Hp)(R:It->Hp->Prop):L2.zB K ta σ H R=ta σ H λvs H1=>∃p q:Bool×Addr,vs=[V.ref p.2,V.ref q.2]/\(∃xs,lB K p.1 H1 p.2 xs)/\(∃ys,lB K q.1 H1 q.2 ys)/\∀n,R (FJ K (gT n [p,q])) H1:=rfl
theorem m7{g:TG}{tb:TS}{D:Ends}{k1 k2:Bool}{b:Addr}{n:Nat}(hxy:xs.length=ys.length)(Pv:Nat->L2.St->Hp->Prop)(h0:Pv 0 σ H)(hl:∀i σ H,Pv i σ H->lB K k1 H a xs/\lB K k2 H b ys)
  (hs:∀i x y σ H p,xs[i]?=some x->ys[i]?=some y->Pv i σ H->H p=none->g (.ref p) σ (upd H p (.tup [x,y])) λσ2 H2=>tb {D with nx:=Pv (i+1),ct:=Pv (i+1),bk:=D.nx} σ2 H2) (hd:∀σ H,Pv xs.length σ H->D.nx σ H):nF (FJ K (gT n [(k1,a),(k2,b)])) g tb D σ H:=by
 refine⟨λi m σ H=>m=xs.length-i/\i<=xs.length/\Pv i σ H,⟨xs.length,by simp,JL _,h0⟩,?_⟩
 rintro i m σ H ⟨rfl,hi,p⟩;obtain⟨q1,q2⟩:=hl i σ H p;by_cases hlt:i<xs.length
 ·have hl2:i<ys.length:=by lia
  refine .inr ⟨⟨[xs[i],ys[i]],.cons ⟨xs,q1,by simp[hlt]⟩ (.cons ⟨ys,q2,by simp[hl2]⟩ .nil)⟩,Pv (i+1),λσ' H' p'=>⟨xs.length-(i+1),by lia,rfl,hlt,p'⟩,λx H' z=>?_⟩
  obtain⟨c',vs,pr,fr,rfl,rfl⟩:=z;obtain⟨v1,vs,rfl,e1,pr⟩:=Paired.gX pr;obtain⟨v2,vs,rfl,e2,pr⟩:=Paired.gX pr;cases pr;exact hs i v1 v2 σ H c' (e1 xs q1) (e2 ys q2) p fr
 ·have e:i=xs.length:=by lia
  subst e;exact .inl ⟨⟨[],(k1,n,a),_,[],rfl,.nil,xs,q1,rfl⟩,hd σ H p⟩
noncomputable def rH:Option Nat->Nat->V
 |none,_=>.aR
 |some _,w=>.int (w:Nat)
noncomputable def iu(gs:List (Option Nat))(ws:List Nat):List V:=List.zipWith rH gs ws
theorem zj(h:ws.length=gs.length):(iu gs ws).length=gs.length:=by unfold iu;rw[List.length_zipWith];lia
theorem lS{g:Option Nat}{w:Nat}(h1:gs[i]?=some g)(h2:ws[i]?=some w):(iu gs ws)[i]?=some (rH g w):=by
 unfold iu;rw[List.getElem?_zipWith,h1,h2]
noncomputable def CH:Sp:=λvs H Q _=>∃(g:Option Nat) (w:Nat),vs=[rH g w]/\w<3/\Q (.int (addW g w:Nat)) H
theorem FC(T:Txt K mg)(F:HasFn K mg "own_part" hW ["width"]):au P w K mg base aY 1 "own_part" ["width"] CH:=by
 obtain⟨ah,hg_HEADS,kt_HEADS⟩:=T.oF;obtain⟨aw,hg_WIDTHS,kt_WIDTHS⟩:=T.kQ;have hr_HEADS:RelV (.ref ah) (.ref ah):=rfl;have hr_WIDTHS:RelV (.ref aw) (.ref aw):=rfl;refine F.eW oM (λvs H Q E h=>?_) (λf cdv A outer s H vs Q E hr h=>?_)
 ·obtain⟨g,w,rfl,_⟩:=h;rfl
 ·have hu:=aP hr;obtain⟨g,k,rfl,hk,q⟩:=h;refine⟨_,(Z.aA (Z.ret (Z.Bf (Z.aZ cZ (Z.v 0) Z.aR) Z.int (Z.op (Z.bf K rfl) (Z.cb (Z.cJ K rfl) rfl T.cy (by decide +kernel) (Z.cons (Z.ix (Z.gZ K rfl) (Z.glob rfl hg_HEADS hr_HEADS) (Z.v 0)) Z.nil)) (Z.ix (Z.gZ K rfl) (Z.glob rfl hg_WIDTHS hr_WIDTHS) (Z.v 0)))))),?_⟩
  cases g with
  |none =>
   unfold rH;nofun;exact q
  |some t =>
   have p2:bV [V.str (Str.ofString "0"),.str (Str.ofString "10"),.str (Str.ofString "11")] (k:Int)=some (.str (wd (dj k))):=by
    rcases mh hk with rfl|rfl|rfl
    ·exact Kt (λz=>some (V.str z)) (by decide +kernel)
    ·exact Kt (λz=>some (V.str z)) (by decide +kernel)
    ·exact Kt (λz=>some (V.str z)) (by decide +kernel)
   have p3:bV [V.int 4,.int 8,.int 16] (k:Int)=some (.int ((bE k:Nat):Int)):=by rcases mh hk with rfl|rfl|rfl<;>rfl
   unfold rH;nofun;rw[JA (show ¬ V.int (k:Nat)=V.aR from λz=>nomatch z)];refine⟨ah,_,_,_,rfl,rfl,kt_HEADS H,p2,?_⟩;nofun;rw[bw];refine⟨JF (show (dj k).length<=2 by rcases mh hk with rfl|rfl|rfl<;>decide) (by decide),aw,_,_,_,rfl,rfl,kt_WIDTHS H,p3,?_⟩
   nofun;rw[show ((dj k).length:Int)+(bE k:Nat)=((addW (some t) k:Nat):Int) by rcases mh hk with rfl|rfl|rfl<;>rfl]
   exact q
theorem Bj{l:List Nat}{v:V}(h:(iV (nZ l))[i]?=some v):∃x:Nat,l[i]?=some x/\v=.int (x:Nat):=by
 unfold iV nZ at h;rw[Lp,JC] at h;obtain⟨x,e,rfl⟩:=JW.mp h;exact⟨x,e,rfl⟩
theorem fJ(l:List Nat):(iV (nZ l)).length=l.length:=by rw[bU,bp]
theorem Aa{l:List Nat}(h:i<l.length):bV (iV (nZ l)) (i:Int)=some (.int ((l.getD i 0:Nat):Int)):=bq (by unfold iV nZ;rw[Lp,JC,Jx h,JI,Jx h];rfl)
theorem C2{l:List Nat}(h:i<l.length):bV (iV (nZ (l.take (i+1)))) (-1)=some (.int ((l.getD i 0:Nat):Int)):=by
 have hi2:(l.take (i+1)).length=i+1:=by rw[JT];lia
 unfold bV kK;rw[JA (by decide),JE (by rw[fJ,hi2];lia),fJ,hi2,show -1+((i+1:Nat):Int)=(i:Int) by lia]
 show (iV (nZ (l.take (i+1))))[((i:Nat):Int).toNat]?=_;rw[Kb];unfold iV nZ;rw[Lp,JC,My (Ly i),Jx h,JI,Jx h];rfl
noncomputable def Lq(k:Bool)(H:Hp)(a:Addr)(xs:List V):Prop:=H a=some (if k then HO.lst xs else HO.tup xs)
theorem Lq.n{k:Bool}(h:Lq k H a xs)(c:KB [] H H'):Lq k H' a xs:=c.n h
theorem Lq.sq{k:Bool}(h:Lq k H a xs):L2.sq H a=some (k,xs):=by
 cases k with
 |true=>exact az h
 |false=>exact aC h
theorem Lq.of{k:Bool}(h:Lq k H a xs):lB K k H a xs:=by
 cases k with
 |true=>exact bI.of h
 |false=>exact bz.of h
theorem IK{X:Cx}{tg e:Expr}{w1 w2:TI}(h1:QI X tg e w1)(h2:QI X tg e w2):QI X tg e λσ H R=>w1 σ H R\/w2 σ H R:=by
 exact⟨λpins s σ H R I q=>q.elim (h1.h pins s σ H R I) (h2.h pins s σ H R I)⟩
theorem qW{g:TG}{tb:TS}{D:Ends}{kb:Bool}(Pv:Nat->L2.St->Hp->Prop)(h0:Pv 0 σ H)(hl:∀i σ H,i<=xs.length->Pv i σ H->lB K kb H a xs)
  (hs:∀i x σ H p,xs[i]?=some x->Pv i σ H->H p=none->g (.ref p) σ (upd H p (.tup [.int i,x])) λσ2 H2=>tb {D with nx:=Pv (i+1),ct:=Pv (i+1),bk:=D.nx} σ2 H2) (hd:∀σ H,Pv xs.length σ H->D.nx σ H) :
  nF (if kb then sh K a else uV K a) g tb D σ H:=by
 cases kb with
 |true=>exact lj Pv h0 hl hs hd
 |false=>exact k_ Pv h0 hl hs hd
theorem qX{kb:Bool}(hn:xs.length<=sizeLine)(Pv:Addr->Nat->List V->Hp->Prop)(h0:∀D,H D=none->Pv D 0 [] (upd H D (.lst [])))(hD:∀D i ys H',Pv D i ys H'->H' D=some (.lst ys)/\ys.length=i)
  (hl:∀D i ys H',Pv D i ys H'->lB K kb H' a xs)
  (hs:∀D i ys H' x (R:VK),xs[i]?=some x->Pv D i ys H'->(∀v H5,H5 D=some (.lst ys)->Pv D (i+1) (ys++[v]) (upd H5 D (.lst (ys++[v])))->R v H5)->te (some x::σ) H' R) (hd:∀D ys H',Pv D xs.length ys H'->Q (.ref D) H') :
  i6 (if kb then sT K a else so K a) 1 (b6 0) dY te Q σ H:=by
 cases kb with
 |true=>exact ib hn Pv h0 hD hl hs hd
 |false=>exact cq hn Pv h0 hD hl hs hd
noncomputable def kZ(K:W.Frag):Sp:=λvs H Q _=>∃(ka:Bool) (a b:Addr) (k:Bool) (ss:List Nat) (gs:List (Option Nat)) (ws:List Nat),vs=[.ref a,.ref b]/\Lq ka H a (iV (nZ ss))/\lB K k H b (iu gs ws)/\(∀H',KB [] H H'->lB K k H' b (iu gs ws))/\gs.length=ss.length/\ws.length=ss.length/\ss.length<=64/\(∀w∈ws,w<3)/\∀d H',H d=none->KB [] H H'->H' d=some (.lst (iV (nZ (iQ 0 ss gs ws))))->Q (.ref d) H'
theorem vO(T:Txt K mg)(F:HasFn K mg "row_starts" fv ["sizes","widths"])(hown_part:au P w K mg base aY 1 "own_part" ["width"] CH):au P w K mg base aY 2 "row_starts" ["sizes","widths"] (kZ K):=by
 refine F.eW dn (λvs H Q E h=>?_) (λf cdv A outer s H vs Q E hr h=>?_)
 ·obtain⟨ka,a,b,k,ss,gs,ws,rfl,_⟩:=h;rfl
 ·have hu:=aP hr;obtain⟨ka,a,b,k,ss,gs,ws,rfl,ha,hb,hbk,h1,h2,h3,h4,q⟩:=h;have hl:=jK ss gs ws 0 h1 h2;have hat:=oo ss gs ws 0;obtain⟨l0,e0⟩:=jq 0 ss gs ws;refine⟨_,(Z.ao (Z.se (i:=2) dn.nd (Z.lst (Z.cons Z.int Z.nil)))
   (Z.ao (Z.lg Kl rfl (t9 K rfl rfl T.u7 (Z.cons (Z.v 0) (Z.cons (Z.v 1) Z.nil))) (Z.ll (n:=2) K rfl rfl (Z.bG (Z.aT (i:=3) dn.nd rfl (by right)) (Z.bG (Z.aT (i:=4) dn.nd rfl (by right)) Z.gh))) (Z.aA (Z.expr (Z.app K (Z.v 2) (Z.cons (Z.op (Z.bf K rfl) (Z.op (Z.bf K rfl) (Z.ix (Z.aM K rfl hu) (Z.v 2) (Z.un dC Z.int)) (Z.v 3)) (Z.fc hown_part (Z.cons (Z.v 4) Z.nil))) Z.nil)))))
   (Z.aA (Z.ret (Z.v 2))))),?_⟩
  generalize mJ:iQ 0 ss gs ws=sp at *;refine ax λN hN=>?_;nofun;refine⟨by decide,λfd hfd=>?_⟩
  have k1:=KB.new (ex:=[]) (o:=.lst [.int 0]) hfd;have s1:upd H fd (.lst [.int 0]) fd=some (.lst (iV (nZ (sp.take 1)))):=by rw[ae,e0];rfl
  generalize upd H fd (.lst [.int 0])=H1 at *;subst hN;refine ax λN hN=>?_;exists iC;refine⟨(ka,a),(k,b),⟨rfl,rfl⟩,⟨_,(ha.n k1).of⟩,⟨_,hbk _ k1⟩,λn=>?_⟩;refine m7 (xs:=iV (nZ ss)) (ys:=iu gs ws) (by rw[fJ,zj (by lia),h1]) (λi σ H'=>∃o3 o4:Option V,i<=ss.length/\KB [] H H'/\H' fd=some (.lst (iV (nZ (sp.take (i+1)))))/\σ=[some (.ref a),some (.ref b),some (.ref fd),o3,o4]) ⟨none,none,JL _,k1,s1,rfl⟩ (λi σ H' ⟨_,_,_,k,_⟩=>⟨(ha.n k).of,hbk _ k⟩) ?_ ?_
  ·rintro i x y σ H' p hx hy ⟨o3,o4,hi,hk,gf,rfl⟩ hp;obtain⟨s0,es,rfl⟩:=Bj hx;have hlt:i<ss.length:=(J6.mp es).1;have eg:=Jx (show i<gs.length by lia)
   have ew:=Jx (show i<ws.length by lia)
   have lw:=h4 _ (JN (show i<ws.length by lia))
   generalize gs[i]'_=g at eg;generalize ws[i]'_=w0 at ew lw;have en:=hat i s0 g w0 es eg ew;rw[lS eg ew] at hy;cases hy;unfold b6;refine⟨p,_,rfl,bz.of ae,rfl,_,_,rfl,_,_,rfl,rfl,?_⟩;have k2:=hk.trans (KB.new (o:=.tup [.int (s0:Nat),rH g w0]) hp);have gf2:upd H' p (.tup [.int (s0:Nat),rH g w0]) fd=some (.lst (iV (nZ (sp.take (i+1))))):=by rw[aj (aq gf hp)];exact gf
   generalize upd H' p (.tup [.int (s0:Nat),rH g w0])=H2 at *;have et:sp.take (i+1+1)=sp.take (i+1)++[sp.getD (i+1) 0]:=by
    rw[Ko,JI,Jx (show i+1<sp.length by lia)];rfl
   have lst:=C2 (l:=sp) (i:=i) (by lia)
   dsimp only;refine yy λM hM=>?_;exists az gf2,lst;refine⟨.inl ⟨rfl,_,bI.of gf2⟩,g,w0,rfl,lw,?_⟩;nofun;refine⟨fd,_,_,rfl,rfl,gf2,Nat.lt_of_le_of_lt (show _<=1000 by rw[fJ,List.length_take];lia) (by decide),?_⟩
   rw[hM];refine⟨_,_,hlt,λu o e _=>by rw[aj (aq e hfd)];exact k2.n e,?_,rfl⟩
   rw[ae,et,en];unfold nZ;rw[JR,eO];rfl
  ·rintro σ H' ⟨o3,o4,hi,hk,gf,rfl⟩;show N _ _;subst hN;nofun;rw[Kj (by rw[hl,fJ];exact JD _)] at gf
   exact q fd H' hfd hk gf
noncomputable def sF:Sp:=λvs H Q _=>∃(kb:Bool) (a b:Addr) (sp:List Nat) (gs:List (Option Nat)) (k t:Nat),vs=[.ref a,.ref b,.int (k:Nat)]/\H a=some (.lst (iV (nZ sp)))/\Lq kb H b (gs.map bO)/\gs[k]?=some (some t)/\t<sp.length/\k+1<sp.length/\Q (.int (fm sp t k)) H
theorem BZ(T:Txt K mg)(F:HasFn K mg "distance_of" eU ["starts","goals","row"]):au P w K mg base aY 1 "distance_of" ["starts","goals","row"] sF:=by
 refine F.eW kN (λvs H Q E h=>?_) (λf cdv A outer s H vs Q E hr h=>?_)
 ·obtain⟨kb,a,b,sp,gs,k,t,rfl,_⟩:=h;rfl
 ·have hu:=aP hr;obtain⟨kb,a,b,sp,gs,k,t,rfl,ha,hb,hg,ht,hk,q⟩:=h;refine⟨_,(Z.aA (Z.ret (Z.op cK (Z.ix (Z.aM K rfl hu) (Z.v 0) (Z.ix (Z.aM K rfl hu) (Z.v 1) (Z.v 2))) (Z.ix (Z.aM K rfl hu) (Z.v 0) (Z.op (Z.bf K rfl) (Z.v 2) Z.int))))),?_⟩;have ag:bV (gs.map bO) (k:Int)=some (.int (t:Nat)):=bq (by rw[JC,hg];rfl)
  have as1:=Aa ht;have as2:bV (iV (nZ sp)) ((k:Int)+1)=some (.int ((sp.getD (k+1) 0:Nat):Int)):=Aa hk;exists hb.sq,ag,az ha,as1,as2;exact q
noncomputable def xN:Sp:=λvs H Q _=>∃(kb:Bool) (a b c:Addr) (sp:List Nat) (gs:List (Option Nat)) (ws:List Nat) (k t w:Nat),vs=[.ref a,.ref b,.ref c,.int (k:Nat)]/\H a=some (.lst (iV (nZ sp)))/\Lq kb H b (gs.map bO)/\H c=some (.lst (iu gs ws))/\gs[k]?=some (some t)/\ws[k]?=some w/\w<3/\t<sp.length/\k+1<sp.length/\Q (.bl (Al w (fm sp t k))) H
theorem C5(T:Txt K mg)(F:HasFn K mg "fits" rj ["starts","goals","widths","row"])(hdistance_of:au P w K mg base aY 1 "distance_of" ["starts","goals","row"] sF):au P w K mg base aY 2 "fits" ["starts","goals","widths","row"] xN:=by
 obtain⟨ah,hg_HALVES,kt_HALVES⟩:=T.pK;have hr_HALVES:RelV (.ref ah) (.ref ah):=rfl;refine F.eW uu (λvs H Q E h=>?_) (λf cdv A outer s H vs Q E hr h=>?_)
 ·obtain⟨kb,a,b,c,sp,gs,ws,k,t,w,rfl,_⟩:=h;rfl
 ·have hu:=aP hr;obtain⟨kb,a,b,c,sp,gs,ws,k,t,w0,rfl,ha,hb,hc,hg,hw,lw,ht,hk,q⟩:=h;refine⟨_,(Z.ao (Z.se (i:=4) uu.nd (Z.ix (Z.gZ K rfl) (Z.glob rfl hg_HALVES hr_HALVES) (Z.ix (Z.aM K rfl hu) (Z.v 2) (Z.v 3))))
   (Z.aA (Z.ret (Z.chain (G7) (eF) (Z.un dC (Z.v 4)) (Z.fc hdistance_of (Z.cons (Z.v 0) (Z.cons (Z.v 1) (Z.cons (Z.v 3) Z.nil)))) (Z.v 4))))),?_⟩
  have aw:bV (iu gs ws) (k:Int)=some (.int (w0:Nat)):=bq (lS hg hw);have ah':bV [V.int 8,.int 128,.int 32768] (w0:Int)=some (.int (cL w0)):=by rcases mh lw with rfl|rfl|rfl<;>rfl
  refine ax λN hN=>?_;exists az hc,aw;refine⟨ah,_,_,_,rfl,rfl,kt_HALVES H,ah',?_⟩;subst hN;nofun;refine⟨kb,a,b,sp,gs,k,t,rfl,ha,hb,hg,ht,hk,?_⟩;nofun;unfold Al at q;by_cases c1:-cL w0<=fm sp t k
  ·rw[JE c1];rw[Kc c1,O5] at q;exact q
  ·rw[JA c1];rw[Ke c1,Np] at q;exact q
noncomputable def kr(sp:List Nat)(gs:List (Option Nat))(ws:List Nat)(k:Nat):Bool:=match gs[k]?,ws[k]? with
 |some (some t),some w=>!Al w (fm sp t k)
 |_,_=>false
noncomputable def dN(ss:List Nat)(gs:List (Option Nat))(ws:List Nat):Option Nat:=(List.range' 0 gs.length).find? (kr (iQ 0 ss gs ws) gs ws)
noncomputable def tW(K:W.Frag):Sp:=λvs H Q _=>∃(ka kb:Bool) (a b c:Addr) (ss:List Nat) (gs:List (Option Nat)) (ws:List Nat),vs=[.ref a,.ref b,.ref c]/\Lq ka H a (iV (nZ ss))/\Lq kb H b (gs.map bO)/\H c=some (.lst (iu gs ws))/\gs.length=ss.length/\ws.length=ss.length/\ss.length<=64/\(∀t,some t∈gs->t<=ss.length)/\(∀w∈ws,w<3)/\∀H',KB [] H H'->Q (wJ (dN ss gs ws)) H'
theorem zO(T:Txt K mg)(F:HasFn K mg "first_too_narrow" cQ ["sizes","goals","widths"])(hrow_starts:au P w K mg base aY 2 "row_starts" ["sizes","widths"] (kZ K))(hfits:au P w K mg base aY 2 "fits" ["starts","goals","widths","row"] xN):au P w K mg base aY 3 "first_too_narrow" ["sizes","goals","widths"] (tW K):=by
 refine F.eW bX (λvs H Q E h=>?_) (λf cdv A outer s H vs Q E hr h=>?_)
 ·obtain⟨ka,kb,a,b,c,ss,gs,ws,rfl,_⟩:=h;rfl
 ·have hu:=aP hr;obtain⟨ka,kb,a,b,c,ss,gs,ws,rfl,ha,hb,hc,h1,h2,h3,h5,h4,q⟩:=h;refine⟨_,(Z.ao (Z.se (i:=3) bX.nd (Z.fc hrow_starts (Z.cons (Z.v 0) (Z.cons (Z.v 2) Z.nil))))
   (Z.ao (Z.lg Kl rfl (IK (Z.enum K rfl rfl T.d7 (Z.cons (Z.v 1) Z.nil)) (Z.yu K rfl rfl T.d7 (Z.cons (Z.v 1) Z.nil))) (Z.ll (n:=2) K rfl rfl (Z.bG (Z.aT (i:=4) bX.nd rfl (by right)) (Z.bG (Z.aT (i:=5) bX.nd rfl (by right)) Z.gh))) (Z.aA (Z.dA (Z.tw (Z.vn (Z.aZ jU (Z.v 5) Z.aR) (Z.mV (Z.EZ (Z.uZ K rfl (Z.fc hfits (Z.cons (Z.v 3) (Z.cons (Z.v 1) (Z.cons (Z.v 2) (Z.cons (Z.v 4) Z.nil)))))))))) (Z.aA (Z.ret (Z.v 4))) Z.bH)))
   (Z.aA (Z.ret Z.aR)))),?_⟩
  refine ax λN hN=>?_;nofun;refine⟨ka,a,c,true,ss,gs,ws,rfl,ha,bI.of hc,λH' k=>bI.of (k.n hc),h1,h2,h3,h4,λd H1 hd k1 g1=>?_⟩;subst hN;have sl:=jK ss gs ws 0 h1 h2;unfold dN at q;generalize iQ 0 ss gs ws=sp at *;refine ax λN hN=>?_;nofun
  suffices hF:nF (if kb then sh K b else uV K b) _ _ _ _ _ by
   cases kb with
   |true=>exact .inr ⟨⟨_,bI.of (k1.n hb)⟩,hF⟩
   |false=>exact .inl ⟨⟨_,bz.of (k1.n hb)⟩,hF⟩
  refine qW (xs:=gs.map bO) (λi σ H'=>∃o4 o5:Option V,KB [] H H'/\H' d=some (.lst (iV (nZ sp)))/\i<=gs.length/\(List.range' i (gs.length-i)).find? (kr sp gs ws)=(List.range' 0 gs.length).find? (kr sp gs ws)/\σ=[some (.ref a),some (.ref b),some (.ref c),some (.ref d),o4,o5]) ⟨none,none,k1,g1,JL _,rfl,rfl⟩ (λi σ H' _ h=>by obtain⟨_,_,k,_⟩:=h;exact (hb.n k).of) ?_ ?_
  ·rintro i x σ H' p hx ⟨o4,o5,hk,gd,hi,ef,rfl⟩ hp;have hlt:i<gs.length:=by have:=(J6.mp hx).1;rw[Jz] at this;exact this
   have eg:=Jx hlt;have gm:=JN hlt;have ew:=Jx (show i<ws.length by lia)
   have lw:=h4 _ (JN (show i<ws.length by lia))
   generalize gs[i]'_=g at eg gm;generalize ws[i]'_=w0 at ew lw;rw[JC,eg] at hx;cases hx;rw[show gs.length-i=(gs.length-(i+1))+1 by lia,Ld,Ln] at ef
   unfold b6;refine⟨p,_,rfl,bz.of ae,rfl,_,_,rfl,_,_,rfl,rfl,?_⟩;have kz:=KB.new (ex:=[]) (o:=.tup [.int i,bO g]) hp;generalize upd H' p (.tup [.int i,bO g])=H2 at *;have hk2:=hk.trans kz;have gd2:=kz.n gd;dsimp only;refine yy λM hM=>?_;refine CN λA B hA hB=>?_;nofun;have go:kr sp gs ws i=false->∀G:Hp,KB [] H G->G d=some (.lst (iV (nZ sp)))->B [some (.ref a),some (.ref b),some (.ref c),some (.ref d),some (.int (i:Int)),some (bO g)] G:=λhf G kG gG=>by
    rw[hB];show M _ _;rw[hM];rw[hf] at ef;exact⟨_,_,kG,gG,hlt,ef,rfl⟩
   cases g with
   |none =>
    rw[JA (show ¬ ¬ bO none=V.aR from λz=>z rfl)];exact go (by unfold kr;rw[eg]) _ hk2 gd2
   |some t =>
    rw[JE (show ¬ bO (some t)=V.aR from λz=>nomatch z)];have ht:t<=ss.length:=h5 t gm;refine⟨kb,d,b,c,sp,gs,ws,i,t,w0,rfl,gd2,hb.n hk2,hk2.n hc,eg,ew,lw,by lia,by lia,?_⟩
    have et:kr sp gs ws i=!Al w0 (fm sp t i):=by unfold kr;rw[eg,ew]
    refine⟨_,rfl,?_⟩
    cases co:Al w0 (fm sp t i) with
    |true=>
     rw[JA (by decide)]
     exact go (by rw[et,co];rfl) _ hk2 gd2
    |false =>
     rw[JE rfl,hA];rw[et,co] at ef;have ef':some i=(List.range' 0 gs.length).find? (kr sp gs ws):=ef;rw[<- ef'] at q;nofun;exact q _ hk2
  ·rintro σ H' ⟨o4,o5,hk,gd,hi,ef,rfl⟩;show N _ _;subst hN;rw[Jz,Lo] at ef;have ef':none=(List.range' 0 gs.length).find? (kr sp gs ws):=ef;rw[<- ef'] at q;nofun;exact q _ hk
noncomputable def oX:Sp:=λvs H Q _=>∃(kb:Bool) (b:Addr) (gs:List (Option Nat)),vs=[.ref b]/\Lq kb H b (gs.map bO)/\gs.length<=64/\∀d H',H d=none->KB [] H H'->H' d=some (.lst (iu gs (List.replicate gs.length 0)))->Q (.ref d) H'
theorem Av(gs:List (Option Nat)):iu gs (List.replicate gs.length 0)=gs.map λg=>rH g 0:=by
 induction gs with
 |nil=>rfl
 |cons g gs ih=>rw[JK,Ku,Kg,<- ih];rfl
theorem vq(T:Txt K mg)(F:HasFn K mg "narrowest" eG ["goals"]):au P w K mg base aY 1 "narrowest" ["goals"] oX:=by
 refine F.eW nT (λvs H Q E h=>?_) (λf cdv A outer s H vs Q E hr h=>?_)
 ·obtain⟨kb,b,gs,rfl,_⟩:=h;rfl
 ·have hu:=aP hr;obtain⟨kb,b,gs,rfl,hb,hl,q⟩:=h;refine⟨_,(Z.aA (Z.ret (Z.rA (osc:=af eG) (ON:=["goals"]) (own:=["goal"]) (N:=["goal","goals"]) (aG.of rfl (by decide +kernel)) (Z.any K rfl (Z.v 0)) (λnd _ _ _ _=>(Z.aT (i:=0) nd rfl (by right))) (λ_ _ _ _=>Z.lZ) (λ_ _ _ _=>(Z.Bf (Z.aZ cZ (Z.v 0) Z.aR) Z.aR Z.int))))),?_⟩
  exists hb.sq
  suffices hC:i6 (if kb then sT K b else so K b) _ _ _ _ _ _ _ by
   cases kb with
   |true=>exact hC
   |false=>exact hC
  refine qX (xs:=gs.map bO) (JF (show _<=64 by rw[Jz];exact hl) (by decide)) (λD i ys H'=>H D=none/\H' D=some (.lst ys)/\KB [] H H'/\ys=((gs.take i).map λg=>rH g 0)/\i<=gs.length) (λD hD=>⟨hD,ae,KB.new hD,rfl,JL _⟩) (λD i ys H' h=>⟨h.2.1,by rw[h.2.2.2.1,Jz,JT];have:=h.2.2.2.2;lia⟩) (λD i ys H' h=>(hb.n h.2.2.1).of) ?_ ?_
  ·rintro D i ys H' x R hx ⟨g0,g1,gk,rfl,hi⟩ kk;have hlt:i<gs.length:=by have:=(J6.mp hx).1;rw[Jz] at this;exact this
   have eg:=Jx hlt;have et:gs.take (i+1)=gs.take i++[gs[i]]:=by rw[Ko,eg];rfl
   rw[JC,eg] at hx;cases hx;have fin:R (rH gs[i] 0) H':=kk _ _ g1 ⟨g0,ae,λu o e _=>by rw[aj (aq e g0)];exact gk.n e,by rw[et,JR];rfl,hlt⟩
   nofun
   cases hg:gs[i] with
   |none=>rw[hg] at fin;rw[JE (show bO none=V.aR from rfl)];exact fin
   |some t=>rw[hg] at fin;rw[JA (show ¬ bO (some t)=V.aR from λz=>nomatch z)];exact fin
  ·rintro D ys H' ⟨g0,g1,gk,rfl,hi⟩;refine q D H' g0 gk ?_;rw[g1,Jz,Kq,Av]
noncomputable def yl:Sp:=λvs H Q _=>∃(n m:Int),vs=[.int n,.int m]/\-1<=m/\m<=40/\Q (.str (wd (bS n m.toNat []))) H
theorem EX(T:Txt K mg)(F:HasFn K mg "last_figures" dX ["number","many"]):au P w K mg base aY 1 "last_figures" ["number","many"] yl:=by
 refine F.eW bN (λvs H Q E h=>?_) (λf cdv A outer s H vs Q E hr h=>?_)
 ·obtain⟨n,m,rfl,_⟩:=h;rfl
 ·have hu:=aP hr;obtain⟨n,m,rfl,hm0,hm,q⟩:=h;refine⟨_,(Z.ao (Z.se (i:=2) bN.nd Z.str)
   (Z.ao (Z.se (i:=3) bN.nd (Z.v 0))
   (Z.ao (Z.lg Kl rfl (Z.vW rfl T.fA (Z.cons (Z.v 1) Z.nil)) (Z.aT (i:=4) bN.nd rfl (by right)) (Z.ao (Z.se (i:=2) bN.nd (Z.op (Z.bf K rfl) (Z.ct vf rfl T.Dg (by decide +kernel) (Z.cons (Z.op e8 (Z.v 3) Z.int) Z.nil)) (Z.v 2)))
   (Z.aA (Z.se (i:=3) bN.nd (Z.op jY (Z.v 3) Z.int)))))
   (Z.aA (Z.ret (Z.v 2)))))),?_⟩
  refine ax λN hN=>?_;nofun;rw[hN];clear hN N;refine ax λN hN=>?_;nofun;rw[hN];clear hN N;refine ax λN hN=>?_;nofun;refine⟨by lia,by lia,?_⟩
  have hk:m.toNat<=40:=by lia
  generalize m.toNat=k at *;refine rg (λi σ H'=>∃(l:Int) (acc:List Nat) (o:Option V),H'=H/\i<=k/\bS l (k-i) acc=bS n k []/\acc.length=i/\σ=[some (.int n),some (.int m),some (.str (wd acc)),some (.int l),o]) ⟨n,[],none,rfl,JL _,rfl,rfl,by rw[zZ]⟩ ?_ ?_
  ·rintro i σ H' hi ⟨l,acc,o,rfl,_,e,hl,rfl⟩;unfold b6;refine ax λM hM=>?_;exists DM;rw[kn,bw,bw];refine⟨by decide,by rcases Int.emod_two_eq l with h|h<;>rw[h]<;>decide,JF (show _<=50 by simp;lia) (by decide),?_⟩
   rw[hM];clear hM M;refine yy λM hM=>?_;nofun;refine⟨⟨by decide,by decide⟩,?_⟩
   rw[hM];refine⟨l / 2,dg l::acc,some _,rfl,hi,?_,by rw[JK,hl],rfl⟩
   rw[<- e,show k-i=(k-(i+1))+1 by lia]
   rfl
  ·rintro σ H' ⟨l,acc,o,rfl,_,e,_,rfl⟩;show N _ _;rw[hN];clear hN N;nofun;rw[Lo] at e;rw[<- e] at q;exact q
theorem rO(n:Nat):bS (n:Int) (((a_ n:Nat):Int)-1).toNat []=(dQ n).tail:=by
 unfold dQ
 cases e:a_ n with
 |zero=>rfl
 |succ b =>
  obtain⟨d,ed⟩:=kC b (n:Int) [];rw[ed,show (((b+1:Nat):Int)-1).toNat=b by lia];rfl
noncomputable def my:Sp:=λvs H Q _=>∃(n:Nat),vs=[.int (n:Nat)]/\n<65536/\Q (.str (wd (dQ n).tail)) H
theorem sk(T:Txt K mg)(F:HasFn K mg "figures_behind_first" cf ["number"])(hlast_figures:au P w K mg base aY 1 "last_figures" ["number","many"] yl):au P w K mg base aY 2 "figures_behind_first" ["number"] my:=by
 refine F.eW fb (λvs H Q E h=>?_) (λf cdv A outer s H vs Q E hr h=>?_)
 ·obtain⟨n,rfl,_⟩:=h;rfl
 ·have hu:=aP hr;obtain⟨n,rfl,hn,q⟩:=h;have hb:=iJ hn;refine⟨_,(Z.aA (Z.ret (Z.fc hlast_figures (Z.cons (Z.v 0) (Z.cons (Z.op cK (Z.Jh K rfl PySem.F.plainAttrs_int PySem.F.slot_int_bit_length PySem.F.type_int_bit_length Y.uz (Z.v 0)) Z.int) Z.nil))))),?_⟩;nofun;refine⟨rfl,?_⟩;refine⟨_,rfl,rfl,?_⟩;nofun;refine⟨_,_,rfl,?_,?_,?_⟩
  ·show (-1:Int)<=((a_ n:Nat):Int)-1;lia
  ·show ((a_ n:Nat):Int)-1<=40;lia
  ·show Q (.str (wd (bS (n:Int) (((a_ n:Nat):Int)-1).toNat []))) H;rw[rO];exact q
noncomputable def sJ:Sp:=λvs H Q _=>∃(k:Nat) (d:Int),vs=[.int (k:Nat),.int d]/\k<3/\Q (.str (wd (dz k d))) H
theorem yM(T:Txt K mg)(F:HasFn K mg "jump_written" dO ["width","distance"])(hlast_figures:au P w K mg base aY 1 "last_figures" ["number","many"] yl):au P w K mg base aY 2 "jump_written" ["width","distance"] sJ:=by
 obtain⟨ah,hg_HEADS,kt_HEADS⟩:=T.oF;obtain⟨aw,hg_WIDTHS,kt_WIDTHS⟩:=T.kQ;have hr_HEADS:RelV (.ref ah) (.ref ah):=rfl;have hr_WIDTHS:RelV (.ref aw) (.ref aw):=rfl;refine F.eW jF (λvs H Q E h=>?_) (λf cdv A outer s H vs Q E hr h=>?_)
 ·obtain⟨k,d,rfl,_⟩:=h;rfl
 ·have hu:=aP hr;obtain⟨k,d,rfl,hk,q⟩:=h;refine⟨_,(Z.aA (Z.ret (Z.op (Z.bf K rfl) (Z.ix (Z.gZ K rfl) (Z.glob rfl hg_HEADS hr_HEADS) (Z.v 0)) (Z.fc hlast_figures (Z.cons (Z.v 1) (Z.cons (Z.ix (Z.gZ K rfl) (Z.glob rfl hg_WIDTHS hr_WIDTHS) (Z.v 0)) Z.nil)))))),?_⟩;nofun;have p2:bV [V.str (Str.ofString "0"),.str (Str.ofString "10"),.str (Str.ofString "11")] (k:Int)=some (.str (wd (dj k))):=by
   rcases mh hk with rfl|rfl|rfl
   ·exact Kt (λz=>some (V.str z)) (by decide +kernel)
   ·exact Kt (λz=>some (V.str z)) (by decide +kernel)
   ·exact Kt (λz=>some (V.str z)) (by decide +kernel)
  have p3:bV [V.int 4,.int 8,.int 16] (k:Int)=some (.int ((bE k:Nat):Int)):=by rcases mh hk with rfl|rfl|rfl<;>rfl
  have p4:bE k<=16/\(dj k).length<=2:=by rcases mh hk with rfl|rfl|rfl<;>decide
  refine⟨ah,_,_,_,rfl,rfl,kt_HEADS H,p2,aw,_,_,_,rfl,rfl,kt_WIDTHS H,p3,_,_,rfl,by lia,by lia,?_⟩
  rw[Kb];nofun;rw[kn,bw,bw,dM];exact⟨JF (show _<=30 by simp;lia) (by decide),q⟩
noncomputable def Ak(H:Hp)(ps:List Addr)(l:List (Nat×Nat)):Prop:=ps.length=l.length/\∀(j:Nat) (q:Addr) (x:Nat×Nat),ps[j]?=some q->l[j]?=some x->H q=some (.tup [.int (x.1:Nat),.int (x.2:Nat)])
theorem Ak.snoc{ps:List Addr}{l:List (Nat×Nat)}{x:Nat×Nat}(h:Ak H ps l)(e:H q=some (.tup [.int (x.1:Nat),.int (x.2:Nat)])):Ak H (ps++[q]) (l++[x]):=by
 refine⟨by rw[J5,J5,h.1];rfl,λi q' r' e1 e2=>?_⟩
 rcases Kx i ps.length with hi|hi
 ·rw[Kf hi] at e1;rw[Kf (by rw[<- h.1];exact hi)] at e2
  exact h.2 i q' r' e1 e2
 ·have h1:=h.1;rw[JY hi] at e1;rw[JY (by lia),<- h1] at e2
  obtain⟨hj,rfl⟩:=J6.mp e1;obtain⟨hj2,rfl⟩:=J6.mp e2;have:i-ps.length=0:=by simp at hj;lia
  simp only[this,MM];exact e
theorem AY{D:Addr}(h:H D=some (.lst ys)):NT [D] H:=λb hb xs e=>by
 rw[JQ.mp hb,h] at e;cases e
theorem Ak.keep{ps:List Addr}{l:List (Nat×Nat)}(h:Ak H ps l)(k:KB ex H H')(hx:NT ex H):Ak H' ps l:=⟨h.1,λi q r e1 e2=>k _ _ (h.2 i q r e1 e2) λz=>hx q z _ (h.2 i q r e1 e2)⟩
theorem ID(x:V)(xs:List V):dJ (x::xs) (some 1) none=xs:=by
 unfold dJ;rw[HT.dP,show (some (1:Int))=some ((1:Nat):Int) from rfl,HT.eE];simp
theorem By{x:V}(h:H a=some (.tup (x::xs)))(q:∀p,H p=none->Q (.ref p) (upd H p (.tup xs))):qT K (.ref a) (some 1) none H Q:=⟨a,x::xs,rfl,bz.of h,λz=>by
 have:=z.1;rw[show (some (1:Int))=some ((1:Nat):Int) from rfl,HT.eE] at this;simp at this,by rw[ID];exact q⟩
noncomputable def pj:Sp:=λvs H Q _=>∃(ra:Addr) (r:Row) (k:Nat),vs=[.ref ra]/\H ra=some (.tup r.vs)/\r.Ok k/\∀D ps H',H D=none->KB [] H H'->H' D=some (.lst (ps.map V.ref))->Ak H' ps (cV r)->Q (.ref D) H'
theorem wq(T:Txt K mg)(F:HasFn K mg "coded_things" dR ["row"]):au P w K mg base aY 1 "coded_things" ["row"] pj:=by
 obtain⟨u0,hg_OF_WORDS,hr_OF_WORDS⟩:=T.kj;obtain⟨u1,hg_OF_CLASSES,hr_OF_CLASSES⟩:=T.i0;obtain⟨u2,hg_OF_BOXES,hr_OF_BOXES⟩:=T.lL;obtain⟨aB,hg_BOXES,sB⟩:=T.jS;have hr_BOXES:RelV (.ref aB) (.ref aB):=rfl;obtain⟨_,oB,hmB,hoB,hdB⟩:=T.BB;rw[hg_BOXES] at hmB;cases hmB;have tyB:∀H,FP K "tuple" (.ref aB) H:=λH=>.inr (.inl ⟨rfl,oB,hoB,by
  rcases sB (λ_=>none) with h|⟨o,_,_,h1,h2,_⟩
  ·rcases h with h|⟨_,h⟩
   ·cases h
   ·cases h
  ·rw[hoB] at h1;cases h1;exact h2,hdB⟩)
 obtain⟨dS,hg_SHAPES,hd0⟩:=T.lh;have hd_SHAPES:lJ K dS e7:=hd0;have hr_SHAPES:RelV (.ref dS) (.ref dS):=rfl;refine F.eW cP (λvs H Q E h=>?_) (λf cdv A outer s H vs Q E hr h=>?_)
 ·obtain⟨ra,r,k,rfl,_⟩:=h;rfl
 ·have hu:=aP hr;obtain⟨ra,r,k,rfl,hra,aQ,q⟩:=h;refine⟨_,(Z.ao (Z.se (i:=1) cP.nd (Z.lst (Z.cons (Z.tup (Z.cons (Z.glob rfl hg_OF_WORDS hr_OF_WORDS) (Z.cons (Z.bm K rfl PySem.F.plainAttrs_list PySem.F.slot_list_index PySem.F.type_list_index Y.uJ (Z.ct (kM (D:=e7) K rfl rfl) rfl T.sv (by decide +kernel) (Z.cons (Z.glob rfl hg_SHAPES hr_SHAPES) Z.nil)) (Z.cons (Z.ix (Z.aM K rfl hu) (Z.v 0) Z.int) Z.nil)) Z.nil))) Z.nil)))
   (Z.ao (Z.lg Kl rfl (t9 K rfl rfl T.u7 (Z.cons (Z.Il K rfl rfl hg_SHAPES hd_SHAPES (Z.ix (Z.aM K rfl hu) (Z.v 0) Z.int)) (Z.cons (Z.slice (Z.wu K rfl) (Z.v 0) (Z.uF Z.int) Z.Aj) Z.nil))) (Z.ll (n:=2) K rfl rfl (Z.bG (Z.aT (i:=2) cP.nd rfl (by right)) (Z.bG (Z.aT (i:=3) cP.nd rfl (by right)) Z.gh))) (Z.aA (Z.dA (Z.aZ bC (Z.v 2) Z.str) (Z.aA (Z.expr (Z.app K (Z.v 1) (Z.cons (Z.tup (Z.cons (Z.glob rfl hg_OF_BOXES hr_OF_BOXES) (Z.cons (Z.bm K rfl PySem.F.plainAttrs_tuple PySem.F.slot_tuple_index PySem.F.type_tuple_index (DQ (X:=_)) (Z.glob rfl hg_BOXES hr_BOXES) (Z.cons (Z.v 3) Z.nil)) Z.nil))) Z.nil)))) (Z.aA (Z.dA (Z.aZ bC (Z.v 2) Z.str) (Z.aA (Z.expr (Z.app K (Z.v 1) (Z.cons (Z.tup (Z.cons (Z.glob rfl hg_OF_CLASSES hr_OF_CLASSES) (Z.cons (Z.Jh K rfl PySem.F.plainAttrs_int PySem.F.slot_int_bit_length PySem.F.type_int_bit_length Y.uz (Z.v 3)) Z.nil))) Z.nil)))) Z.bH)))))
   (Z.aA (Z.ret (Z.v 1))))),?_⟩
  have a0:bV r.vs 0=some (.str r.wd):=by cases r<;>rfl
  refine ax λN hN=>?_;exists aC hra,a0;refine⟨dS,rfl,hd_SHAPES,by decide,λl hl=>?_⟩
  obtain⟨k1,s1⟩:=dF hl (.lst (e7.map λp=>V.str p.1));generalize upd H l _=H1 at *;refine⟨.inl ⟨rfl,_,bI.of s1⟩,?_⟩;have hra1:=k1.n hra;exists aC hra1,a0;refine⟨l,cw,r.wd,r.wi,rfl,s1,rfl,(tN r).1,(tN r).2,⟨by decide,λp1 hp1=>⟨by decide,λD hD=>?_⟩⟩⟩
  obtain⟨kp1,sp1⟩:=dF hp1 (.tup [.int 0,.int (r.wi:Nat)]);generalize upd H1 p1 _=H2 at *;obtain⟨kD,sD⟩:=dF hD (.lst [.ref p1]);generalize upd H2 D _=H3 at *;have hDH:H D=none:=(k1.trans kp1).free (by simp) hD
  have th3:Ak H3 [p1] [(0,r.wi)]:=⟨rfl,λj q x e1 e2=>by
   have hj:j<1:=(J6.mp e1).1;obtain rfl:j=0:=by lia
   cases e1;cases e2
   exact kD.n sp1⟩
  have k03:=(k1.trans kp1).trans kD;subst hN;clear sp1 hp1 s1 hl hD hra1;refine ax λN hN=>?_;have hra3:=k03.n hra;exists iC,aC hra3,a0;refine⟨_,_,rfl,vt r,λpk kt=>?_⟩;rw[Row.CZ] at hra3;refine By hra3 λtl htl=>?_;obtain⟨kt3,st3⟩:=dF htl (.tup (r.eA.map Pk.v));generalize upd H3 tl _=H4 at *;have k04:=k03.trans kt3;have ktq:∀G:Hp,bz K G pk ((r.eA.map Pk.kd).map V.str):=λG=>.inr kt;refine⟨(false,pk),(false,tl),⟨rfl,rfl⟩,⟨_,ktq _⟩,⟨_,bz.of st3⟩,λn=>?_⟩;refine m7 (xs:=(r.eA.map Pk.kd).map V.str) (ys:=r.eA.map Pk.v) (by rw[Jz,Jz,Jz]) (λi σ H'=>∃(ps:List Addr) (o2 o3:Option V),i<=r.eA.length/\KB [] H H'/\H' tl=some (.tup (r.eA.map Pk.v))/\H' D=some (.lst (ps.map V.ref))/\Ak H' ps ((0,r.wi)::(r.eA.take i).flatMap Pk.pB)/\σ=[some (.ref ra),some (.ref D),o2,o3]) ⟨[p1],none,none,JL _,k04,st3,kt3.n sD,th3.keep kt3 (NT.nil _),rfl⟩ (λi σ H' h=>by obtain⟨_,_,_,_,_,h1,_⟩:=h;exact⟨ktq _,bz.of h1⟩) ?_ ?_
  ·rintro i x y σ H' z hx hy ⟨ps,o2,o3,hi,hk,h1,h2,h3,rfl⟩ hz;have hlt:i<r.eA.length:=by have:=(J6.mp hy).1;rw[Jz] at this;exact this
   have ep:=Jx hlt;have pok:=Row.rW aQ _ (JN hlt);have et:(r.eA.take (i+1)).flatMap Pk.pB=(r.eA.take i).flatMap Pk.pB++(r.eA[i]).pB:=by rw[Ko,ep,List.flatMap_append];simp
   rw[JC,JC,ep] at hx;rw[JC,ep] at hy;generalize r.eA[i]=pt at *
   cases hx;cases hy
   unfold b6;refine⟨z,_,rfl,bz.of ae,rfl,_,_,rfl,_,_,rfl,rfl,?_⟩;have kz:=KB.new (ex:=[]) (o:=.tup [.str pt.kd,pt.v]) hz;generalize upd H' z (.tup [.str pt.kd,pt.v])=H5 at *;have hk5:=hk.trans kz;have h15:=kz.n h1;have h25:=kz.n h2;have h35:=h3.keep kz (NT.nil _);dsimp only;refine yy λM hM=>?_;have psl:ps.length<=4:=by
    have e:=h3.1;rw[e];have c:=ou r;unfold cV at c;rw[JK] at c ⊢;have:((r.eA.take i).flatMap Pk.pB).length<=(r.eA.flatMap Pk.pB).length:=by
     rw[<- Lg i r.eA,List.flatMap_append,J5,Lg];exact Nat.le_add_right _ _
    lia
   have fin:∀(u v:Nat) (G:Hp) (t:Addr),pt.pB=[(u,v)]->KB [] H5 G->G t=none->M [some (.ref ra),some (.ref D),some (.str pt.kd),some pt.v] (upd (upd G t (.tup [.int (u:Nat),.int (v:Nat)])) D (.lst (ps.map V.ref++[.ref t]))):=λu v G t ec kG ht=>by
    rw[hM];obtain⟨kt',st'⟩:=dF ht (.tup [.int (u:Nat),.int (v:Nat)]);generalize upd G t _=G2 at *;have k52:=kG.trans kt';have hD2:=k52.n h25;have nt:=AY hD2;refine⟨ps++[t],_,_,hlt,λb o e _=>by rw[aj (aq e hDH)];exact k52.n (hk5.n e),by rw[aj (λz=>by rw[z] at h15;rw[h25] at h15;cases h15)];exact k52.n h15,by rw[ae,JR];rfl,?_,rfl⟩
    rw[et,ec,<- KQ];exact ((h35.keep k52 (NT.nil _)).snoc (q:=t) (x:=(u,v)) st').keep (KB.set (ex:=[D]) (by simp)) nt
   cases pt with
   |box b =>
    obtain⟨e1,e2⟩:=yr (b:=b) pok;nofun;rw[JE (show (Pk.box b).kd=Str.ofString "box" from rfl)];refine⟨.inl ⟨rfl,_,bI.of h25⟩,tyB _,aB,FH,cx b,b,rfl,sB _,rfl,e1,e2,by decide,λt ht=>?_⟩
    have h26:upd H5 t (.tup [.int 2,.int (b:Nat)]) D=some (.lst (ps.map V.ref)):=by rw[aj (aq h25 ht)];exact h25
    exact⟨D,_,_,rfl,rfl,h26,K9 (show _<=10 by rw[Jz];lia) (by decide),fin 2 b H5 t rfl (KB.refl _ _) ht⟩
   |num n =>
    nofun;rw[JA (show ¬ (Pk.num n).kd=Str.ofString "box" from (by decide +kernel:¬ Str.ofString "number"=Str.ofString "box")),JE (show (Pk.num n).kd=Str.ofString "number" from rfl)]
    refine⟨.inl ⟨rfl,_,bI.of h25⟩,rfl,(n:Int),rfl,rfl,by decide,λt ht=>?_⟩
    have h26:upd H5 t (.tup [.int 1,.int (a_ n:Nat)]) D=some (.lst (ps.map V.ref)):=by rw[aj (aq h25 ht)];exact h25
    exact⟨D,_,_,rfl,rfl,h26,K9 (show _<=10 by rw[Jz];lia) (by decide),fin 1 (a_ n) H5 t rfl (KB.refl _ _) ht⟩
   |goal g =>
    nofun;rw[JA (show ¬ (Pk.goal g).kd=Str.ofString "box" from (by decide +kernel:¬ Str.ofString "goal"=Str.ofString "box")),JA (show ¬ (Pk.goal g).kd=Str.ofString "number" from (by decide +kernel:¬ Str.ofString "goal"=Str.ofString "number"))]
    rw[hM];exact⟨ps,_,_,hlt,hk5,h15,h25,by rw[et];show Ak H5 ps ((0,r.wi)::((r.eA.take i).flatMap Pk.pB++[]));rw[Kp];exact h35,rfl⟩
  ·rintro σ H' ⟨ps,o2,o3,hi,hk,h1,h2,h3,rfl⟩;show N _ _;subst hN;nofun;refine q D ps H' hDH hk h2 ?_;rw[Jz,Jz,Kq] at h3;exact h3
theorem qu(hn:xs.length<=sizeLine)(Pv:Addr->Nat->List V->Hp->Prop)(h0:∀D,H D=none->Pv D 0 [] (upd H D (.lst [])))(hD:∀D i ys H',Pv D i ys H'->H' D=some (.lst ys)/\ys.length=i)
  (hl:∀D i ys H',Pv D i ys H'->bI K H' a xs)
  (hs:∀D i ys H' x,xs[i]?=some x->Pv D i ys H'->∃q u v,x=.ref q/\H' q=some (.tup [u,v])/\∀R:VK,(∀v H5,H5 D=some (.lst ys)->Pv D (i+1) (ys++[v]) (upd H5 D (.lst (ys++[v])))->R v H5)->te (some u::some v::σ) H' R) (hd:∀D ys H',Pv D xs.length ys H'->Q (.ref D) H') :
  i6 (sT K a) 2 (nM K 2 (fq (b6 0) (fq (b6 1) nK))) dY te Q σ H:=by
 intro D hD0;refine⟨λi m ys σ' H'=>m=xs.length-i/\i<=xs.length/\Pv D i ys H'/\∃o1 o2,σ'=o1::o2::σ,⟨xs.length,by simp,JL _,h0 D hD0,none,none,rfl⟩,?_⟩
 rintro i m ys σ' H' ⟨rfl,hi,p,o1,o2,rfl⟩;obtain⟨hDi,hly⟩:=hD _ _ _ _ p;have q:=hl _ _ _ _ p;refine⟨hDi,?_⟩;by_cases hlt:i<xs.length
 ·refine .inr ⟨⟨xs,xs[i],q,by simp[hlt]⟩,by lia,λx H2 y=>?_⟩
  obtain⟨rfl,y⟩:=y;obtain⟨t,u,v,rfl,ht,h⟩:=hs D i ys H2 x (y xs q) p;refine⟨t,[u,v],rfl,bz.of ht,rfl,u,[v],rfl,v,[],rfl,rfl,?_⟩;unfold dY;dsimp only;rw[if_pos rfl];exact h _ λv H5 q1 q2=>⟨q1,xs.length-(i+1),by lia,rfl,hlt,q2,_,_,rfl⟩
 ·have e:i=xs.length:=by lia
  subst e;exact .inl ⟨⟨xs,q,JD _⟩,hd D ys H' p⟩
noncomputable def tE(K:W.Frag):Sp:=λvs H Q _=>∃(ra ca:Addr) (r:Row) (k:Nat) (cd:List (List (List Nat))),vs=[.ref ra,.ref ca]/\H ra=some (.tup r.vs)/\r.Ok k/\sQ H ca cd/\Cd cd/\∀H',KB [] H H'->Q (.str (wd (bB cd r))) H'
theorem wK(T:Txt K mg)(F:HasFn K mg "bits_ahead_of_goal" bT ["row","codes"])(hcoded_things:au P w K mg base aY 1 "coded_things" ["row"] pj)(hfigures_behind_first:au P w K mg base aY 2 "figures_behind_first" ["number"] my):au P w K mg base aY 3 "bits_ahead_of_goal" ["row","codes"] (tE K):=by
 refine F.eW dh (λvs H Q E h=>?_) (λf cdv A outer s H vs Q E hr h=>?_)
 ·obtain⟨ra,ca,r,k,cd,rfl,_⟩:=h;rfl
 ·have hu:=aP hr;obtain⟨ra,ca,r,k,cd,rfl,hra,aQ,fK,hC,q⟩:=h;refine⟨_,(Z.ao (Z.se (i:=2) dh.nd (Z.bm K rfl PySem.F.plainAttrs_str PySem.F.slot_str_join PySem.F.type_str_join (Z.y8 K rfl) Z.str (Z.cons (Z.rA (osc:=af bT) (ON:=["row","codes","bits"]) (own:=["which","thing"]) (N:=["which","thing","row","codes","bits"]) (aG.of rfl (by decide +kernel)) (Z.any K rfl (Z.fc hcoded_things (Z.cons (Z.v 0) Z.nil))) (λnd _ _ _ _=>(Z.ll (n:=2) K rfl rfl (Z.bG (Z.aT (i:=0) nd rfl (by right)) (Z.bG (Z.aT (i:=1) nd rfl (by right)) Z.gh)))) (λ_ _ _ _=>Z.lZ) (λ_ _ _ _=>(Z.ix (Z.aM K rfl hu) (Z.ix (Z.aM K rfl hu) (Z.v 3) (Z.v 0)) (Z.v 1)))) Z.nil)))
   (Z.aA (Z.ret (Z.Bf (Z.aZ bC (Z.ix (Z.aM K rfl hu) (Z.v 0) Z.int) Z.str) (Z.op (Z.bf K rfl) (Z.v 2) (Z.fc hfigures_behind_first (Z.cons (Z.ix (Z.aM K rfl hu) (Z.v 0) (Z.un dC Z.int)) Z.nil))) (Z.v 2))))),?_⟩
  have a0:bV r.vs 0=some (.str r.wd):=by cases r<;>rfl
  refine ax λN hN=>?_;nofun;refine⟨rfl,ra,r,k,rfl,hra,aQ,λD ps H1 hD k1 hD1 th=>?_⟩;exists az hD1;have hcd1:sQ H1 ca cd:=fK.keep k1 (by simp) (λb hb=>nomatch hb)
  have thl:=th.1;have cl:=ou r;refine qu (xs:=ps.map V.ref) (JF (show _<=3 by rw[Jz];lia) (by decide)) (λL i ys H'=>H1 L=none/\H' L=some (.lst ys)/\KB [] H1 H'/\i<=(cV r).length/\ys=(((cV r).take i).map λp=>wd (aO cd p)).map V.str) (λL hL=>⟨hL,ae,KB.new hL,JL _,rfl⟩) (λL i ys H' h=>⟨h.2.1,by rw[h.2.2.2.2,Jz,Jz,JT];have:=h.2.2.2.1;lia⟩) (λL i ys H' h=>bI.of (h.2.2.1 _ _ hD1 (by simp))) ?_ ?_
  ·rintro L i ys H' x hx ⟨g0,g1,gk,hi,rfl⟩;obtain⟨c,ec,rfl⟩:∃c,ps[i]?=some c/\x=.ref c:=by
    rw[JC] at hx;obtain⟨c,e,rfl⟩:=JW.mp hx;exact⟨c,e,rfl⟩
   have hlt:i<(cV r).length:=by have:=(J6.mp ec).1;lia
   have er:=Jx hlt;have et:(cV r).take (i+1)=(cV r).take i++[(cV r)[i]]:=by rw[Ko,er];rfl
   have hc:=gk.n (th.2 i c _ ec er);have ck:=xV aQ _ (JN hlt);generalize (cV r)[i]=pr at *;refine⟨c,_,_,rfl,hc,λR kk=>?_⟩;have g:=hC.at ck;obtain⟨a0',a1',a2',y1,y2,y3,y4⟩:=hcd1;have y1':=gk.n y1;obtain⟨ai,e1,e2⟩:∃ai,bV [V.ref a0',.ref a1',.ref a2'] (pr.1:Int)=some (.ref ai)/\H' ai=some (.tup (wV (cd.getD pr.1 []))):=by
    rcases ck with ⟨h,_⟩|⟨h,_⟩|⟨h,_⟩<;>rw[h]
    ·exact⟨a0',rfl,gk.n y2⟩
    ·exact⟨a1',rfl,gk.n y3⟩
    ·exact⟨a2',rfl,gk.n y4⟩
   have e3:bV (wV (cd.getD pr.1 [])) (pr.2:Int)=some (.str (wd (aO cd pr))):=bq (by unfold wV;rw[JC,g.2.1];rfl)
   exists az y1',e1,aC e2,e3;exact kk _ _ g1 ⟨g0,ae,λu o e _=>by rw[aj (aq e g0)];exact gk.n e,hlt,by rw[et,JR,JR];rfl⟩
  rintro L ys H2 ⟨_,gL,k2,_,rfl⟩;rw[Jz,thl,Kq] at gL;have k02:=k1.trans k2;have hl:=oY hC aQ;have e1:((cV r).map λp=>wd (aO cd p))=((cV r).map (aO cd)).map wd:=by rw[Lp];rfl
  have e2:(((cV r).map λp=>wd (aO cd p)).map λx=>x.length).sum=((cV r).flatMap (aO cd)).length:=by
   rw[List.length_flatMap,Lp];rfl
  refine⟨_,L,_,rfl,rfl,bI.of gL,?_,?_⟩
  ·rw[e2,show (Str.ofString "").length=0 from by decide +kernel];lia
  rw[e1,ny,<- List.flatMap_def];subst hN;have hra2:=k02.n hra;exists aC hra2,a0;have hh:bB cd r=(cV r).flatMap (aO cd)++fM r:=rfl;have qq:=q H2 k02;rw[hh] at qq;generalize (cV r).flatMap (aO cd)=y at *;by_cases hp:r.wd=Str.ofString "put"
  ·obtain⟨b,n,rfl⟩:∃b n,r=.put b n:=by
    cases r with
    |put b n=>exact⟨b,n,rfl⟩
    |two u b c=>exact absurd hp ((by decide +kernel:∀u,¬ w2 u=Str.ofString "put") u)
    |one u b=>exact absurd hp ((by decide +kernel:∀u,¬ w1 u=Str.ofString "put") u)
    |jump g=>exact absurd hp (show ¬ Str.ofString "jump"=Str.ofString "put" from by decide +kernel)
    |zero b g=>exact absurd hp (show ¬ Str.ofString "zero"=Str.ofString "put" from by decide +kernel)
    |halt=>exact absurd hp (show ¬ Str.ofString "halt"=Str.ofString "put" from by decide +kernel)
   rw[JE hp];refine⟨n,rfl,aQ.2,?_⟩;nofun;rw[kn,bw,bw];exact⟨JF (show _<=200 by have:=hl.2;show y.length+(fM (.put b n)).length<=200;lia) (by decide),qq⟩
  ·rw[JA hp];have et:fM r=[]:=by cases r<;>first|rfl|exact absurd rfl hp
   rw[et,Kp] at qq;exact qq
noncomputable def yX(ss:List Nat)(gs:List (Option Nat)):Nat->List Nat->List Nat
 |0,ws=>ws
 |m+1,ws=>match dN ss gs ws with
  |none=>ws
  |some k=>yX ss gs m (ws.set k (ws.getD k 0+1))
noncomputable def wI(ss:List Nat)(gs:List (Option Nat)):List Nat:=yX ss gs (2*ss.length+1) (List.replicate ss.length 0)
theorem Fz{gs:List (Option Nat)}{ws:List Nat}(hs:∀s∈ss,s<=150)(hn:ss.length<=64)(t k:Nat):Al 2 (fm (iQ 0 ss gs ws) t k)=true:=by
 have h3:=wO (gs:=gs) (ws:=ws) hs t;have h4:=wO (gs:=gs) (ws:=ws) hs (k+1);unfold Al fm;rw[Kc (show -cL 2<=_ by show -32768<=_;lia),Kc (show _<cL 2 by show _<32768;lia)]
 rfl
theorem lQ{k:Nat}(hs:∀s∈ss,s<=150)(hn:ss.length<=64)(hl:ws.length=ss.length)(hg:gs.length=ss.length)(hw:∀w∈ws,w<3)(h:dN ss gs ws=some k):∃t w,gs[k]?=some (some t)/\ws[k]?=some w/\w<2:=by
 have h1:=List.find?_some h;have h2:=NH h;unfold kr at h1;have hk:k<gs.length:=by have:=List.mem_range'.mp h2;obtain⟨i,hi,e⟩:=this;lia
 have eg:=Jx hk;have ew:=Jx (show k<ws.length by lia)
 have lw:=hw _ (JN (show k<ws.length by lia))
 rw[eg,ew] at h1;generalize gs[k]'_=g at *;generalize ws[k]'_=w at *
 cases g with
 |none=>cases h1
 |some t =>
  refine⟨t,w,eg,ew,?_⟩;rcases Kx w 2 with c|c
  ·exact c
  ·have:w=2:=by lia
   subst this
   replace h1:(!Al 2 (fm (iQ 0 ss gs ws) t k))=true:=h1
   rw[Fz hs hn t k] at h1;cases h1
theorem rX(h:dN ss gs ws=none):AI ss gs ws:=λk t w h1 h2=>by
 have hk:k<gs.length:=(J6.mp h1).1;have:=List.find?_eq_none.mp h k (List.mem_range'.mpr ⟨k,hk,by lia⟩)
 unfold kr at this;rw[h1,h2] at this
 simpa using this
theorem tH{l:List Nat}{k w:Nat}(h:l[k]?=some w):(l.set k (l.getD k 0+1)).sum=l.sum+1:=by
 induction l generalizing k with
 |nil=>cases h
 |cons x l ih =>
  cases k with
  |zero=>show ((x+1)::l).sum=_;rw[LK,LK];lia
  |succ k=>show (x::l.set k (l.getD k 0+1)).sum=_;rw[LK,LK,ih (by simpa using h)];lia
theorem EA{k v:Nat}(h:gs[k]?=some (some t)):(iu gs ws).set k (.int (v:Nat))=iu gs (ws.set k v):=by
 induction gs generalizing ws k with
 |nil=>cases h
 |cons g gs ih =>
  cases ws with
  |nil=>rfl
  |cons w ws =>
   cases k with
   |zero=>cases h;rfl
   |succ k=>show rH g w::(iu gs ws).set k _=rH g w::iu gs (ws.set k v);rw[ih (by simpa using h)]
structure Wy (ss:List Nat) (gs:List (Option Nat)) (ws:List Nat):Prop where
 len:ws.length=ss.length
 lt:∀w∈ws,w<3
 to:yX ss gs (2*ss.length+1-ws.sum) ws=wI ss gs
theorem Wy.zero(ss:List Nat)(gs:List (Option Nat)):Wy ss gs (List.replicate ss.length 0):=⟨JS ..,λw hw=>by rw[(KR.mp hw).2];decide,by rw[LW,OF];rfl⟩
theorem Wy.next{k:Nat}(h:Wy ss gs ws)(hs:∀s∈ss,s<=150)(hn:ss.length<=64)(hg:gs.length=ss.length)(hf:dN ss gs ws=some k):Wy ss gs (ws.set k (ws.getD k 0+1))/\(ws.set k (ws.getD k 0+1)).sum=ws.sum+1/\ws.sum<2*ss.length:=by
 obtain⟨t,w,e1,e2,e3⟩:=lQ hs hn h.len hg h.lt hf;have es:=tH e2;have eg:ws.getD k 0=w:=by rw[JI,e2];rfl
 have hlt:∀x∈ws.set k (ws.getD k 0+1),x<3:=λx hx=>by
  rcases Li hx with z|z
  ·exact h.lt x z
  ·rw[z,eg];lia
 have hb:=jQ hlt;rw[KZ,h.len,es] at hb;refine⟨⟨by rw[KZ,h.len],hlt,?_⟩,es,by lia⟩
 rw[es,<- h.to,show 2*ss.length+1-ws.sum=(2*ss.length+1-(ws.sum+1))+1 by lia,yX,hf]
theorem Wy.done(h:Wy ss gs ws)(hf:dN ss gs ws=none):wI ss gs=ws:=by
 rw[<- h.to];have hb:=jQ h.lt;rw[h.len] at hb;rw[show 2*ss.length+1-ws.sum=(2*ss.length-ws.sum)+1 by lia,yX,hf]
theorem Wy.fit(hs:∀s∈ss,s<=150)(hn:ss.length<=64)(hg:gs.length=ss.length):∀(m:Nat) (ws:List Nat),Wy ss gs ws->2*ss.length+1-ws.sum<=m->Wy ss gs (wI ss gs)/\AI ss gs (wI ss gs)
 |0,ws,h,hm=>by
  have hb:=jQ h.lt;rw[h.len] at hb;lia
 |m+1,ws,h,hm=>by
  cases hf:dN ss gs ws with
  |none=>rw[h.done hf];exact⟨h,rX hf⟩
  |some k =>
   obtain⟨h1,h2,h3⟩:=h.next hs hn hg hf;exact Wy.fit hs hn hg m _ h1 (by lia)
theorem Gk(hs:∀s∈ss,s<=150)(hn:ss.length<=64)(hg:gs.length=ss.length):(wI ss gs).length=ss.length/\(∀w∈wI ss gs,w<3)/\AI ss gs (wI ss gs):=by
 obtain⟨h1,h2⟩:=Wy.fit hs hn hg _ _ (Wy.zero ss gs) (JD _);exact⟨h1.len,h1.lt,h2⟩
noncomputable def qy(K:W.Frag):Sp:=λvs H Q _=>∃(ka kb:Bool) (a b:Addr) (ss:List Nat) (gs:List (Option Nat)),vs=[.ref a,.ref b]/\Lq ka H a (iV (nZ ss))/\Lq kb H b (gs.map bO)/\gs.length=ss.length/\ss.length<=64/\(∀s∈ss,s<=150)/\(∀t,some t∈gs->t<=ss.length)/\∀t u v H',KB [] H H'->H' t=some (.tup [.ref u,v])->H' u=some (.tup (iu gs (wI ss gs)))->Q (.ref t) H'
theorem vH(T:Txt K mg)(F:HasFn K mg "raised_till_good" cR ["sizes","goals"])(hnarrowest:au P w K mg base aY 1 "narrowest" ["goals"] oX)(hfirst_too_narrow:au P w K mg base aY 3 "first_too_narrow" ["sizes","goals","widths"] (tW K)):au P w K mg base aY 4 "raised_till_good" ["sizes","goals"] (qy K):=by
 obtain⟨uW,hg_WIDEST,hr_WIDEST⟩:=T.yj;refine F.eW bF (λvs H Q E h=>?_) (λf cdv A outer s H vs Q E hr h=>?_)
 ·obtain⟨ka,kb,a,b,ss,gs,rfl,_⟩:=h;rfl
 ·have hu:=aP hr;obtain⟨ka,kb,a,b,ss,gs,rfl,ha,hb,hg,hn,hs,ht,q⟩:=h;refine⟨_,(Z.ao (Z.se (i:=2) bF.nd (Z.fc hnarrowest (Z.cons (Z.v 1) Z.nil)))
   (Z.ao (Z.se (i:=3) bF.nd (Z.lst Z.nil))
   (Z.ao (Z.se (i:=4) bF.nd (Z.fc hfirst_too_narrow (Z.cons (Z.v 0) (Z.cons (Z.v 1) (Z.cons (Z.v 2) Z.nil)))))
   (Z.ao (Z.ia Kl (Z.aZ jU (Z.v 4) Z.aR) (Z.ao (Z.dA (Z.aZ bC (Z.ix (Z.aM K rfl hu) (Z.v 2) (Z.v 4)) (Z.glob rfl hg_WIDEST hr_WIDEST)) (Z.aA Z.HX) Z.bH)
   (Z.ao (Z.asg (Z.op (Z.bf K rfl) (Z.ix (Z.aM K rfl hu) (Z.v 2) (Z.v 4)) Z.int) (Z.z_ (Z.v 2) (Z.v 4)))
   (Z.ao (Z.expr (Z.app K (Z.v 3) (Z.cons (Z.v 4) Z.nil)))
   (Z.aA (Z.se (i:=4) bF.nd (Z.fc hfirst_too_narrow (Z.cons (Z.v 0) (Z.cons (Z.v 1) (Z.cons (Z.v 2) Z.nil))))))))))
   (Z.aA (Z.ret (Z.tup (Z.cons (Z.ct (Z.b_ K rfl) rfl T.cc (by decide +kernel) (Z.cons (Z.v 2) Z.nil)) (Z.cons (Z.ct (Z.b_ K rfl) rfl T.cc (by decide +kernel) (Z.cons (Z.v 3) Z.nil)) Z.nil))))))))),?_⟩
  refine ax λN hN=>?_;nofun;refine⟨kb,b,gs,rfl,hb,by lia,λd H1 hd k1 g1=>?_⟩
  rw[hg] at g1;subst hN;refine ax λN hN=>?_;nofun;refine⟨JL _,λpp hpp=>?_⟩;obtain⟨k2,s2⟩:=dF hpp (.lst []);generalize upd H1 pp _=H2 at *;have g2:=k2.n g1;have k02:=k1.trans k2;have hppH:H pp=none:=k1.free (by simp) hpp
  have dpp:d≠pp:=λz=>by rw[z,hpp] at g1;cases g1
  subst hN;refine ax λN hN=>?_;nofun;have wy0:=Wy.zero ss gs;refine⟨ka,kb,a,b,d,ss,gs,_,rfl,ha.n k02,hb.n k02,g2,hg,wy0.len,hn,ht,wy0.lt,λH3 k3=>?_⟩;subst hN;have k03:=k02.trans k3;have g3:=k3.n g2;have s3:=k3.n s2;refine ax λN hN=>?_;refine⟨λm σ H'=>∃(ws pa:List Nat),m=2*ss.length-ws.sum/\Wy ss gs ws/\pa.length=ws.sum/\KB [] H H'/\H' d=some (.lst (iu gs ws))/\H' pp=some (.lst (iV (nZ pa)))/\σ=[some (.ref a),some (.ref b),some (.ref d),some (.ref pp),some (wJ (dN ss gs ws))],⟨2*ss.length,_,[],by rw[LW,OF];rfl,wy0,by rw[LW,OF];rfl,k03,g3,s3,rfl⟩,?_⟩
  rintro m σ H' ⟨ws,pa,rfl,wy,hpa,hk,gd,gp,rfl⟩;nofun
  cases hf:dN ss gs ws with
  |none =>
   rw[JA (show ¬ ¬ wJ none=V.aR from λz=>z rfl)];show N _ _;subst hN;rw[wy.done hf] at q;exists az gd;intro u hu';obtain⟨k5,s5⟩:=dF hu' (.tup (iu gs ws));have gp5:=k5.n gp;generalize upd H' u _=H5 at *;exists az gp5;intro u2 hu2;have k6:=KB.new (ex:=[]) (o:=.tup (iV (nZ pa))) hu2;have s6:=k6.n s5;generalize upd H5 u2 (.tup (iV (nZ pa)))=H6 at *;refine⟨by decide,λt ht=>?_⟩
   have k7:=KB.new (ex:=[]) (o:=.tup [.ref u,.ref u2]) ht;exact q t u _ _ (hk.trans (k5.trans (k6.trans k7))) ae (k7.n s6)
  |some k =>
   rw[JE (show ¬ wJ (some k)=V.aR from λz=>nomatch z)];obtain⟨t,w0,e1,e2,e3⟩:=lQ hs hn wy.len hg wy.lt hf;obtain⟨wn,ws1,ws2⟩:=wy.next hs hn hg hf;refine⟨λσ' H'=>∃m',m'<2*ss.length-ws.sum/\∃(ws pa:List Nat),m'=2*ss.length-ws.sum/\Wy ss gs ws/\pa.length=ws.sum/\KB [] H H'/\H' d=some (.lst (iu gs ws))/\H' pp=some (.lst (iV (nZ pa)))/\σ'=[some (.ref a),some (.ref b),some (.ref d),some (.ref pp),some (wJ (dN ss gs ws))],λ_ _ h=>h,?_⟩;have aw:bV (iu gs ws) (k:Int)=some (.int (w0:Nat)):=bq (lS e1 e2);have eg:ws.getD k 0=w0:=by rw[JI,e2];rfl
   rw[eg] at wn ws1;show De K (V.ref d) (.int (k:Nat)) H' _;exists az gd,aw;have c2:¬ (w0:Int)=2:=by lia
   have c3:kK (iu gs ws).length (k:Int)=some k:=by
    have hkl:=(J6.mp e2).1;have:=wy.len;rw[zj (by lia)]
    unfold kK;rw[JE (by lia),JE (by lia),Kb]
   rw[JA c2];show De K (V.ref d) (.int (k:Nat)) H' _;exists az gd,aw;show xx (V.ref d) (.int (k:Nat)) (.int ((w0:Int)+1)) H' _;exists gd,c3;rw[show ((w0:Int)+1)=((w0+1:Nat):Int) from rfl,EA e1];have hdd:H d=none:=hd;have kd:KB [] H (upd H' d (.lst (iu gs (ws.set k (w0+1))))):=λu o e z=>by rw[aj (aq e hdd)];exact hk _ _ e z
   have gd5:upd H' d (.lst (iu gs (ws.set k (w0+1)))) d=_:=ae;have gp5:upd H' d (.lst (iu gs (ws.set k (w0+1)))) pp=some (.lst (iV (nZ pa))):=by rw[aj dpp.symm];exact gp
   generalize upd H' d (.lst (iu gs (ws.set k (w0+1))))=H5 at *;refine⟨.inl ⟨rfl,_,bI.of gp5⟩,pp,_,_,rfl,rfl,gp5,K9 (show _<=1000 by rw[fJ,hpa];lia) (by decide),?_⟩
   have kp:KB [] H (upd H5 pp (.lst (iV (nZ pa)++[wJ (some k)]))):=λu o e z=>by rw[aj (aq e hppH)];exact kd _ _ e z
   have gd6:upd H5 pp (.lst (iV (nZ pa)++[wJ (some k)])) d=some (.lst (iu gs (ws.set k (w0+1)))):=by rw[aj dpp];exact gd5
   have gp6:upd H5 pp (.lst (iV (nZ pa)++[wJ (some k)])) pp=some (.lst (iV (nZ (pa++[k])))):=by rw[ae];unfold nZ;rw[JR,eO];rfl
   generalize upd H5 pp (.lst (iV (nZ pa)++[wJ (some k)]))=H6 at *;refine⟨ka,kb,a,b,d,ss,gs,_,rfl,ha.n kp,hb.n kp,gd6,hg,wn.len,hn,ht,wn.lt,λH7 k7=>?_⟩;exact⟨2*ss.length-(ws.sum+1),by lia,ws.set k (w0+1),pa++[k],by rw[ws1],wn,by rw[J5,ws1,hpa];rfl,kp.trans k7,k7.n gd6,k7.n gp6,rfl⟩
noncomputable def ke(K:W.Frag):Sp:=λvs H Q _=>∃(ka kb:Bool) (a b:Addr) (ss:List Nat) (gs:List (Option Nat)),vs=[.ref a,.ref b]/\Lq ka H a (iV (nZ ss))/\Lq kb H b (gs.map bO)/\gs.length=ss.length/\ss.length<=64/\(∀s∈ss,s<=150)/\(∀t,some t∈gs->t<=ss.length)/\∀u H',KB [] H H'->H' u=some (.tup (iu gs (wI ss gs)))->Q (.ref u) H'
theorem vd(T:Txt K mg)(F:HasFn K mg "least_widths" e9 ["sizes","goals"])(hraised_till_good:au P w K mg base aY 4 "raised_till_good" ["sizes","goals"] (qy K)):au P w K mg base aY 5 "least_widths" ["sizes","goals"] (ke K):=by
 refine F.eW jE (λvs H Q E h=>?_) (λf cdv A outer s H vs Q E hr h=>?_)
 ·obtain⟨ka,kb,a,b,ss,gs,rfl,_⟩:=h;rfl
 ·have hu:=aP hr;obtain⟨ka,kb,a,b,ss,gs,rfl,ha,hb,hg,hn,hs,ht,q⟩:=h;refine⟨_,(Z.aA (Z.ret (Z.ix (Z.aM K rfl hu) (Z.fc hraised_till_good (Z.cons (Z.v 0) (Z.cons (Z.v 1) Z.nil))) Z.int))),?_⟩;nofun;refine⟨ka,kb,a,b,ss,gs,rfl,ha,hb,hg,hn,hs,ht,λt u v H' k h1 h2=>?_⟩;exists aC h1,Co;exact q u H' k h2
noncomputable def jw:d6->Option Int
 |.jump g=>some g
 |.zero _ g=>some g
 |_=>none
noncomputable def ij(r:d6):V:=match jw r with
 |some g=>.int g
 |none=>.aR
noncomputable def gJ:Sp:=λvs H Q _=>∃(p:Addr) (r:d6),vs=[.ref p]/\H p=some (.tup r.vs)/\Q (ij r) H
theorem xt(T:Txt K mg)(F:HasFn K mg "goal_of" ja ["row"]):au P w K mg base aY 1 "goal_of" ["row"] gJ:=by
 obtain⟨dS,hg_SHAPES,hd0⟩:=T.lh;have hd_SHAPES:lJ K dS bR:=hd0;refine F.eW sm (λvs H Q E h=>?_) (λf cdv A outer s H vs Q E hr h=>?_)
 ·obtain⟨p,r,rfl,_⟩:=h;rfl
 ·have hu:=aP hr;obtain⟨p,r,rfl,hp,q⟩:=h;refine⟨_,(Z.aA (Z.ret (Z.Bf (Z.aZ (Z.Hg K rfl) Z.str (Z.Il K rfl rfl hg_SHAPES hd_SHAPES (Z.ix (Z.aM K rfl hu) (Z.v 0) Z.int))) (Z.ix (Z.aM K rfl hu) (Z.v 0) (Z.un dC Z.int)) Z.aR))),?_⟩;have sp:=aC hp;have kt1:∀{pk:Addr} {xs:List V},FR K pk xs->bI K H pk xs\/bz K H pk xs:=λh=>.inr (.inr h);obtain⟨w,ws,e0,ed,ef,h⟩:∃(w:Str) (ws:List Str),bV r.vs 0=some (.str w)/\KTD.datumAt w bR=some ws/\(ws.map V.str).all cO=true/\(qI (.str "goal") (ws.map V.str)=true/\bV r.vs (-1)=some (ij r)\/qI (.str "goal") (ws.map V.str)=false/\ij r=.aR):=by
   cases r with
   |jump g=>exact⟨_,_,rfl,(by decide +kernel:KTD.datumAt ("jump":Str) bR=some [("goal":Str)]),rfl,.inl ⟨by decide +kernel,rfl⟩⟩
   |zero b g=>exact⟨_,_,rfl,(by decide +kernel:KTD.datumAt ("zero":Str) bR=some [("box":Str),"goal"]),rfl,.inl ⟨by decide +kernel,rfl⟩⟩
   |put b n=>exact⟨_,_,rfl,(by decide +kernel:KTD.datumAt ("put":Str) bR=some [("box":Str),"number"]),rfl,.inr ⟨by decide +kernel,rfl⟩⟩
   |two u b c=>exact⟨_,_,rfl,(by decide +kernel:∀u:_root_.Fin 3,KTD.datumAt (w2 u) bR=some [("box":Str),"box"]) u,rfl,.inr ⟨by decide +kernel,rfl⟩⟩
   |one u b=>exact⟨_,_,rfl,(by decide +kernel:∀u:_root_.Fin 2,KTD.datumAt (w1 u) bR=some [("box":Str)]) u,rfl,.inr ⟨by decide +kernel,rfl⟩⟩
   |halt=>exact⟨_,_,rfl,(by decide +kernel:KTD.datumAt ("halt":Str) bR=some ([]:List Str)),rfl,.inr ⟨by decide +kernel,rfl⟩⟩
  exists sp,e0;refine⟨_,_,rfl,ed,λpk kt=>⟨pk,_,rfl,kt1 kt,rfl,ef,?_⟩⟩;refine⟨_,rfl,?_⟩;rcases h with ⟨h1,h2⟩|⟨h1,h2⟩
  ·rw[JA JO,h1,JE rfl];simp only[sp,h2];exact q
  ·rw[JA JO,h1,JA JO];rw[h2] at q;exact q
noncomputable def wH(cd:List (List (List Nat)))(rs:List Row):List V:=rs.map λr=>.str (wd (bB cd r))
theorem Gu(r:Row):r.vs=(r.m (((aD r).getD 0:Nat):Int)).vs:=by cases r<;>rfl
theorem Dq(r:Row):ij (r.m (((aD r).getD 0:Nat):Int))=bO (aD r):=by cases r<;>rfl
noncomputable def hX(bk:List (List Int))(rs:List Row):List Nat:=wI (fO (bQ bk) rs) (rs.map aD)
noncomputable def cX(bk:List (List Int))(rs:List Row):List Nat:=iQ 0 (fO (bQ bk) rs) (rs.map aD) (hX bk rs)
noncomputable def f_(bk:List (List Int))(rs:List Row):List Nat:=ow (bQ bk) (cX bk rs) 0 rs (hX bk rs)
theorem ni{bk:List (List Int)}{rs:List Row}(hB:Bk bk)(h2:rs.length<=64)(h3:∀r∈rs,r.Ok rs.length):Laid (bQ bk) rs (hX bk rs) (cX bk rs) (f_ bk rs):=by
 have sl:(fO (bQ bk) rs).length=rs.length:=Jz ..;have gl:(rs.map aD).length=rs.length:=Jz ..;obtain⟨l1,l2,l3⟩:=Gk (ss:=fO (bQ bk) rs) (gs:=rs.map aD) (λs hs=>by
  obtain⟨r,hr,rfl⟩:=Ki.mp hs;have:=fe hB.cd (h3 r hr)
  lia) (by rw[sl];exact h2) (by rw[gl,sl])
 exact⟨(qE hB).1,by unfold hX;rw[l1,sl],h2,h3,l2,rfl,l3,rfl⟩
theorem Ct(xs:List V):dJ xs none (some (-1))=xs.dropLast:=by
 unfold dJ;rw[HT.dP,Lf,Nc,MW];congr 1;unfold HT.bW;simp only[show ((-1:Int)<0)=True from eq_true (by decide),Mt]
 lia
noncomputable def sN:Sp:=λvs H Q _=>∃(a b:Addr) (bk:List (List Int)) (rs:List Row),vs=[.ref a,.ref b]/\ur H a rs/\u5 H b bk/\Bk bk/\rs.length<=64/\(∀r∈rs,r.Ok rs.length)/\∀t u H',KB [] H H'->H' t=some (.tup [.str (wd (f_ bk rs)),.ref u])->H' u=some (.tup (iV (nZ (cX bk rs)).dropLast))->Q (.ref t) H'
theorem Bl(T:Txt K mg)(F:HasFn K mg "pack_rows" cT ["program","book"])(hcodes_of:au P w K mg base aY 6 "codes_of" ["book"] (jW K))(hbits_ahead_of_goal:au P w K mg base aY 3 "bits_ahead_of_goal" ["row","codes"] (tE K))(hgoal_of:au P w K mg base aY 1 "goal_of" ["row"] gJ)(hleast_widths:au P w K mg base aY 5 "least_widths" ["sizes","goals"] (ke K))(hrow_starts:au P w K mg base aY 2 "row_starts" ["sizes","widths"] (kZ K))(hjump_written:au P w K mg base aY 2 "jump_written" ["width","distance"] sJ)(hdistance_of:au P w K mg base aY 1 "distance_of" ["starts","goals","row"] sF):au P w K mg base aY 7 "pack_rows" ["program","book"] sN:=by
 refine F.eW b8 (λvs H Q E h=>?_) (λf cdv A outer s H vs Q E hr h=>?_)
 ·obtain⟨a,b,bk,rs,rfl,_⟩:=h;rfl
 ·have hu:=aP hr;obtain⟨a,b,bk,rs,rfl,hp,hb,hB,h2,h3,q⟩:=h;have hC:=hB.cd;have L:=ni hB h2 h3;unfold f_ at q L;have ew:hX bk rs=wI (fO (bQ bk) rs) (rs.map aD):=rfl;have es:cX bk rs=iQ 0 (fO (bQ bk) rs) (rs.map aD) (hX bk rs):=rfl;refine⟨_,(Z.ao (Z.se (i:=2) b8.nd (Z.fc hcodes_of (Z.cons (Z.v 1) Z.nil)))
   (Z.ao (Z.sec (j:=3) b8.nd (osc:=af cT) (ON:=["program","book","codes","firsts","sizes","goals","widths","starts","bits","row","first"]) (own:=["row"]) (N:=["row","program","book","codes","firsts","sizes","goals","widths","starts","bits",".row","first"]) (aG.of rfl (by decide +kernel)) (Z.any K rfl (Z.v 0)) (λnd _ _ _ _=>(Z.aT (i:=0) nd rfl (by right))) (λ_ _ _ _=>Z.lZ) (λ_ _ _ _=>(Z.fc hbits_ahead_of_goal (Z.cons (Z.v 0) (Z.cons (Z.v 3) Z.nil)))))
   (Z.ao (Z.sec (j:=4) b8.nd (osc:=af cT) (ON:=["program","book","codes","firsts","sizes","goals","widths","starts","bits","row","first"]) (own:=["first"]) (N:=["first","program","book","codes","firsts","sizes","goals","widths","starts","bits","row",".first"]) (aG.of rfl (by decide +kernel)) (Z.any K rfl (Z.v 3)) (λnd _ _ _ _=>(Z.aT (i:=0) nd rfl (by right))) (λ_ _ _ _=>Z.lZ) (λ_ _ _ _=>(Z.cb (Z.cJ K rfl) rfl T.cy (by decide +kernel) (Z.cons (Z.v 0) Z.nil))))
   (Z.ao (Z.sec (j:=5) b8.nd (osc:=af cT) (ON:=["program","book","codes","firsts","sizes","goals","widths","starts","bits","row","first"]) (own:=["row"]) (N:=["row","program","book","codes","firsts","sizes","goals","widths","starts","bits",".row","first"]) (aG.of rfl (by decide +kernel)) (Z.any K rfl (Z.v 0)) (λnd _ _ _ _=>(Z.aT (i:=0) nd rfl (by right))) (λ_ _ _ _=>Z.lZ) (λ_ _ _ _=>(Z.fc hgoal_of (Z.cons (Z.v 0) Z.nil))))
   (Z.ao (Z.se (i:=6) b8.nd (Z.fc hleast_widths (Z.cons (Z.v 4) (Z.cons (Z.v 5) Z.nil))))
   (Z.ao (Z.se (i:=7) b8.nd (Z.fc hrow_starts (Z.cons (Z.v 4) (Z.cons (Z.v 6) Z.nil))))
   (Z.ao (Z.se (i:=8) b8.nd (Z.lst Z.nil))
   (Z.ao (Z.lg Kl rfl (Z.yu K rfl rfl T.d7 (Z.cons (Z.v 3) Z.nil)) (Z.ll (n:=2) K rfl rfl (Z.bG (Z.aT (i:=9) b8.nd rfl (by right)) (Z.bG (Z.aT (i:=10) b8.nd rfl (by right)) Z.gh))) (Z.ao (Z.expr (Z.app K (Z.v 8) (Z.cons (Z.v 10) Z.nil)))
   (Z.aA (Z.dA (Z.aZ jU (Z.ix (Z.aM K rfl hu) (Z.v 5) (Z.v 9)) Z.aR) (Z.aA (Z.expr (Z.app K (Z.v 8) (Z.cons (Z.fc hjump_written (Z.cons (Z.ix (Z.aM K rfl hu) (Z.v 6) (Z.v 9)) (Z.cons (Z.fc hdistance_of (Z.cons (Z.v 7) (Z.cons (Z.v 5) (Z.cons (Z.v 9) Z.nil)))) Z.nil))) Z.nil)))) Z.bH))))
   (Z.aA (Z.ret (Z.tup (Z.cons (Z.bm K rfl PySem.F.plainAttrs_str PySem.F.slot_str_join PySem.F.type_str_join (Z.y8 K rfl) Z.str (Z.cons (Z.v 8) Z.nil)) (Z.cons (Z.ct (Z.b_ K rfl) rfl T.cc (by decide +kernel) (Z.cons (Z.slice (Z.wu K rfl) (Z.v 7) Z.Aj (Z.uF (Z.un dC Z.int))) Z.nil)) Z.nil))))))))))))),?_⟩
  refine ax λN hN=>?_;nofun;refine⟨b,bk,rfl,hb,hB,λca H1 hca k1 cdl=>?_⟩;subst hN;generalize bQ bk=cd at *;generalize hX bk rs=ws at *;generalize cX bk rs=sp at *;have hp1:=hp.kb k1;refine ax λN hN=>?_;obtain⟨ps,hps,hpa⟩:=hp1;have hpl:=hpa.1;exists aC hps;refine cq (xs:=ps.map V.ref) (JF (show _<=64 by rw[Jz];lia) (by decide)) (λD i ys H'=>H1 D=none/\H' D=some (.lst ys)/\KB [] H1 H'/\ys=wH cd (rs.take i)/\i<=rs.length) (λD hD=>⟨hD,ae,KB.new hD,rfl,JL _⟩) (λD i ys H' h=>⟨h.2.1,by rw[h.2.2.2.1,wH,Jz,JT];have:=h.2.2.2.2;lia⟩) (λD i ys H' h=>bz.of (h.2.2.1 _ _ hps (by simp))) ?_ ?_
  ·rintro D i ys H' x R hx ⟨g0,g1,gk,rfl,hi⟩ kk;obtain⟨u,eu,rfl⟩:∃u,ps[i]?=some u/\x=.ref u:=by
    rw[JC] at hx;obtain⟨u,e,rfl⟩:=JW.mp hx;exact⟨u,e,rfl⟩
   have hlt:i<rs.length:=by have:=(J6.mp eu).1;lia
   have er:=Jx hlt;have et:rs.take (i+1)=rs.take i++[rs[i]]:=by rw[Ko,er];rfl
   nofun;refine⟨u,ca,rs[i],rs.length,cd,rfl,gk.n (hpa.2 i u _ eu er),h3 _ (JN hlt),cdl.kb gk,hC,λH5 k5=>?_⟩;exact kk _ _ (k5.n g1) ⟨g0,ae,λu o e _=>by rw[aj (aq e g0)];exact k5.n (gk.n e),by rw[et];unfold wH;rw[JR];rfl,hlt⟩
  rintro pl ys H2 ⟨_,gp,k2,rfl,_⟩;rw[Jz,hpl,Kq] at gp;show N _ _;subst hN;have k02:=k1.trans k2;clear cdl hps hpa hpl k2 k1 hca;refine ax λN hN=>?_;exists az gp;refine ib (xs:=wH cd rs) (JF (show _<=64 by rw[wH,Jz];exact h2) (by decide)) (λD i ys H'=>H2 D=none/\H' D=some (.lst ys)/\KB [] H2 H'/\ys=iV (nZ (fO cd (rs.take i)))/\i<=rs.length) (λD hD=>⟨hD,ae,KB.new hD,rfl,JL _⟩) (λD i ys H' h=>⟨h.2.1,by rw[h.2.2.2.1,fJ,fO,Jz,JT];have:=h.2.2.2.2;lia⟩) (λD i ys H' h=>bI.of (h.2.2.1 _ _ gp (by simp))) ?_ ?_
  ·rintro D i ys H' x R hx ⟨g0,g1,gk,rfl,hi⟩ kk;have hlt:i<rs.length:=by have:=(J6.mp hx).1;rw[wH,Jz] at this;exact this
   have er:=Jx hlt;have et:rs.take (i+1)=rs.take i++[rs[i]]:=by rw[Ko,er];rfl
   have ex:x=.str (wd (bB cd rs[i])):=by
    unfold wH at hx;rw[JC,er] at hx;exact (Option.some.inj hx).symm
   subst ex;have h136:=fe hC (h3 _ (JN hlt));exists bw;exact⟨JF h136 (by decide),kk _ _ g1 ⟨g0,ae,λu o e _=>by rw[aj (aq e g0)];exact gk.n e,by rw[et];unfold fO nZ iV;rw[JR,JR,JR];rfl,hlt⟩⟩
  rintro sa ys H3 ⟨_,gsz,k3,rfl,_⟩;rw[show (wH cd rs).length=rs.length from Jz ..,Kq] at gsz;show N _ _;subst hN;have k03:=k02.trans k3;have gp3:=k3.n gp;refine ax λN hN=>?_;obtain⟨ps,hps,hpa⟩:=hp.kb k03;have hpl:=hpa.1;exists aC hps;refine cq (xs:=ps.map V.ref) (JF (show _<=64 by rw[Jz];lia) (by decide)) (λD i ys H'=>H3 D=none/\H' D=some (.lst ys)/\KB [] H3 H'/\ys=((rs.take i).map aD).map bO/\i<=rs.length) (λD hD=>⟨hD,ae,KB.new hD,rfl,JL _⟩) (λD i ys H' h=>⟨h.2.1,by rw[h.2.2.2.1,Jz,Jz,JT];have:=h.2.2.2.2;lia⟩) (λD i ys H' h=>bz.of (h.2.2.1 _ _ hps (by simp))) ?_ ?_
  ·rintro D i ys H' x R hx ⟨g0,g1,gk,rfl,hi⟩ kk;obtain⟨u,eu,rfl⟩:∃u,ps[i]?=some u/\x=.ref u:=by
    rw[JC] at hx;obtain⟨u,e,rfl⟩:=JW.mp hx;exact⟨u,e,rfl⟩
   have hlt:i<rs.length:=by have:=(J6.mp eu).1;lia
   have er:=Jx hlt;have et:rs.take (i+1)=rs.take i++[rs[i]]:=by rw[Ko,er];rfl
   have hu':=gk.n (hpa.2 i u _ eu er);rw[Gu] at hu';nofun;refine⟨u,_,rfl,hu',?_⟩;rw[Dq];exact kk _ _ g1 ⟨g0,ae,λu o e _=>by rw[aj (aq e g0)];exact gk.n e,by rw[et,JR,JR];rfl,hlt⟩
  rintro ga ys H4 ⟨_,gg,k4,rfl,_⟩;rw[Jz,hpl,Kq] at gg;show N _ _;subst hN;clear hps hpa hpl;have k04:=k03.trans k4;have gp4:=k4.n gp3;have gsz4:=k4.n gsz;have By:(fO cd rs).length=rs.length:=Jz ..;have gl1:(rs.map aD).length=rs.length:=Jz ..;have sb:∀s∈fO cd rs,s<=150:=λs hs=>by
   obtain⟨r,hr',rfl⟩:=Ki.mp hs;have:=fe hC (h3 r hr');lia
  have gb:∀t,some t∈rs.map aD->t<=(fO cd rs).length:=λt ht=>by
   obtain⟨r,hr',e⟩:=Ki.mp ht;rw[By];exact gN (h3 r hr') e
  clear gp gp3 gsz k02 k03 k3 k4;refine ax λN hN=>?_;nofun;refine⟨true,true,sa,ga,fO cd rs,rs.map aD,rfl,gsz4,gg,by rw[gl1,By],by rw[By];exact h2,sb,gb,λwa H5 k5 g5=>?_⟩
  rw[<- ew] at g5;subst hN;have wl:=L.len;have wt:=L.lt;refine ax λN hN=>?_;nofun;refine⟨true,sa,wa,false,fO cd rs,rs.map aD,ws,rfl,k5.n gsz4,bz.of g5,λH' k=>bz.of (k.n g5),by rw[gl1,By],by rw[wl,By],by rw[By];exact h2,wt,λpa H6 _ k6 g6=>?_⟩
  rw[<- es] at g6;subst hN;have spl:=L.sl;have k56:=k5.trans k6;have k06:=k04.trans k56;have gp6:=k56.n gp4;have gg6:=k56.n gg;have gw6:=k6.n g5;clear k56 gp4 gg g5 k5 k6 gsz4 k04 sb gb;refine ax λN hN=>?_;nofun;refine⟨JL _,λbl hbl=>?_⟩;obtain⟨k7,s7⟩:=dF hbl (.lst []);generalize upd H6 bl _=H7 at *;have hblH:H bl=none:=k06.free (by simp) hbl
  subst hN;refine ax λN hN=>?_;nofun;have gp7:=k7.n gp6;refine⟨⟨_,bI.of gp7⟩,?_⟩;have keepB:∀{G:Hp} {o:HO},KB [] H6 G->KB [] H6 (upd G bl o):=λk u o' e z=>by rw[aj (aq e hbl)];exact k u o' e z
  refine lj (xs:=wH cd rs) (λi σ H'=>∃(acc:List (List Nat)) (o9 o10:Option V),i<=rs.length/\KB [] H6 H'/\H' bl=some (.lst ((acc.map wd).map V.str))/\acc.flatten++ow cd sp i (rs.drop i) (ws.drop i)=ow cd sp 0 rs ws/\acc.length<=2*i/\acc.flatten.length<=200*i/\σ=[some (.ref a),some (.ref b),some (.ref ca),some (.ref pl),some (.ref sa),some (.ref ga),some (.ref wa),some (.ref pa),some (.ref bl),o9,o10]) ⟨[],none,none,JL _,k7,s7,rfl,JL _,JL _,rfl⟩ (λi σ H' _ h=>by obtain⟨_,_,_,_,k,_⟩:=h;exact bI.of (k.n gp6)) ?_ ?_
  ·rintro i x σ H' p hx ⟨acc,o9,o10,hi,hk,gb,ex,hx1,hx2,rfl⟩ hp';have hlt:i<rs.length:=by have:=(J6.mp hx).1;rw[wH,Jz] at this;exact this
   have er:=Jx hlt;have ewi:=Jx (show i<ws.length by lia)
   have lw:=wt _ (JN (show i<ws.length by lia))
   have okr:=h3 _ (JN hlt);rw[KO hlt,KO (show i<ws.length by lia),ow] at ex
   unfold wH at hx;rw[JC,er] at hx;generalize rs[i]'_=r at *;generalize ws[i]'_=w0 at *;cases hx;have h136:=fe hC okr;have ag:bV ((rs.map aD).map bO) (i:Int)=some (bO (aD r)):=bq (by rw[JC,JC,er];rfl)
   unfold b6;refine⟨p,_,rfl,bz.of ae,rfl,_,_,rfl,_,_,rfl,rfl,?_⟩;have kz:=KB.new (ex:=[]) (o:=.tup [.int i,.str (wd (bB cd r))]) hp';generalize upd H' p (.tup [.int i,.str (wd (bB cd r))])=G1 at *;have hk1:=hk.trans kz;have gb1:=kz.n gb;dsimp only;refine ax λM hM=>?_;nofun;refine⟨.inl ⟨rfl,_,bI.of gb1⟩,bl,_,_,rfl,rfl,gb1,Nat.lt_of_le_of_lt (show _<=1000 by rw[List.length_map,List.length_map];lia) (by decide),?_⟩
   have gb2:upd G1 bl (.lst ((acc.map wd).map V.str++[.str (wd (bB cd r))])) bl=some (.lst (((acc++[bB cd r]).map wd).map V.str)):=by rw[ae,JR,JR];rfl
   have hk2:=keepB (o:=.lst ((acc.map wd).map V.str++[.str (wd (bB cd r))])) hk1;generalize upd G1 bl (.lst ((acc.map wd).map V.str++[.str (wd (bB cd r))]))=G2 at *;subst hM;dsimp only;refine yy λM hM=>?_;refine CN λA B hA hB'=>?_;exists az (hk2.n gg6),ag;have f1:(acc++[bB cd r]).flatten=acc.flatten++bB cd r:=by simp
   cases eg:aD r with
   |none =>
    rw[JA (show ¬ ¬ bO none=V.aR from λz=>z rfl),hB'];show M _ _;rw[hM];refine⟨acc++[bB cd r],_,_,hlt,hk2,gb2,?_,by rw[J5];simp;lia,by rw[f1,J5];lia,rfl⟩
    rw[<- ex,eg,f1];simp[BV]
   |some g =>
    rw[eg] at ag;rw[JE (show ¬ bO (some g)=V.aR from λz=>nomatch z),hA];clear hA hB';have hg:g<=rs.length:=gN okr eg;have egs:(rs.map aD)[i]?=some (some g):=by rw[JC,er];exact Kt some eg
    have aw:bV (iu (rs.map aD) ws) (i:Int)=some (.int (w0:Nat)):=bq (lS egs ewi);exists aC (hk2.n gw6),aw;refine⟨.inl ⟨rfl,_,bI.of gb2⟩,true,pa,ga,sp,rs.map aD,i,g,rfl,hk2.n g6,hk2.n gg6,egs,by lia,by lia,w0,fm sp g i,rfl,lw,?_⟩
    refine⟨bl,_,_,rfl,rfl,gb2,K9 (show _<=1000 by rw[Jz,Jz,J5];simp;lia) (by decide),?_⟩
    rw[hM];have jl:=uC lw (fm sp g i);have f2:(acc++[bB cd r]++[dz w0 (fm sp g i)]).flatten=acc.flatten++bB cd r++dz w0 (fm sp g i):=by simp
    have jl2:HY w0<=18:=by rcases mh lw with rfl|rfl|rfl<;>decide
    refine⟨acc++[bB cd r]++[dz w0 (fm sp g i)],_,_,hlt,keepB hk2,by rw[ae];simp only[JR,Kg,L_],?_,by rw[J5,J5];simp;lia,by rw[f2,J5,J5,jl];lia,rfl⟩
    rw[<- ex,eg,f2];simp[BV]
  ·rintro σ H' ⟨acc,o9,o10,hi,hk,gb,ex,hx1,hx2,rfl⟩;show N _ _;subst hN;rw[show (wH cd rs).length=rs.length from Jz ..] at *;rw[LD] at ex;have ex':acc.flatten=ow cd sp 0 rs ws:=by rw[<- ex];unfold ow;exact (Kp _).symm
   nofun;have e2:((acc.map wd).map λx=>x.length).sum=acc.flatten.length:=by
    rw[List.length_flatten,Lp];rfl
   refine⟨rfl,_,bl,_,rfl,rfl,bI.of gb,?_,?_⟩
   ·rw[e2,show (Str.ofString "").length=0 from by decide +kernel];lia
   rw[ny,ex'];exists az (hk.n g6);rw[Ct];intro q1 hq1 l2 hl2;have k8:=KB.new (ex:=[]) (o:=.lst (iV (nZ sp)).dropLast) hq1;generalize upd H' q1 (.lst (iV (nZ sp)).dropLast)=G1 at *;obtain⟨k9,s9⟩:=dF hl2 (.tup (iV (nZ sp)).dropLast);generalize upd G1 l2 _=G2 at *;refine⟨by decide,λt ht=>?_⟩
   have k10:=KB.new (ex:=[]) (o:=.tup [.str (wd (ow cd sp 0 rs ws)),.ref l2]) ht;refine q t l2 _ (k06.trans (hk.trans (k8.trans (k9.trans k10)))) ae ?_;rw[k10.n s9];unfold iV;rw[List.map_dropLast]
noncomputable def rZ(sp:List Nat)(n:Nat):List Nat:=(List.range n).map λk=>sp.getD (k+1) 0-sp.getD k 0
theorem iz(sp:List Nat)(n:Nat):(rZ sp n).length=n:=by unfold rZ;rw[Jz,Ky]
theorem sx(sp:List Nat){n k:Nat}(h:k<n):(rZ sp n)[k]?=some (sp.getD (k+1) 0-sp.getD k 0):=by
 unfold rZ;rw[JC,List.getElem?_range h];rfl
theorem sH{n:Nat}(h0:sp.getD 0 0=0)(hu:∀k,k<n->sp.getD k 0<=sp.getD (k+1) 0):∀k,k<=n->((rZ sp n).take k).sum=sp.getD k 0
 |0,_=>h0.symm
 |k+1,h=>by
  have e:=sH h0 hu k (by lia)
  rw[Ko,sx sp (by lia:k<n),List.sum_append,e]
  show _+(_+0)=_;have:=hu k (by lia)
  lia
noncomputable def tO(K:W.Frag):Sp:=λvs H Q _=>∃(a b:Addr) (bk:List (List Int)) (rs:List Row),vs=[.ref a,.ref b]/\ur H a rs/\u5 H b bk/\Bk bk/\rs.length<=64/\(∀r∈rs,r.Ok rs.length)/\∀l H',H l=none->KB [] H H'->H' l=some (.lst (iV (nZ (rZ (cX bk rs) rs.length))))->Q (.ref l) H'
theorem Iu(g:Option Nat){w:Nat}(h:w<3):∃v:Int,bV [rH g w,V.int (-1)] (if bO g=.aR then (1:Int) else 0)=some (.int v)/\bV [V.int 0,V.int 5,V.int 10,V.int 18] (v+1)=some (.int (addW g w:Nat)):=by
 cases g with
 |none=>exact⟨-1,rfl,rfl⟩
 |some t =>
  refine⟨w,rfl,?_⟩;rcases (show w=0\/w=1\/w=2 by lia) with rfl|rfl|rfl<;>rfl
theorem zC(T:Txt K mg)(F:HasFn K mg "_law_sizes" cF ["program","book"])(h_law_bare:au P w K mg base aY 2 "_law_bare" ["row","book"] (xM K))(hleast_widths:au P w K mg base aY 5 "least_widths" ["sizes","goals"] (ke K)):au P w K mg base aY 6 "_law_sizes" ["program","book"] (tO K):=by
 refine F.eW dw (λvs H Q E h=>?_) (λf cdv A outer s H vs Q E hr h=>?_)
 ·obtain⟨a,b,bk,rs,rfl,_⟩:=h;rfl
 ·have hu:=aP hr;obtain⟨a,b,bk,rs,rfl,hp,hb,hB,hl,aQ,q⟩:=h;have L:=ni hB hl aQ;obtain⟨as,ha,hp0⟩:=id hp;have hpl:=hp0.1;refine⟨_,(Z.ao (Z.se (i:=2) dw.nd (Z.ct (Z.b_ K rfl) rfl T.cc (by decide +kernel) (Z.cons (Z.rA (osc:=af cF) (ON:=["program","book","goals","bare","widths"]) (own:=["row"]) (N:=["row","program","book","goals","bare","widths"]) (aG.of rfl (by decide +kernel)) (Z.any K rfl (Z.v 0)) (λnd _ _ _ _=>(Z.aT (i:=0) nd rfl (by right))) (λ_ _ _ _=>Z.lZ) (λ_ _ _ _=>(Z.ix (Z.aM K rfl hu) (Z.lst (Z.cons Z.aR (Z.cons (Z.ix (Z.aM K rfl hu) (Z.v 0) (Z.un dC Z.int)) Z.nil))) (Z.ct iT rfl T.pN (by decide +kernel) (Z.cons (Z.cmp (Z.Ik K rfl hu) (Z.ix (Z.aM K rfl hu) (Z.v 0) Z.int) (Z.tup (Z.consts rfl))) Z.nil))))) Z.nil)))
   (Z.ao (Z.asg (Z.rA (osc:=af cF) (ON:=["program","book","goals","bare","widths"]) (own:=["row"]) (N:=["row","program","book","goals","bare","widths"]) (aG.of rfl (by decide +kernel)) (Z.any K rfl (Z.v 0)) (λnd _ _ _ _=>(Z.aT (i:=0) nd rfl (by right))) (λ_ _ _ _=>Z.lZ) (λ_ _ _ _=>(Z.fc h_law_bare (Z.cons (Z.v 0) (Z.cons (Z.v 2) Z.nil))))) (Z.aT (i:=3) dw.nd rfl (by right)))
   (Z.ao (Z.se (i:=4) dw.nd (Z.fc hleast_widths (Z.cons (Z.ct (Z.b_ K rfl) rfl T.cc (by decide +kernel) (Z.cons (Z.v 3) Z.nil)) (Z.cons (Z.v 2) Z.nil))))
   (Z.aA (Z.ret (Z.rA (osc:=af cF) (ON:=["program","book","goals","bare","widths"]) (own:=["k"]) (N:=["k","program","book","goals","bare","widths"]) (aG.of rfl (by decide +kernel)) (Z.vW rfl T.fA (Z.cons (Z.cb (Z.cJ K rfl) rfl T.cy (by decide +kernel) (Z.cons (Z.v 3) Z.nil)) Z.nil)) (λnd _ _ _ _=>(Z.aT (i:=0) nd rfl (by right))) (λ_ _ _ _=>Z.lZ) (λ_ _ _ _=>(Z.op (Z.bf K rfl) (Z.ix (Z.aM K rfl hu) (Z.v 4) (Z.v 0)) (Z.ix (Z.aM K rfl hu) (Z.lst (Z.consts rfl)) (Z.op (Z.bf K rfl) (Z.ix (Z.aM K rfl hu) (Z.lst (Z.cons (Z.ix (Z.aM K rfl hu) (Z.v 5) (Z.v 0)) (Z.cons (Z.un dC Z.int) Z.nil))) (Z.ct iT rfl T.pN (by decide +kernel) (Z.cons (Z.cmp cZ (Z.ix (Z.aM K rfl hu) (Z.v 3) (Z.v 0)) Z.aR) Z.nil))) Z.int)))))))))),?_⟩
  refine ax λN hN=>?_;exists aC ha;refine cq (xs:=as.map V.ref) (JF (show _<=64 by rw[Jz];lia) (by decide)) (λD i ys H'=>H D=none/\H' D=some (.lst ys)/\KB [] H H'/\ys=((rs.take i).map aD).map bO/\i<=rs.length) (λD hD=>⟨hD,ae,KB.new hD,rfl,JL _⟩) (λD i ys H' h=>⟨h.2.1,by rw[h.2.2.2.1,Jz,Jz,JT];have:=h.2.2.2.2;lia⟩) (λD i ys H' h=>bz.of (h.2.2.1 _ _ ha (by simp))) ?_ ?_
  ·rintro D i ys H' x R hx ⟨g0,g1,gk,rfl,hi⟩ kk;obtain⟨c,ec,rfl⟩:∃c,as[i]?=some c/\x=.ref c:=by
    rw[JC] at hx;obtain⟨c,e,rfl⟩:=JW.mp hx;exact⟨c,e,rfl⟩
   have hlt:i<rs.length:=by have:=(J6.mp ec).1;lia
   have er:=Jx hlt;have hc:=gk.n (hp0.2 i c _ ec er);have et:rs.take (i+1)=rs.take i++[rs[i]]:=by rw[Ko,er];rfl
   have fin:∀G:Hp,KB [] H' G->R (bO (aD rs[i])) G:=λG kG=>by
    have g1':=kG.n g1;refine kk _ _ g1' ⟨g0,ae,λu o e _=>by rw[aj (aq e g0)];exact kG.n (gk.n e),by rw[et,JR,JR];rfl,hlt⟩
   clear kk;generalize rs[i]=r at *;have sc:=aC hc;obtain⟨z,y,e0,e1,h⟩:∃(z:Str) (y:V),bV r.vs 0=some (.str z)/\bV r.vs (-1)=some y/\(qI (.str z) [.str "jump",.str "zero"]=true/\y=bO (aD r)\/qI (.str z) [.str "jump",.str "zero"]=false/\bO (aD r)=.aR):=by
    cases r with
    |jump g=>exact⟨_,_,rfl,rfl,.inl ⟨by decide +kernel,rfl⟩⟩
    |zero b g=>exact⟨_,_,rfl,rfl,.inl ⟨by decide +kernel,rfl⟩⟩
    |put b n=>exact⟨_,_,rfl,rfl,.inr ⟨by decide +kernel,rfl⟩⟩
    |two u b c=>exact⟨_,_,rfl,rfl,.inr ⟨(show ∀u,qI (.str (w2 u)) [.str "jump",.str "zero"]=false by decide +kernel) u,rfl⟩⟩
    |one u b=>exact⟨_,_,rfl,rfl,.inr ⟨(show ∀u,qI (.str (w1 u)) [.str "jump",.str "zero"]=false by decide +kernel) u,rfl⟩⟩
    |halt=>exact⟨_,_,rfl,rfl,.inr ⟨by decide +kernel,rfl⟩⟩
   exists sc,e1;refine⟨by decide,λp1 hp1=>?_⟩
   obtain⟨k1,s1⟩:=dF hp1 (.lst [V.aR,y]);generalize upd H' p1 _=G1 at *;exists aC (k1.n hc),e0;refine⟨by decide,λp2 hp2=>⟨rfl,rfl,?_⟩⟩
   obtain⟨k2,s2⟩:=dF hp2 (.tup [V.str "jump",V.str "zero"]);generalize upd G1 p2 _=G2 at *;have s12:=k2.n s1;rcases h with ⟨h1,rfl⟩|⟨h1,h2⟩
   ·exists h1,az s12,Ai;exact fin _ (k1.trans k2)
   ·exists h1,az s12,Co;rw[h2] at fin;exact fin _ (k1.trans k2)
  ·rintro D ys H' ⟨g0,g1,gk,rfl,hi⟩;rw[Jz,hpl,Kq] at g1;exists az g1;intro ga hga;obtain⟨k1,s1⟩:=dF hga (.tup ((rs.map aD).map bO));generalize upd H' ga _=H1 at *;have k01:=gk.trans k1;rw[hN];clear hN N;clear gk k1 g0 g1 hga hi;refine ax λN hN=>?_;have ha1:=k01.n ha;exists aC ha1;refine cq (xs:=as.map V.ref) (JF (show _<=64 by rw[Jz];lia) (by decide)) (λD i ys H'=>H1 D=none/\H' D=some (.lst ys)/\KB [] H1 H'/\ys=iV (nZ (fO (bQ bk) (rs.take i)))/\i<=rs.length) (λD hD=>⟨hD,ae,KB.new hD,rfl,JL _⟩) (λD i ys H' h=>⟨h.2.1,by rw[h.2.2.2.1,bU,bp,fO,Jz,JT];have:=h.2.2.2.2;lia⟩) (λD i ys H' h=>bz.of (h.2.2.1 _ _ ha1 (by simp))) ?_ ?_
   ·rintro D i ys H' x R hx ⟨g0,g1,gk,rfl,hi⟩ kk;obtain⟨c,ec,rfl⟩:∃c,as[i]?=some c/\x=.ref c:=by
     rw[JC] at hx;obtain⟨c,e,rfl⟩:=JW.mp hx;exact⟨c,e,rfl⟩
    have hlt:i<rs.length:=by have:=(J6.mp ec).1;lia
    have er:=Jx hlt;have et:rs.take (i+1)=rs.take i++[rs[i]]:=by rw[Ko,er];rfl
    nofun;refine⟨c,b,rs[i],rs.length,bk,rfl,gk.n (k01.n (hp0.2 i c _ ec er)),(hb.kb k01).kb gk,hB,aQ _ (JN hlt),λH5 k5=>?_⟩;exact kk _ _ (k5.n g1) ⟨g0,ae,λu o e _=>by rw[aj (aq e g0)];exact k5.n (gk.n e),by rw[et];unfold fO nZ iV;rw[JR,JR,JR];rfl,hlt⟩
   rintro ba ys H2 ⟨_,gb,k2,rfl,_⟩;rw[Jz,hpl,Kq] at gb;rw[hN];clear hN N;refine ax λN hN=>?_;exists az gb;intro bt hbt;obtain⟨k3,s3⟩:=dF hbt (.tup (iV (nZ (fO (bQ bk) rs))));generalize upd H2 bt _=H3 at *;have sl:(fO (bQ bk) rs).length=rs.length:=Jz ..;refine⟨false,false,bt,ga,fO (bQ bk) rs,rs.map aD,rfl,s3,(k2.trans k3).n s1,by rw[Jz,sl],by rw[sl];exact hl,λs hs=>by
    obtain⟨r,hr,rfl⟩:=Ki.mp hs;exact JF (fe hB.cd (aQ r hr)) (by decide),λt ht=>?_,λwa H4 k4 gw=>?_⟩
   ·obtain⟨r,hr,e⟩:=Ki.mp ht;have:=gN (aQ r hr) e;rw[sl];exact this
   rw[hN];clear hN N;have gb4:=k4.n (k3.n gb);have gg4:=k4.n ((k2.trans k3).n s1);have k04:=k01.trans (k2.trans (k3.trans k4));exists az gb4;rw[bU,bp,sl];refine⟨by lia,by lia,?_⟩
   rw[Kb];have gl:(rs.map aD).length=rs.length:=Jz ..;have ew:hX bk rs=wI (fO (bQ bk) rs) (rs.map aD):=rfl;have es:cX bk rs=iQ 0 (fO (bQ bk) rs) (rs.map aD) (hX bk rs):=rfl;have wl:=L.len;have w3:=L.lt;rw[<- ew] at gw;refine d5 (JF hl (by decide)) (λD i ys G=>H4 D=none/\G D=some (.lst ys)/\KB [] H4 G/\ys=iV (nZ ((rZ (cX bk rs) rs.length).take i))/\i<=rs.length) (λD hD=>⟨hD,ae,KB.new hD,rfl,JL _⟩) (λD i ys G h=>⟨h.2.1,by rw[h.2.2.2.1,bU,bp,JT,iz];have:=h.2.2.2.2;lia⟩) ?_ ?_
   ·rintro D i ys G R hi ⟨g0,g1,gk,rfl,_⟩ kk;rw[Int.zero_add] at *;have e1:=Jx (show i<(fO (bQ bk) rs).length by lia)
    have e2:=Jx (show i<(rs.map aD).length by lia)
    have e3:=Jx (show i<(hX bk rs).length by lia)
    have w3':=w3 _ (JN (show i<(hX bk rs).length by lia))
    have ea:=oo _ _ _ 0 i _ _ _ e1 e2 e3;rw[<- es] at ea;have f1:bV (iV (nZ (fO (bQ bk) rs))) (i:Int)=some (.int (((fO (bQ bk) rs)[i]'(by lia):Nat):Int)):=bq (by unfold iV nZ;rw[JC,JC,e1];rfl)
    have f2:bV (iu (rs.map aD) (hX bk rs)) (i:Int)=_:=bq (lS e2 e3);have f3:bV ((rs.map aD).map bO) (i:Int)=_:=bq (by rw[JC,e2];rfl)
    obtain⟨v,v1,v2⟩:=Iu ((rs.map aD)[i]'(by lia)) w3'
    exists az (gk.n gb4),f1;refine⟨by decide,λp1 hp1=>?_⟩
    obtain⟨k5,s5⟩:=dF hp1 (.lst [V.int 0,V.int 5,V.int 10,V.int 18]);generalize upd G p1 _=G1 at *;have kg1:=gk.trans k5;exists aC (kg1.n gw),f2;refine⟨by decide,λp2 hp2=>?_⟩
    obtain⟨k6,s6⟩:=dF hp2 (.lst [rH ((rs.map aD)[i]'(by lia)) ((hX bk rs)[i]'(by lia)),V.int (-1)])
    generalize upd G1 p2 _=G2 at *;exists aC ((kg1.trans k6).n gg4),f3,v1,az (k6.n s5),v2;refine kk _ _ ((k5.trans k6).n g1) ⟨g0,ae,λu o e _=>by rw[aj (aq e g0)];exact (kg1.trans k6).n e,?_,hi⟩
    rw[Ko,sx _ hi,ea];unfold nZ;rw[JR,eO];congr 3;show _=((_:Nat):Int);lia
   rintro D ys G ⟨g0,g1,gk,rfl,_⟩;rw[Kj (by rw[iz];exact JD _)] at g1
   exact q D G (k04.free (by simp) g0) (k04.trans gk) g1
theorem lN{B:lX}(l:List Int):cU K H B (iV l) (l.map T.int):=by
 induction l with
 |nil=>exact .nil
 |cons x l ih=>exact .cons (.int x) ih
theorem Ay(x:Int):Y.CK (.int x) (.int x)=true:=by unfold Y.CK;exact Kc rfl
theorem jV(n:Nat)(x:Int):mr n (.int x) (.int x) true:=by
 have:=mr.flat (n:=n) (t:=.int x) (u:=.int x) rfl rfl
 rwa [Ay] at this
theorem uf(n:Nat)(x:Str):mr n (.str x) (.str x) true:=by
 have:=mr.flat (n:=n) (t:=.str x) (u:=.str x) rfl rfl
 rwa [show Y.CK (.str x) (.str x)=true from by unfold Y.CK;exact Kc rfl] at this
theorem all_true(n:Nat):j9 n n (λ_=>true)=true:=iU rfl λ_ _=>rfl
theorem pq(n:Nat)(l:List Int):mr (n+1) (.tup (l.map T.int)) (.tup (l.map T.int)) true:=by
 have:=mr.tup (n:=n) (xs:=l.map T.int) (ys:=l.map T.int) (λ_=>true) λj x y h1 h2=>by
  rw[h1] at h2;cases h2;rw[JC] at h1;obtain⟨k,_,rfl⟩:=JW.mp h1;exact jV n k
 rwa [all_true] at this
noncomputable def no:lX:=λ_=>False
theorem jX{b:Addr}{vs ws:List V}{xs:List T}(ha:H a=some (.tup vs))(hb:H b=some (.tup ws))(r1:cU K H no vs xs)(r2:cU K H no ws xs)(he:∀x∈xs,mr 4 x x true)(q:Q (.bl (!neg)) H):Y.rb K 4 neg (.ref a) (.ref b) H Q:=by
 refine⟨no,a,b,vs,ws,xs,xs,λ_=>true,rfl,rfl,.inl ⟨bz.of ha,bz.of hb⟩,r1,r2,λj x y h1 h2=>?_,?_⟩
 ·rw[h1] at h2;cases h2;exact he x (K1 h1)
 ·rw[all_true]
  cases neg<;>exact q
theorem Cm{b:Addr}{l:List Int}(ha:H a=some (.tup (iV l)))(hb:H b=some (.tup (iV l)))(q:Q (.bl (!neg)) H):Y.rb K 4 neg (.ref a) (.ref b) H Q:=jX ha hb (lN l) (lN l) (λx hx=>by
 obtain⟨k,_,rfl⟩:=Ki.mp hx;exact jV 4 k) q
theorem jO{p:Addr}{l:List Int}(h:H p=some (.tup (iV l))):Rep K H no (.ref p) (.tup (l.map T.int)):=.tup (λz=>z) h (lN l)
theorem iE(xs:List V)(n:Nat):dJ xs none (some (n:Int))=xs.take n:=by
 unfold dJ;rw[HT.dP,HT.eE,Lf,Nc];rcases Nat.le_total n xs.length with c|c
 ·rw[Nh c]
 ·rw[Nat.min_eq_right c,Kq,Kj c]
theorem pI(xs:List V)(v:V):bV (xs++[v]) (-1)=some v:=by
 have hl:(xs++[v]).length=xs.length+1:=by rw[J5];rfl
 unfold bV kK;rw[JA (by decide),hl,JE (by lia),show (-1+((xs.length+1:Nat):Int)).toNat=xs.length by lia]
 show (xs++[v])[xs.length]?=_;rw[JY (JD _),Lo];rfl
theorem yL(xs:List V)(k:Nat):dJ xs (some (k:Int)) none=xs.drop k:=by
 unfold dJ;rw[HT.dP,HT.eE];rcases Nat.le_total k xs.length with h|h
 ·rw[Nh h,Kj (by rw[Ks];exact JD _)]
 ·rw[Nat.min_eq_right h,LD,List.drop_of_length_le h,List.take_nil]
noncomputable def Sd(H:Hp)(p:Addr)(n:Nat):Prop:=∃m f t z:Int,H p=some (.lst [.int m,.int f,.int t,.int z])/\0<=m/\0<=t/\t<=n/\0<=z/\z<1999999927
theorem Sd.mono{p:Addr}{n m:Nat}(h:Sd H p n)(hm:n<=m):Sd H p m:=by
 obtain⟨a,b,c,d,h1,h2,h3,h4,h5⟩:=h;exact⟨a,b,c,d,h1,h2,h3,by lia,h5⟩
theorem Sd.kb{p:Addr}{n:Nat}(h:Sd H p n)(k:KB ex H H')(hp:p∉ex):Sd H' p n:=by
 obtain⟨a,b,c,d,h1,h2⟩:=h;exact⟨a,b,c,d,k _ _ h1 hp,h2⟩
theorem Sd.k0{p:Addr}{n:Nat}(h:Sd H p n)(k:KB [] H H'):Sd H' p n:=h.kb k (by simp)
theorem Sd.lst{p:Addr}{n:Nat}(h:Sd H p n):∃xs,H p=some (.lst xs):=by
 obtain⟨a,b,c,d,h1,_⟩:=h;exact⟨_,h1⟩
theorem Sd.nt{p:Addr}{n:Nat}(h:Sd H p n):NT [p] H:=by
 obtain⟨xs,e⟩:=h.lst;exact jb e
theorem Sd.ne{p l:Addr}{n:Nat}(h:Sd H p n)(hl:H l=none):l≠p:=λz=>by
 obtain⟨xs,e⟩:=h.lst;rw[z,e] at hl;cases hl
theorem Sd.tup{p:Addr}{n:Nat}(h:Sd H p n)(k:KB [p] H H')(e:H a=some (.tup xs)):H' a=some (.tup xs):=k _ _ e λz=>h.nt _ z _ e
noncomputable def wL:Sp:=λvs H Q _=>∃c:Int,vs=[.int c]/\∀p H',Sd H' p 0->KB [] H H'->H p=none->Q (.ref p) H'
theorem B3(T:Txt K mg)(F:HasFn K mg "_law_seed" fX ["cell"]):au P w K mg base aY 1 "_law_seed" ["cell"] wL:=by
 refine F.eW iK (λvs H Q E h=>?_) (λf cdv A outer s H vs Q E hr h=>?_)
 ·obtain⟨c,rfl,_⟩:=h;rfl
 ·have hu:=aP hr;obtain⟨c,rfl,q⟩:=h;refine⟨_,(Z.ao (Z.se (i:=1) iK.nd (Z.cb (jm rfl) rfl T.xB (by decide +kernel) (Z.cons (Z.v 0) (Z.cons (Z.op cK Z.int (Z.v 0)) Z.nil))))
   (Z.aA (Z.ret (Z.lst (Z.cons (Z.v 1) (Z.cons (Z.ct iT rfl T.pN (by decide +kernel) (Z.cons (Z.cmp p9 (Z.v 1) (Z.op DT Z.int Z.int)) Z.nil)) (Z.cons Z.int (Z.cons (Z.op e8 (Z.v 0) Z.int) Z.nil)))))))),?_⟩
  refine ax λN hN=>?_;nofun;rw[hN];clear hN N;nofun;exact⟨⟨by decide,by decide,by decide⟩,by decide,by decide,λp hp=>q p _ ⟨_,_,0,_,ae,by split<;>lia,MK _,MK _,LR _ (by decide),LS _ (by decide)⟩ (KB.new hp) hp⟩
noncomputable def dE:Sp:=λvs H Q _=>∃(p:Addr) (m:Int) (n:Nat),vs=[.ref p,.int m]/\Sd H p n/\n<2^30/\0<m/\m<2^30/\∀(v:Nat) H',(v:Int)<m->Sd H' p (n+1)->KB [p] H H'->Q (.int (v:Nat)) H'
theorem zw(T:Txt K mg)(F:HasFn K mg "_law_draw" gF ["seed","most"]):au P w K mg base aY 1 "_law_draw" ["seed","most"] dE:=by
 refine F.eW dG (λvs H Q E h=>?_) (λf cdv A outer s H vs Q E hr h=>?_)
 ·obtain⟨p,m,n,rfl,_⟩:=h;rfl
 ·obtain⟨p,m,n,rfl,⟨a,b,t,z,hp,a0,t0,t1,z0,z1⟩,hn,hm0,hm1,q⟩:=h;have hu:=aP hr;have fin:∀(c:Int) (H':Hp),Sd H' p (n+1)->KB [p] H H'->Q (.int (c % m)) H':=λc H' D k=>by
   have h0:=LR c (Int.ne_of_gt hm0);have h1:=LS c hm0;have:=q (c % m).toNat H' (by lia) D k
   rwa [Int.toNat_of_nonneg h0] at this
  refine⟨_,(Z.ao (Z.asg (Z.op (Z.bf K rfl) (Z.ix (Z.aM K rfl hu) (Z.v 0) Z.int) Z.int) (Z.z_ (Z.v 0) Z.int))
   (Z.ao (Z.dA (Z.tw (Z.vn (Z.aZ bC (Z.ix (Z.aM K rfl hu) (Z.v 0) Z.int) Z.int) (Z.mV (Z.aZ um (Z.ix (Z.aM K rfl hu) (Z.v 0) Z.int) Z.int)))) (Z.ao (Z.se (i:=2) dG.nd (Z.op e8 (Z.ix (Z.aM K rfl hu) (Z.v 0) Z.int) (Z.v 1)))
   (Z.ao (Z.asg (Z.op jY (Z.ix (Z.aM K rfl hu) (Z.v 0) Z.int) (Z.v 1)) (Z.z_ (Z.v 0) Z.int))
   (Z.aA (Z.ret (Z.v 2))))) Z.bH)
   (Z.ao (Z.se (i:=3) dG.nd (Z.op e8 (Z.op fI (Z.op (Z.bf K rfl) (Z.op (Z.bf K rfl) (Z.ix (Z.aM K rfl hu) (Z.v 0) Z.int) (Z.op fI Z.int (Z.ix (Z.aM K rfl hu) (Z.v 0) Z.int))) Z.int) Z.int) Z.int))
   (Z.ao (Z.se (i:=3) dG.nd (Z.op e8 (Z.op fI (Z.op e8 (Z.op fI (Z.v 3) (Z.v 3)) Z.int) Z.int) Z.int))
   (Z.aA (Z.ret (Z.op e8 (Z.op jY (Z.v 3) Z.int) (Z.v 1)))))))),?_⟩
  have x2:kK 4 2=some 2:=by decide
  have x0:kK 4 0=some 0:=by decide
  refine ax λN hN=>?_;exists az hp,hp,x2;have k1:KB [p] H (upd H p (.lst [.int a,.int b,.int (t+1),.int z])):=KB.set (by simp)
  have p1:upd H p (.lst [.int a,.int b,.int (t+1),.int z]) p=_:=ae;generalize upd H p _=H1 at *;have D1:Sd H1 p (n+1):=⟨a,b,t+1,z,p1,a0,by lia,by lia,z0,z1⟩
  rw[hN];clear hN N;refine ax λN hN=>?_;refine CN λA B hA hB=>?_;have hA':0<a->A [some (.ref p),some (.int m),none,none] H1:=λha=>by
   rw[hA];clear hA hB;refine ax λM hM=>?_;exists az p1;refine⟨hm0,?_⟩;rw[hM];clear hM M;refine ax λM hM=>?_;exists az p1,p1,x0;refine⟨⟨hm0,by lia⟩,?_⟩
   have k2:KB [p] H1 (upd H1 p (.lst [.int (a / m),.int b,.int (t+1),.int z])):=KB.set (by simp)
   have p2:upd H1 p (.lst [.int (a / m),.int b,.int (t+1),.int z]) p=_:=ae;generalize upd H1 p _=H2 at *;rw[hM];clear hM M;nofun;exact fin a H2 ⟨a / m,b,t+1,z,p2,Int.ediv_nonneg a0 (by lia),by lia,by lia,z0,z1⟩ (k1.trans k2)
  have hB':B [some (.ref p),some (.int m),none,none] H1:=by
   rw[hB];show N _ _;rw[hN];clear hN N hA hB hA' A B;refine ax λN hN=>?_;exists az p1;refine⟨.inl (by decide),.inr (by decide),by decide,?_⟩
   rw[hN];clear hN N;generalize hx:(z+7127*(t+1)+17)*48271 % 2147483647=x;have hx1:0<=x/\x<2147483647:=by rw[<- hx];exact⟨LR _ (by decide),LS _ (by decide)⟩
   refine ax λN hN=>?_;nofun;refine⟨.inl ⟨by lia,by lia⟩,by decide,.inr (by decide),by decide,?_⟩
   rw[hN];clear hN N;nofun;exact⟨⟨by decide,by decide⟩,hm0,fin _ H1 D1 k1⟩
  exists az p1;split
  ·split
   ·rename_i h;exact hA' h
   ·exact hB'
  ·exact hB'
noncomputable def yD:Sp:=λvs H Q _=>∃(p:Addr) (n:Nat),vs=[.ref p]/\Sd H p n/\n<2^29/\∀(b:Nat) H',b<8->Sd H' p (n+2)->KB [p] H H'->Q (.str (cx b)) H'
theorem AE(T:Txt K mg)(F:HasFn K mg "_law_box" ip ["seed"])(h_law_draw:au P w K mg base aY 1 "_law_draw" ["seed","most"] dE):au P w K mg base aY 2 "_law_box" ["seed"] yD:=by
 refine F.eW qp (λvs H Q E h=>?_) (λf cdv A outer s H vs Q E hr h=>?_)
 ·obtain⟨p,n,rfl,_⟩:=h;rfl
 ·have hu:=aP hr;obtain⟨p,n,rfl,D,hn,q⟩:=h;refine⟨_,(Z.aA (Z.ret (Z.ix (Z.aM K rfl hu) Z.str (Z.fc h_law_draw (Z.cons (Z.v 0) (Z.cons (Z.ix (Z.aM K rfl hu) (Z.lst (Z.consts rfl)) (Z.fc h_law_draw (Z.cons (Z.v 0) (Z.cons Z.int Z.nil)))) Z.nil)))))),?_⟩;nofun;refine⟨by decide,λm hm=>?_⟩
  obtain⟨k1,s1⟩:=dF hm (.lst [.int 8,.int 3]);have nm:=D.ne hm;have D1:=D.k0 k1;generalize upd H m _=H1 at *;refine⟨p,2,n,rfl,D1,by lia,by decide,by decide,λd H2 hd D2 k2=>?_⟩
  obtain⟨x,hx,ex⟩:∃x:Nat,(0<x/\x<=8)/\bV [V.int 8,.int 3] (d:Int)=some (.int (x:Nat)):=by
   rcases (show d=0\/d=1 by lia) with rfl|rfl
   ·exact⟨8,by decide,rfl⟩
   ·exact⟨3,by decide,rfl⟩
  exists az (k2 _ _ s1 (by simpa using nm)),ex
  refine⟨p,_,_,rfl,D2,by lia,by lia,by lia,λy H3 hy D3 k3=>?_⟩
  have hb:=DB (show 0<=(y:Int) by lia) (show (y:Int)<8 by lia)
  exists hb;exact⟨by decide +kernel,q y H3 (by lia) D3 (k1.all.trans (k2.trans k3))⟩
noncomputable def rn:Sp:=λvs H Q _=>∃(p:Addr) (n:Nat),vs=[.ref p]/\Sd H p n/\n<2^29/\∀(v:Nat) H',v<65536->Sd H' p (n+2)->KB [p] H H'->Q (.int (v:Nat)) H'
theorem B2(T:Txt K mg)(F:HasFn K mg "_law_number" eQ ["seed"])(h_law_draw:au P w K mg base aY 1 "_law_draw" ["seed","most"] dE):au P w K mg base aY 2 "_law_number" ["seed"] rn:=by
 refine F.eW fU (λvs H Q E h=>?_) (λf cdv A outer s H vs Q E hr h=>?_)
 ·obtain⟨p,n,rfl,_⟩:=h;rfl
 ·have hu:=aP hr;obtain⟨p,n,rfl,D,hn,q⟩:=h;refine⟨_,(Z.ao (Z.se (i:=1) fU.nd (Z.fc h_law_draw (Z.cons (Z.v 0) (Z.cons Z.int Z.nil))))
   (Z.ao (Z.dA (Z.aZ bC (Z.v 1) Z.int) (Z.aA (Z.ret (Z.fc h_law_draw (Z.cons (Z.v 0) (Z.cons Z.int Z.nil))))) Z.bH)
   (Z.ao (Z.dA (Z.aZ bC (Z.v 1) Z.int) (Z.aA (Z.ret (Z.op cK Z.int (Z.fc h_law_draw (Z.cons (Z.v 0) (Z.cons Z.int Z.nil)))))) Z.bH)
   (Z.ao (Z.dA (Z.aZ bC (Z.v 1) Z.int) (Z.aA (Z.ret (Z.op Ey Z.int (Z.fc h_law_draw (Z.cons (Z.v 0) (Z.cons Z.int Z.nil)))))) Z.bH)
   (Z.aA (Z.ret (Z.fc h_law_draw (Z.cons (Z.v 0) (Z.cons Z.int Z.nil))))))))),?_⟩
  refine ax λN hN=>?_;nofun;refine⟨p,4,n,rfl,D,by lia,by decide,by decide,λd H1 hd D1 k1=>?_⟩
  rw[hN];clear hN N;refine ax λN hN=>?_;nofun;by_cases c0:(d:Int)=0
  ·rw[JE c0];exact⟨p,4,_,rfl,D1,by lia,by decide,by decide,λv H2 hv D2 k2=>q v H2 (by lia) D2 (k1.trans k2)⟩
  rw[JA c0,hN];clear hN N;refine ax λN hN=>?_;nofun;by_cases c1:(d:Int)=1
  ·rw[JE c1];refine⟨p,3,_,rfl,D1,by lia,by decide,by decide,λv H2 hv D2 k2=>?_⟩
   nofun;rw[show (65535:Int)-(v:Int)=((65535-v:Nat):Int) by lia]
   exact q _ H2 (by lia) D2 (k1.trans k2)
  rw[JA c1,hN];clear hN N;refine ax λN hN=>?_;nofun;by_cases c2:(d:Int)=2
  ·rw[JE c2];refine⟨p,16,_,rfl,D1,by lia,by decide,by decide,λv H2 hv D2 k2=>?_⟩
   nofun;refine⟨⟨by lia,by lia,by decide⟩,?_⟩
   rw[Kb,Int.one_mul,show (2:Int)^v=((2^v:Nat):Int) by rw[Oa];rfl]
   exact q _ H2 (JZ (Nat.pow_lt_pow_right (by decide) (show v<16 by lia)) (by decide)) D2 (k1.trans k2)
  rw[JA c2,hN];clear hN N;nofun;exact⟨p,65536,_,rfl,D1,by lia,by decide,by decide,λv H2 hv D2 k2=>q v H2 (by lia) D2 (k1.trans k2)⟩
theorem D_{l:List Nat}{b:Nat}(h:b<l.length):(nZ l)[b]'(by rw[bp];exact h)=((l[b]:Nat):Int):=by unfold nZ;rw[LA]
theorem qY{k:Int}{E:List Int}(h:k∈E):E[E.idxOf k]?=some k/\∀m,m<E.idxOf k->E[m]?≠some k:=by
 induction E with
 |nil=>cases h
 |cons a E ih =>
  rw[List.idxOf_cons];by_cases c:a=k
  ·subst c;rw[Kw,cond_true];exact⟨rfl,λm hm=>absurd hm (L4 _)⟩
  ·rw[Ka.mpr c,cond_false];obtain⟨i1,i2⟩:=ih ((J9.mp h).resolve_left λe=>c e.symm);refine⟨i1,λm hm=>?_⟩
   cases m with
   |zero=>intro z;exact c (Option.some.inj z)
   |succ m=>exact i2 m (by lia)
noncomputable def tD:Sp:=λvs H Q _=>∃(p:Addr) (m mo n:Nat),vs=[.ref p,.int (m:Nat),.int (mo:Nat)]/\Sd H p n/\n<2^28/\2<=m/\m<=17/\m<2^mo/\2<=mo/\mo<=20/\∀(ls:List Int) (a:Addr) H',Sd H' p (n+60)->KB [p] H H'->H' a=some (.tup (iV ls))->ls.length=m->oR ls->qH ls=true->Q (.ref a) H'
theorem zD(T:Txt K mg)(F:HasFn K mg "_law_lengths" cz ["seed","many","most"])(h_law_draw:au P w K mg base aY 1 "_law_draw" ["seed","most"] dE):au P w K mg base aY 2 "_law_lengths" ["seed","many","most"] tD:=by
 refine F.eW bD (λvs H Q E h=>?_) (λf cdv A outer s H vs Q E hr h=>?_)
 ·obtain⟨p,m,mo,n,rfl,_⟩:=h;rfl
 ·have hu:=aP hr;obtain⟨p,m,mo,n,rfl,D,hn,hm2,hm,hmo,ho2,ho,q⟩:=h;refine⟨_,(Z.ao (Z.se (i:=3) bD.nd (Z.lst (Z.consts rfl)))
   (Z.ao (Z.ia Kl (Z.aZ eF (Z.cb (Z.cJ K rfl) rfl T.cy (by decide +kernel) (Z.cons (Z.v 3) Z.nil)) (Z.v 1)) (Z.ao (Z.se (i:=4) bD.nd (Z.fc h_law_draw (Z.cons (Z.v 0) (Z.cons (Z.cb (Z.cJ K rfl) rfl T.cy (by decide +kernel) (Z.cons (Z.v 3) Z.nil)) Z.nil))))
   (Z.ao (Z.dA (Z.aZ p9 (Z.ix (Z.aM K rfl hu) (Z.v 3) (Z.v 4)) (Z.op cK (Z.v 2) Z.int)) (Z.aA (Z.se (i:=4) bD.nd (Z.bm K rfl PySem.F.plainAttrs_list PySem.F.slot_list_index PySem.F.type_list_index Y.BX (Z.v 3) (Z.cons (Z.cb (Y.vk K rfl rfl) rfl T.CQ (by decide +kernel) (Z.cons (Z.v 3) Z.nil)) Z.nil)))) Z.bH)
   (Z.aA (Z.se (i:=3) bD.nd (Z.op (Z.bf K rfl) (Z.op (Z.bf K rfl) (Z.slice (Z.wu K rfl) (Z.v 3) Z.Aj (Z.uF (Z.v 4))) (Z.lst (Z.cons (Z.op (Z.bf K rfl) (Z.ix (Z.aM K rfl hu) (Z.v 3) (Z.v 4)) Z.int) (Z.cons (Z.op (Z.bf K rfl) (Z.ix (Z.aM K rfl hu) (Z.v 3) (Z.v 4)) Z.int) Z.nil)))) (Z.slice (Z.wu K rfl) (Z.v 3) (Z.uF (Z.op (Z.bf K rfl) (Z.v 4) Z.int)) Z.Aj)))))))
   (Z.ao (Z.dA (Z.aZ bC (Z.fc h_law_draw (Z.cons (Z.v 0) (Z.cons Z.int Z.nil))) Z.int) (Z.aA (Z.sec (j:=3) bD.nd (osc:=af cz) (ON:=["seed","many","most","found","at","left"]) (own:=["length"]) (N:=["length","seed","many","most","found","at","left"]) (aG.of rfl (by decide +kernel)) (Z.any K rfl (Z.v 3)) (λnd _ _ _ _=>(Z.aT (i:=0) nd rfl (by right))) (λ_ _ _ _=>Z.lZ) (λ_ _ _ _=>(Z.cb (vg rfl) rfl T.CQ (by decide +kernel) (Z.cons (Z.v 3) (Z.cons (Z.op (Z.bf K rfl) (Z.v 0) (Z.fc h_law_draw (Z.cons (Z.v 1) (Z.cons Z.int Z.nil)))) Z.nil)))))) Z.bH)
   (Z.ao (Z.se (i:=5) bD.nd (Z.ct (Z.Dt K rfl) rfl T.sv (by decide +kernel) (Z.cons (Z.v 3) Z.nil)))
   (Z.aA (Z.ret (Z.ct (Z.b_ K rfl) rfl T.cc (by decide +kernel) (Z.cons (Z.rA (osc:=af cz) (ON:=["seed","many","most","found","at","left"]) (own:=["k"]) (N:=["k","seed","many","most","found","at","left"]) (aG.of rfl (by decide +kernel)) (Z.vW rfl T.fA (Z.cons (Z.cb (Z.cJ K rfl) rfl T.cy (by decide +kernel) (Z.cons (Z.v 3) Z.nil)) Z.nil)) (λnd _ _ _ _=>(Z.aT (i:=0) nd rfl (by right))) (λ_ _ _ _=>Z.lZ) (λ_ _ _ _=>(Z.bm K rfl PySem.F.plainAttrs_list PySem.F.slot_list_pop PySem.F.type_list_pop xa (Z.v 6) (Z.cons (Z.fc h_law_draw (Z.cons (Z.v 1) (Z.cons (Z.cb (Z.cJ K rfl) rfl T.cy (by decide +kernel) (Z.cons (Z.v 6) Z.nil)) Z.nil))) Z.nil)))) Z.nil)))))))),?_⟩
  refine ax λN hN=>?_;nofun;refine⟨by decide,λd hd=>?_⟩
  obtain⟨k1,s1⟩:=dF hd (.lst [.int 1,.int 1]);have D1:=D.k0 k1;generalize upd H d _=H1 at *;subst hN;refine ax λN hN=>?_;generalize hbody:q_ (jD (jt dE _ _ _) _) _=body;have ndp:=D.ne hd;refine⟨λc σ H'=>∃(l:List Nat) (d:Addr) (j:Nat) (o5:Option V),Pt l/\(∀x∈l,x<=mo)/\l.length<=m/\l.length=j+2/\c=m-l.length/\Sd H' p (n+j)/\KB [p] H H'/\d≠p/\H' d=some (.lst (iV (nZ l)))/\σ=[some (.ref p),some (.int (m:Nat)),some (.int (mo:Nat)),some (.ref d),o5,none],⟨_,[1,1],d,0,none,⟨by decide,by simp,.inr (by simp)⟩,by simp;lia,hm2,rfl,rfl,D1,k1.all,ndp,s1,rfl⟩,?_⟩
  rintro c σ H' ⟨l,d,j,o5,hp,hx,hlm,hj,rfl,DD,hk,ndp,gd,rfl⟩;exists az gd,cY;by_cases cl:(l.length:Int)<(m:Int)
  ·rw[JE cl];refine⟨λσ' H'=>∃m',m'<m-l.length/\∃(l:List Nat) (d:Addr) (j:Nat) (o5:Option V),Pt l/\(∀x∈l,x<=mo)/\l.length<=m/\l.length=j+2/\m'=m-l.length/\Sd H' p (n+j)/\KB [p] H H'/\d≠p/\H' d=some (.lst (iV (nZ l)))/\σ'=[some (.ref p),some (.int (m:Nat)),some (.int (mo:Nat)),some (.ref d),o5,none],λ_ _ h=>h,?_⟩;rw[<- hbody];clear hbody body;refine ax λM hM=>?_;exists az gd,cY;refine⟨p,_,_,rfl,DD,by lia,by lia,by lia,λa H2 ha D2 k2=>?_⟩
   have gd2:=k2 _ _ gd (by simpa using ndp)
   have la:a<l.length:=by lia
   have hk2:=hk.trans k2;rw[hM];clear hM M;refine ax λM hM=>?_;have go:∀(b:Nat) (hb:b<l.length),l[b]+1<=mo->M [some (.ref p),some (.int (m:Nat)),some (.int (mo:Nat)),some (.ref d),some (.int (b:Nat)),none] H2:=λb hb hlb=>by
    rw[hM];clear hM M;have ab:=mI (xs:=nZ l) (i:=b) (by rw[bp];exact hb)
    rw[show (nZ l)[b]'(by rw[bp];exact hb)=((l[b]:Nat):Int) by unfold nZ;rw[LA]] at ab
    refine yy λM hM=>?_;exists az gd2;intro q1 hq1;obtain⟨k3,s3⟩:=dF hq1 (.lst (dJ (iV (nZ l)) none (some (b:Int))));have gd3:=k3.n gd2;generalize upd H2 q1 _=H3 at *;exists az gd3,ab;refine⟨by decide,λq2 hq2=>?_⟩
    obtain⟨k4,s4⟩:=dF hq2 (.lst [.int ((l[b]:Int)+1),.int ((l[b]:Int)+1)]);have gd4:=k4.n gd3
    replace s3:=k4.n s3
    generalize upd H3 q2 _=H4 at *;simp only[s3];have ek:iV (nZ (l.take b++[l[b]+1,l[b]+1]))=dJ (iV (nZ l)) none (some (b:Int))++[V.int ((l[b]:Int)+1),.int ((l[b]:Int)+1)]:=by
     rw[iE];unfold iV nZ;simp
    rw[<- ek];have lt:(l.take b).length=b:=by rw[JT];lia
    refine⟨JF (show _<=100 by rw[iE,JT,cY];simp;lia) (by decide),λq3 hq3=>?_⟩
    obtain⟨k5,s5⟩:=dF hq3 (.lst (iV (nZ (l.take b++[l[b]+1,l[b]+1]))));have gd5:=k5.n gd4;generalize upd H4 q3 _=H5 at *;exists az gd5;intro q4 hq4;rw[show (b:Int)+1=((b+1:Nat):Int) from rfl,yL];obtain⟨k6,s6⟩:=dF hq4 (.lst ((iV (nZ l)).drop (b+1)))
    replace s5:=k6.n s5
    generalize upd H5 q4 _=H6 at *;simp only[s5];refine⟨JF (show _<=100 by rw[Ks,cY,cY,J5,lt];simp;lia) (by decide),λq5 hq5=>?_⟩
    rw[hM];have ef:iV (nZ (l.take b++[l[b]+1,l[b]+1]))++(iV (nZ l)).drop (b+1)=iV (nZ (l.take b++[l[b]+1,l[b]+1]++l.drop (b+1))):=by unfold iV nZ;simp
    rw[ef];have k26:=k3.trans (k4.trans (k5.trans k6));have pe:(l.take b++[l[b]+1,l[b]+1]++l.drop (b+1)).Perm ((l[b]+1)::(l[b]+1)::l.eraseIdx b):=by
     rw[Lk,JU];refine Mj.trans (List.Perm.cons _ ?_);exact Mj
    obtain⟨p3,l3⟩:=hp.next hb (by lia) pe
    have D6:=D2.k0 k26;refine⟨m-(l.length+1),by lia,_,q5,j+1,_,p3,λx hxm=>?_,by lia,by lia,by rw[l3],D6.k0 (KB.new hq5),hk2.trans (k26.all.trans (KB.new hq5)),D6.ne hq5,ae,rfl⟩
    rcases J9.mp (pe.mem_iff.mp hxm) with z|z
    ·lia
    ·rcases J9.mp z with z|z
     ·lia
     ·exact hx x ((List.eraseIdx_sublist ..).subset z)
   refine CN λA B hA hB=>?_;have aa:=mI (xs:=nZ l) (i:=a) (by rw[bp];exact la)
   rw[show (nZ l)[a]'(by rw[bp];exact la)=((l[a]:Nat):Int) by unfold nZ;rw[LA]] at aa
   exists az gd2,aa;by_cases cA:(mo:Int)-1<=(l[a]:Int)
   ·rw[JE cA,hA];nofun;refine⟨.inl ⟨rfl,_,bI.of gd2⟩,d,nZ l,rfl,.inr (bI.of gd2),by rw[bp];lia,λmn hm1 hm2=>?_⟩
    obtain⟨i1,i2⟩:=qY hm1;refine⟨d,nZ l,mn,_,rfl,gd2,rfl,i1,i2,?_⟩;have hb:(nZ l).idxOf mn<l.length:=by have:=(J6.mp i1).1;rwa [bp] at this
    refine go _ hb ?_;have eb:((l[(nZ l).idxOf mn]:Nat):Int)=mn:=by
     obtain⟨h',e'⟩:=J6.mp i1;rw[<- D_ hb];exact e'
    have lw:∀x∈l,l[(nZ l).idxOf mn]<=x:=λx hx=>by
     have:=hm2 (x:Int) (Ki.mpr ⟨x,hx,rfl⟩);lia
    have e:=hp.ks;have:=Kr.zy (L:=40) (d:=l[(nZ l).idxOf mn]) lw;rcases Kx l[(nZ l).idxOf mn] mo with z|z
    ·exact z
    ·exfalso
     have hle:=hx _ (JN hb);have ez:l[(nZ l).idxOf mn]=mo:=by lia
     rw[ez,e] at this;have p1:2^40=2^mo*2^(40-mo):=by rw[<- Nv];congr 1;lia
     have p2:l.length*2^(40-mo)<2^mo*2^(40-mo):=Nat.mul_lt_mul_of_pos_right (by lia) (Ol (by decide))
     lia
   ·rw[JA cA,hB];exact go a la (by lia)
  ·rw[JA cl];have elm:l.length=m:=by lia
   rw[hN];clear hN N hbody body cl;refine ax λN hN=>?_;have go:∀(l:List Nat) (d:Addr) (G:Hp) (t:Nat),l.length=m->(∀x∈l,1<=x/\x<=mo)->Kr.ks 40 l<=2^40->Sd G p (n+40+t)->t<=3->KB [p] H G->d≠p->G d=some (.lst (iV (nZ l)))->N [some (.ref p),some (.int (m:Nat)),some (.int (mo:Nat)),some (.ref d),o5,none] G:=λl d G t elm hx1 hks DG ht kG ndp gd=>by
    rw[hN];clear hN N;refine ax λN hN=>?_;exists az gd;refine⟨d,_,rfl,.inl (bI.of gd),λlf hlf=>?_⟩;obtain⟨k9,s9⟩:=dF hlf (.lst (iV (nZ l)));have gd9:=k9.n gd;have D9:=DG.k0 k9;have n9:=DG.ne hlf;generalize upd G lf _=G9 at *;rw[hN];clear hN N;exists az gd9,cY;refine⟨by lia,by lia,?_⟩
    rw[Kb];have kG9:=kG.trans k9.all;refine d5 (JF (show l.length<=17 by lia) (by decide)) (λD i ys G'=>G9 D=none/\G' D=some (.lst ys)/\i<=l.length/\Sd G' p (n+40+t+i)/\KB [p,lf] G9 G'/\∃l2 r:List Nat,G' lf=some (.lst (iV (nZ r)))/\ys=iV (nZ l2)/\l2.length=i/\(l2++r).Perm l) (λD hD=>⟨hD,ae,JL _,D9.k0 (KB.new hD),KB.new hD,[],l,(KB.new (ex:=[]) hD).n s9,rfl,rfl,List.Perm.refl _⟩) (λD i ys G' h=>⟨h.2.1,by obtain⟨_,_,_,_,_,l2,r,_,rfl,e,_⟩:=h;rw[cY,e]⟩) ?_ ?_
    ·rintro D i ys G' R hi ⟨g0,g1,gi,gD,gk,l2,r,gr,rfl,e1,pe⟩ kk;have hrl:i+r.length=l.length:=by rw[<- pe.length_eq,J5,e1]
     have nD:=D9.ne g0;have nDl:D≠lf:=λz=>by rw[z,s9] at g0;cases g0
     exists az gr,cY;refine⟨.inl ⟨rfl,_,bI.of gr⟩,p,_,_,rfl,gD,by lia,by lia,by lia,λa G2 ha D2 k2=>?_⟩
     have ha':a<r.length:=by lia
     have gr2:=k2 _ _ gr (by simpa using n9)
     have gy2:=k2 _ _ g1 (by simpa using nD)
     have six:seqIndex? (a:Int) (iV (nZ r)).length=some a:=by
      rw[cY];unfold seqIndex?;simp;lia
     have enZ:(iV (nZ r))[a]?=some (.int ((r[a]:Nat):Int)):=by unfold iV nZ;rw[JC,JC,Jx ha'];rfl
     refine⟨lf,_,_,a,_,rfl,rfl,gr2,by lia,by lia,six,enZ,?_⟩
     rw[FU];have gy3:upd G2 lf (.lst (iV (nZ (r.eraseIdx a)))) D=some (.lst (iV (nZ l2))):=by rw[aj nDl];exact gy2
     refine kk _ _ gy3 ⟨g0,ae,hi,((D2.kb (KB.set (ex:=[lf]) (by simp)) (by simpa using n9.symm)).kb (KB.set (ex:=[D]) (by simp)) (by simpa using nD.symm)),λu o e z=>?_,l2++[r[a]],r.eraseIdx a,?_,by unfold nZ;rw[JR,eO];rfl,by rw[J5,e1];rfl,?_⟩
     ·have z':u∉[p]/\u≠lf:=by
       simp only[J9,J_,KA,not_or] at z;exact⟨by simpa using z.1,z.2⟩
      rw[aj (aq e g0),aj z'.2];exact k2 _ _ (gk _ _ e z) z'.1
     ·rw[aj nDl.symm];exact ae
     ·refine List.Perm.trans ?_ pe;rw[JU];refine List.Perm.append_left l2 ?_;rw[MV,Lk];have e2:=Oo ha';refine (Mj (l₁:=r.take a) (l₂:=r.drop (a+1)) (a:=r[a])).symm.trans ?_;rw[e2,Lg]
    ·rintro D ys G' ⟨g0,g1,gi,gD,gk,l2,r,gr,rfl,e1,pe⟩;exists az g1;intro b hb;have hr0:r=[]:=by
      have:=pe.length_eq;rw[J5,e1] at this;exact KU.mp (by lia)
     rw[hr0,Kp] at pe;have kb:=KB.new (ex:=[]) (o:=.tup (iV (nZ l2))) hb;refine q (nZ l2) b _ ((gD.k0 kb).mono (by lia)) (λu o e z=>?_) ae (by rw[bp,e1,elm]) ⟨by rw[bp];lia,by rw[bp];lia,λx hxm=>?_⟩ (DV (by rw[Kr.gR pe];exact hks))
     ·exact kb.n (gk _ _ (kG9 _ _ e z) (by simp only[J9,J_,KA,not_or] at z ⊢;exact⟨z,λy=>by
       have:=kG _ _ e (by simpa using z)
       rw[y,hlf] at this;cases this⟩))
     ·obtain⟨y,hy,rfl⟩:=Ki.mp hxm;have:=hx1 y (pe.mem_iff.mp hy);lia
   have h1:∀x∈l,1<=x/\x<=mo:=λx hxm=>⟨by
    rcases hp.one with e|e
    ·rw[e] at elm;simp at elm;lia
    ·exact e x hxm,hx x hxm⟩
   refine CN λA B hA hB=>?_;nofun;refine⟨p,3,_,rfl,DD,by lia,by decide,by decide,λv H2 hv D2 k2=>?_⟩
   have gd2:=k2 _ _ gd (by simpa using ndp)
   nofun;by_cases c0:(v:Int)=0
   ·rw[JE c0,hA];exists az gd2;refine ib (xs:=iV (nZ l)) (JF (show _<=17 by rw[cY];lia) (by decide)) (λD i ys G=>H2 D=none/\G D=some (.lst ys)/\Sd G p (n+j+1+i)/\KB [p] H2 G/\i<=l.length/\∃l2:List Nat,ys=iV (nZ l2)/\l2.length=i/\(∀x∈l2,1<=x/\x<=mo)/\Kr.ks 40 l2<=Kr.ks 40 (l.take i)) (λD hD=>⟨hD,ae,D2.k0 (KB.new hD),KB.new hD,JL _,[],rfl,rfl,λx hx=>absurd hx J_,JD _⟩) (λD i ys G h=>⟨h.2.1,by obtain⟨_,_,_,_,_,l2,rfl,e,_⟩:=h;rw[cY,e]⟩) (λD i ys G h=>bI.of (h.2.2.2.1 _ _ gd2 (by simpa using ndp))) ?_ ?_
    ·rintro D i ys G x R ex ⟨g0,g1,gD,gk,gi,l2,rfl,e1,e2,e3⟩ kk;obtain⟨hi,rfl⟩:=lT ex;rw[bp] at hi;have nD:=D2.ne g0;rw[show (nZ l)[i]'(by rw[bp];exact hi)=((l[i]:Nat):Int) by unfold nZ;rw[LA]]
     have hli:=h1 _ (JN hi);nofun;refine⟨p,3,_,rfl,gD,by lia,by decide,by decide,λu G2 hu2 D3 k3=>?_⟩
     nofun;have hk1:=k3 _ _ g1 (by simpa using nD)
     obtain⟨y,ey,hy1,hy2⟩:∃y:Nat,(if (l[i]:Int)+(u:Int)<(mo:Int) then (l[i]:Int)+(u:Int) else (mo:Int))=((y:Nat):Int)/\l[i]<=y/\y<=mo:=⟨min (l[i]+u) mo,by split<;>lia,by lia,by lia⟩
     rw[ey];refine kk _ _ hk1 ⟨g0,ae,(D3.kb (KB.set (ex:=[D]) (by simp)) (by simpa using nD.symm)).mono (by lia),λb o e z=>by rw[aj (aq e g0)];exact k3 _ _ (gk _ _ e z) z,hi,l2++[y],by unfold nZ;rw[JR,eO];rfl,by rw[J5,e1];rfl,λx hx=>?_,?_⟩
     ·rcases K0.mp hx with h|h
      ·exact e2 x h
      ·rw[JQ.mp h];exact⟨by lia,hy2⟩
     ·rw[Ko,Jx hi,Kr.cE];show _<=Kr.ks 40 (l.take i++[l[i]]);rw[Kr.cE];have:2^(40-y)<=2^(40-l[i]):=Mo (by decide) (by lia)
      simp only[Kr.ks];lia
    ·rintro D ys G ⟨g0,g1,gD,gk,gi,l2,rfl,e1,e2,e3⟩;rw[cY] at e1 e3 gD;rw[Kq,hp.ks] at e3;exact go l2 D G 0 (by lia) e2 e3 (gD.mono (by lia)) (by lia) (hk.trans (k2.trans gk)) (D2.ne g0) g1
   ·rw[JA c0,hB];exact go l d H2 0 elm h1 (O8 hp.ks) (D2.mono (by lia)) (by lia) (hk.trans k2) ndp gd2
noncomputable def uk:Sp:=λvs H Q _=>∃(p:Addr) (n:Nat),vs=[.ref p]/\Sd H p n/\n<2^27/\∀(bk:List (List Int)) (b:Addr) H',Sd H' p (n+200)->KB [p] H H'->u5 H' b bk->Bk bk->Q (.ref b) H'
theorem zu(T:Txt K mg)(F:HasFn K mg "_law_book" gc ["seed"])(h_law_draw:au P w K mg base aY 1 "_law_draw" ["seed","most"] dE)(h_law_lengths:au P w K mg base aY 2 "_law_lengths" ["seed","many","most"] tD):au P w K mg base aY 3 "_law_book" ["seed"] uk:=by
 refine F.eW iO (λvs H Q E h=>?_) (λf cdv A outer s H vs Q E hr h=>?_)
 ·obtain⟨p,n,rfl,_⟩:=h;rfl
 ·have hu:=aP hr;obtain⟨p,n,rfl,D,hn,q⟩:=h;refine⟨_,(Z.ao (Z.se (i:=1) iO.nd (Z.ix (Z.aM K rfl hu) (Z.lst (Z.consts rfl)) (Z.fc h_law_draw (Z.cons (Z.v 0) (Z.cons Z.int Z.nil)))))
   (Z.aA (Z.ret (Z.tup (Z.cons (Z.fc h_law_lengths (Z.cons (Z.v 0) (Z.cons Z.int (Z.cons (Z.v 1) Z.nil)))) (Z.cons (Z.fc h_law_lengths (Z.cons (Z.v 0) (Z.cons Z.int (Z.cons (Z.cb (jm rfl) rfl T.xB (by decide +kernel) (Z.cons Z.int (Z.cons (Z.v 1) Z.nil))) Z.nil)))) (Z.cons (Z.fc h_law_lengths (Z.cons (Z.v 0) (Z.cons Z.int (Z.cons (Z.v 1) Z.nil)))) Z.nil))))))),?_⟩
  refine ax λN hN=>?_;nofun;refine⟨by decide,λl hl=>?_⟩
  obtain⟨k1,s1⟩:=dF hl (.lst [.int 5,.int 12,.int 20]);have D1:=D.k0 k1;have nl:=D.ne hl;generalize upd H l _=H1 at *;refine⟨p,3,n,rfl,D1,by lia,by decide,by decide,λv H2 hv D2 k2=>?_⟩
  obtain⟨mo,h5,h6,h7,em⟩:∃mo:Nat,5<=mo/\mo<=20/\(if (mo:Int) > 6 then (mo:Int) else 6)=((max 6 mo:Nat):Int)/\bV [V.int 5,.int 12,.int 20] (v:Int)=some (.int (mo:Nat)):=by
   rcases (show v=0\/v=1\/v=2 by lia) with rfl|rfl|rfl
   ·exact⟨5,by decide,by decide,rfl,rfl⟩
   ·exact⟨12,by decide,by decide,rfl,rfl⟩
   ·exact⟨20,by decide,by decide,rfl,rfl⟩
  exists az (k2 _ _ s1 (by simpa using nl)),em
  rw[hN];clear hN N;have k02:KB [p] H H2:=k1.all.trans k2;have p5:32<=2^mo:=JF (show 32<=2^5 by decide) (Mo (by decide) h5)
  have p6:64<=2^max 6 mo:=JF (show 64<=2^6 by decide) (Mo (by decide) (by lia))
  nofun;refine⟨p,9,mo,_,rfl,D2,by lia,by decide,by decide,by lia,by lia,h6,λl0 a0 H3 D3 k3 e0 m0 n0 o0=>?_⟩
  dsimp only;rw[h7];refine⟨p,17,max 6 mo,_,rfl,D3,by lia,by decide,by decide,by lia,by lia,by lia,λl1 a1 H4 D4 k4 e1 m1 n1 o1=>?_⟩
  refine⟨p,8,mo,_,rfl,D4,by lia,by decide,by decide,by lia,by lia,h6,λl2 a2 H5 D5 k5 e2 m2 n2 o2=>⟨by decide,λt ht=>?_⟩⟩
  have kt:=KB.new (ex:=[]) (o:=.tup [.ref a0,.ref a1,.ref a2]) ht;refine q [l0,l1,l2] t _ ((D5.k0 kt).mono (by lia)) (k02.trans (k3.trans (k4.trans (k5.trans kt.all)))) ⟨[a0,a1,a2],ae,rfl,λj a e=>?_⟩ ⟨l0,l1,l2,rfl,m0,m1,m2,λl hl=>?_⟩
  ·have hj:j<3:=(J6.mp e).1;rcases mh hj with rfl|rfl|rfl
   ·cases e;exact kt.n (D4.tup k5 (D3.tup k4 e0))
   ·cases e;exact kt.n (D4.tup k5 e1)
   ·cases e;exact kt.n e2
  ·simp only[J9,J_,KA] at hl;rcases hl with rfl|rfl|rfl
   ·exact⟨n0,o0⟩
   ·exact⟨n1,o1⟩
   ·exact⟨n2,o2⟩
theorem Di:200000<=sizeLine:=by decide
noncomputable def CA:List Key:=[.inr "a",.inr "b",.inr "c",.inr "d",.inr "e",.inr "f",.inr "g",.inr "h"]
structure hV where
 given:List Int
 heard:Nat
 told:List Int
 bs:List Int
structure MA where
 m:Addr
 dx:Addr
 gv:Addr
 tl:Addr
 bx:Addr
noncomputable def yF(a:MA)(h:Nat):List (Str×V):=[("given",.ref a.gv),("heard",.int (h:Nat)),("told",.ref a.tl),("boxes",.ref a.bx)]
structure MS (K:W.Frag) (C:Addr) (H:Hp) (a:MA) (st:hV):Prop where
 om:H a.m=some (.ins C a.dx (yF a st.heard))
 od:H a.dx=some (.own a.m)
 og:H a.gv=some (.tup (iV st.given))
 ot:H a.tl=some (.lst (iV st.told))
 ob:H a.bx=some (.dK (CA.zip (iV st.bs)))
 l8:st.bs.length=8
 hh:st.heard<=st.given.length
noncomputable def MF(a:MA):List Addr:=[a.m,a.tl,a.bx]
theorem qk(a:MA)(h:Nat):(yF a h).lookup ("given":Str)=some (.ref a.gv):=rfl
theorem lp(a:MA)(h:Nat):(yF a h).lookup ("heard":Str)=some (.int (h:Nat)):=rfl
theorem sP(a:MA)(h:Nat):(yF a h).lookup ("told":Str)=some (.ref a.tl):=rfl
theorem e_(a:MA)(h:Nat):(yF a h).lookup ("boxes":Str)=some (.ref a.bx):=rfl
theorem vK(a:MA)(h k:Nat):dD "heard" (.int (k:Nat)) (yF a h)=yF a k:=rfl
theorem MS.ne1{a:MA}{st:hV}(M:MS K C H a st):a.tl≠a.m/\a.bx≠a.m/\a.gv≠a.m/\a.dx≠a.m/\a.bx≠a.tl/\a.gv≠a.tl/\a.dx≠a.tl/\a.gv≠a.bx/\a.dx≠a.bx:=by
 have h1:=M.om;have h2:=M.od;have h3:=M.og;have h4:=M.ot;have h5:=M.ob;have ap:∀{x y:Addr} {o o':HO},H x=some o->H y=some o'->o≠o'->x≠y:=λh h' n e=>n (by rw[e] at h;exact Option.some.inj (h.symm.trans h'))
 exact⟨ap h4 h1 (by simp),ap h5 h1 (by simp),ap h3 h1 (by simp),ap h2 h1 (by simp),ap h5 h4 (by simp),ap h3 h4 (by simp),ap h2 h4 (by simp),ap h3 h5 (by simp),ap h2 h5 (by simp)⟩
noncomputable def tM(K:W.Frag)(C:Addr):Sp:=λvs H Q _=>∃(a:MA) (st:hV),vs=[.ref a.m]/\MS K C H a st /\
 (st.given.length<=st.heard->Q (.int 0) H)/\∀x,st.given[st.heard]?=some x->∀H',MS K C H' a {st with heard:=st.heard+1}->KB (MF a) H H'->Q (.int x) H'
theorem oK(T:Txt K mg)(cM:lV K C)(na_given:bK K C "given")(na_heard:bK K C "heard")(F:lW K "heard_number" "Machine.heard_number" aI f fd):cN P w K mg base aY 1 f fd ["self"] (tM K C):=by
 refine F.ok ff (λvs H Q E h=>?_) (λcdv A outer s H vs Q E hr h=>?_)
 ·obtain⟨a,st,rfl,_⟩:=h;rfl
 ·obtain⟨a,st,rfl,M,q1,q2⟩:=h;have hu:=aP hr;have key:∃t,QB (fS aY P w K mg base ["self"] "Machine.heard_number" (af aI) f cdv A outer s H E).qG (aU aI) t/\t {nx:=λ_ H'=>Q .aR H',rt:=Q} (start ["self"] [.ref a.m]) H:=by
   refine⟨_,(Z.ao (Z.dA (Z.aZ p9 (Z.fld K rfl (Z.v 0)) (Z.cb (Z.cJ K rfl) rfl T.cy (by decide +kernel) (Z.cons (Z.fld K rfl (Z.v 0)) Z.nil))) (Z.aA (Z.ret Z.int)) Z.bH)
   (Z.ao (Z.yO K rfl (Z.v 0) (Z.op (Z.bf K rfl) (Z.fld K rfl (Z.v 0)) Z.int))
   (Z.aA (Z.ret (Z.ix (Z.aM K rfl hu) (Z.fld K rfl (Z.v 0)) (Z.op cK (Z.fld K rfl (Z.v 0)) Z.int)))))),?_⟩
   have e1:sq H a.gv=some (false,iV st.given):=aC M.og;have hl:(iV st.given).length=st.given.length:=Jz ..;refine ax λN hN=>?_;nofun;refine⟨a.m,C,a.dx,_,_,rfl,M.om,cM,na_heard,lp a _,a.m,C,a.dx,_,_,rfl,M.om,cM,na_given,qk a _,?_⟩;simp only[L2.Ap.zW,e1,hl];nofun;by_cases h1:st.given.length<=st.heard
   ·rw[JE (by omega)]
    exact q1 h1
   ·rw[JA (by omega),hN];clear hN N
    have h2:st.heard<st.given.length:=by omega
    obtain⟨n1,n2,n3,n4,n5,n6,n7,n8,n9⟩:=M.ne1;have M':MS K C (upd H a.m (.ins C a.dx (yF a (st.heard+1)))) a {st with heard:=st.heard+1}:=⟨ae,by rw[aj n4];exact M.od,by rw[aj n3];exact M.og,by rw[aj n1];exact M.ot,by rw[aj n2];exact M.ob,M.l8,h2⟩
    refine ax λN hN=>?_;nofun;refine⟨a.m,C,a.dx,_,_,rfl,M.om,cM,na_heard,lp a _,?_⟩;nofun;refine⟨a.m,C,a.dx,_,rfl,M.om,cM,na_heard,(show 4<1000 by decide),?_⟩
    rw[show ((st.heard:Nat):Int)+1=((st.heard+1:Nat):Int) from rfl,vK,hN];clear hN N;nofun;refine⟨a.m,C,a.dx,_,_,rfl,M'.om,cM,na_given,qk a _,a.m,C,a.dx,_,_,rfl,M'.om,cM,na_heard,lp a _,?_⟩;have e2:sq (upd H a.m (.ins C a.dx (yF a (st.heard+1)))) a.gv=some (false,iV st.given):=aC M'.og;have e3:bV (iV st.given) (((st.heard+1:Nat):Int)-1)=some (V.int st.given[st.heard]):=by
     rw[show ((st.heard+1:Nat):Int)-1=((st.heard:Nat):Int) by omega]
     exact bq (by unfold iV;rw[JC,Jx h2];rfl)
    simp only[L2.Ap.v_,L2.Ap.fL,e2,e3];exact q2 _ (Jx h2) _ M' (KB.set (by unfold MF;simp))
  obtain⟨t,hb,ht⟩:=key;exact⟨t,hb.h,ht⟩
noncomputable def uD(bs:List Int)(b:Nat):Int:=bs[b]?.getD 0
theorem sC:∀(b:Nat),b<8->∀bs:List Int,bs.length=8->fB (CA.zip (iV bs)) (.inr (cx b))=some (.int (uD bs b)):=by
 intro b hb bs hl;obtain⟨x0,x1,x2,x3,x4,x5,x6,x7,rfl⟩:=HH hl;rcases DY hb with rfl|rfl|rfl|rfl|rfl|rfl|rfl|rfl<;>rfl
theorem FE:∀(b:Nat),b<8->∀(bs:List Int) (x:Int),bs.length=8->putK (CA.zip (iV bs)) (.inr (cx b)) (.int x)=CA.zip (iV (bs.set b x)):=by
 intro b hb bs x hl;obtain⟨x0,x1,x2,x3,x4,x5,x6,x7,rfl⟩:=HH hl;rcases DY hb with rfl|rfl|rfl|rfl|rfl|rfl|rfl|rfl<;>rfl
noncomputable def de(st:hV):Int×hV:=match st.given[st.heard]? with
 |some x=>(x,{st with heard:=st.heard+1})
 |none=>(0,st)
noncomputable def cu(st:hV):d6->Int×hV
 |.put _ n=>((n:Nat),st)
 |.two w a b=>((match w with
  |0=>(uD st.bs a+uD st.bs b) % 65536
  |1=>(uD st.bs a-uD st.bs b) % 65536
  |2=>uD st.bs b % 65536),st)
 |.one _ _=>((de st).1 % 65536,(de st).2)
 |_=>(0,st)
noncomputable def isNum:d6->Bool
 |.put _ _=>true
 |.two _ _ _=>true
 |.one 1 _=>true
 |_=>false
noncomputable def C_(K:W.Frag)(C:Addr):Sp:=λvs H Q _=>∃(a:MA) (st:hV) (p:Addr) (r:d6),vs=[.ref a.m,.ref p]/\MS K C H a st/\H p=some (.tup r.vs)/\r.Ok/\isNum r=true /\
 ∀H',MS K C H' a (cu st r).2->KB (MF a) H H'->Q (.int (cu st r).1) H'
theorem yv{fh:Addr}{d_heard_number:FuncData}(T:Txt K mg)(cM:lV K C)(na_boxes:bK K C "boxes")(mm_heard_number:Meth K C "heard_number" fh)(bm_heard_number:Binds K d_heard_number ["self"] [])(FO_heard_number:cN P w K mg base aY 1 fh d_heard_number ["self"] (tM K C))(F:lW K "number_for" "Machine.number_for" aK f fd):cN P w K mg base aY 2 f fd ["self","row"] (C_ K C):=by
 obtain⟨u_WHOLE,hg_WHOLE,hr_WHOLE⟩:=T.Bv;refine F.ok bL (λvs H Q E h=>?_) (λcdv A outer s H vs Q E hr h=>?_)
 ·obtain⟨a,st,p,r,rfl,_⟩:=h;rfl
 ·obtain⟨a,st,p,r,rfl,M,hp,aQ,hi,q⟩:=h;have hu:=aP hr;have key:∃t,QB (fS aY P w K mg base ["self","row","word","old","other"] "Machine.number_for" (af aK) f cdv A outer s H E).qG (aU aK) t/\t {nx:=λ_ H'=>Q .aR H',rt:=Q} (start ["self","row","word","old","other"] [.ref a.m,.ref p]) H:=by
   refine⟨_,(Z.ao (Z.se (i:=2) bL.nd (Z.ix (Z.aM K rfl hu) (Z.v 1) Z.int))
   (Z.ao (Z.dA (Z.aZ bC (Z.v 2) Z.str) (Z.aA (Z.ret (Z.ix (Z.aM K rfl hu) (Z.v 1) Z.int))) Z.bH)
   (Z.ao (Z.dA (Z.aZ bC (Z.v 2) Z.str) (Z.aA (Z.ret (Z.op e8 (Z.p_ K rfl (Z.v 0) cM mm_heard_number FO_heard_number (hr.mono (by decide)) bm_heard_number fQ) (Z.glob rfl hg_WHOLE hr_WHOLE)))) Z.bH)
   (Z.ao (Z.se (i:=3) bL.nd (Z.vv hu (Z.fld K rfl (Z.v 0)) (Z.ix (Z.aM K rfl hu) (Z.v 1) Z.int)))
   (Z.ao (Z.se (i:=4) bL.nd (Z.vv hu (Z.fld K rfl (Z.v 0)) (Z.ix (Z.aM K rfl hu) (Z.v 1) Z.int)))
   (Z.ao (Z.dA (Z.aZ bC (Z.v 2) Z.str) (Z.aA (Z.ret (Z.op e8 (Z.op (Z.bf K rfl) (Z.v 3) (Z.v 4)) (Z.glob rfl hg_WHOLE hr_WHOLE)))) Z.bH)
   (Z.ao (Z.dA (Z.aZ bC (Z.v 2) Z.str) (Z.aA (Z.ret (Z.op e8 (Z.op cK (Z.v 3) (Z.v 4)) (Z.glob rfl hg_WHOLE hr_WHOLE)))) Z.bH)
   (Z.aA (Z.ret (Z.op e8 (Z.v 4) (Z.glob rfl hg_WHOLE hr_WHOLE))))))))))),?_⟩
   have e1:sq H p=some (false,r.vs):=aC hp;refine ax λN hN=>?_;nofun;simp only[L2.Ap.fL,e1];have dg:∀b,b<8->jB H a.bx (.str (cx b)) (some (.int (uD st.bs b))):=λb hb=>.inl ⟨_,.inr (cx b),.inl M.ob,rfl,(sC b hb st.bs M.l8).symm⟩;have sD:∀{x y:Str} {P1 P2:Prop},x≠y->P2->(if x=y then P1 else P2):=λh h2=>by rw[JA h];exact h2
   cases r with
   |put b n =>
    show N [some (.ref a.m),some (.ref p),some (.str "put"),none,none] H;rw[hN];clear hN N;refine ax λN hN=>?_;nofun;simp only[L2.Ap.fL,e1];exact q H M (KB.refl _ _)
   |two u b c =>
    show N [some (.ref a.m),some (.ref p),some (.str (w2 u)),none,none] H;have hput:w2 u≠"put":=(show ∀u,w2 u≠"put" by decide +kernel) u
    have hhear:w2 u≠"hear":=(show ∀u,w2 u≠"hear" by decide +kernel) u
    rw[hN];clear hN N;refine ax λN hN=>?_;nofun;refine sD hput ?_;rw[hN];clear hN N;refine ax λN hN=>?_;nofun;refine sD hhear ?_;rw[hN];clear hN N;refine ax λN hN=>?_;nofun;refine⟨a.m,C,a.dx,_,_,rfl,M.om,cM,na_boxes,e_ a _,?_⟩;simp only[L2.Ap.fL,e1];refine⟨a.bx,_,rfl,dg b aQ.1,?_⟩;rw[hN];clear hN N;refine ax λN hN=>?_;nofun;refine⟨a.m,C,a.dx,_,_,rfl,M.om,cM,na_boxes,e_ a _,?_⟩;simp only[L2.Ap.fL,e1];refine⟨a.bx,_,rfl,dg c aQ.2,?_⟩;rw[hN];clear hN N;have fin:=q H M (KB.refl _ _);have hs:w2 1="sub":=rfl;refine ax λN hN=>?_;nofun;rcases Fj u with rfl|rfl|rfl
    ·rw[JE (show w2 0="add" from rfl)];exact⟨by decide,fin⟩
    ·refine sD (by decide +kernel) ?_
     rw[hN];clear hN N;refine ax λN hN=>?_;nofun;rw[JE (show w2 1="sub" from rfl)];exact⟨by decide,fin⟩
    ·refine sD (by decide +kernel) ?_
     rw[hN];clear hN N;refine ax λN hN=>?_;nofun;refine sD (by decide +kernel) ?_
     rw[hN];clear hN N;nofun;exact⟨by decide,fin⟩
   |one u b =>
    have hu1:u=1:=by
     rcases nA u with h|h
     ·rw[h] at hi;cases hi
     ·exact h
    subst hu1;show N [some (.ref a.m),some (.ref p),some (.str "hear"),none,none] H;rw[hN];clear hN N;refine ax λN hN=>?_;nofun;refine sD (by decide +kernel) ?_
    rw[hN];clear hN N;refine ax λN hN=>?_;nofun;refine⟨a.m,a.dx,_,rfl,M.om,rfl,a,st,rfl,M,λh=>?_,λx hx H' M' kb=>?_⟩
    ·have e0:de st=(0,st):=by unfold de;rw[Lh.mpr h]
     have e2:cu st (.one 1 b)=(0 % 65536,st):=by unfold cu;rw[e0]
     rw[e2] at q;nofun;exact⟨by decide,q H M (KB.refl _ _)⟩
    ·have e0:de st=(x,{st with heard:=st.heard+1}):=by unfold de;rw[hx]
     have e2:cu st (.one 1 b)=(x % 65536,{st with heard:=st.heard+1}):=by unfold cu;rw[e0]
     rw[e2] at q;nofun;exact⟨by decide,q H' M' kb⟩
   |jump g=>cases hi
   |zero b g=>cases hi
   |halt=>cases hi
  obtain⟨t,hb,ht⟩:=key;exact⟨t,hb.h,ht⟩
noncomputable def carry(st:hV):d6->Bool×hV
 |.jump _=>(true,st)
 |.zero b _=>(decide (uD st.bs b=0),st)
 |.one 0 b=>(false,{st with told:=st.told++[uD st.bs b]})
 |.halt=>(false,st)
 |.put b n=>(false,{(cu st (.put b n)).2 with bs:=(cu st (.put b n)).2.bs.set b (cu st (.put b n)).1})
 |.two w a b=>(false,{(cu st (.two w a b)).2 with bs:=(cu st (.two w a b)).2.bs.set a (cu st (.two w a b)).1})
 |.one 1 b=>(false,{(cu st (.one 1 b)).2 with bs:=(cu st (.one 1 b)).2.bs.set b (cu st (.one 1 b)).1})
noncomputable def ug(K:W.Frag)(C:Addr):Sp:=λvs H Q _=>∃(a:MA) (st:hV) (p:Addr) (r:d6),vs=[.ref a.m,.ref p]/\MS K C H a st/\H p=some (.tup r.vs)/\r.Ok/\st.told.length<100000 /\
 ∀H',MS K C H' a (carry st r).2->KB (MF a) H H'->Q (.bl (carry st r).1) H'
theorem pS{fn:Addr}{d_number_for:FuncData}(T:Txt K mg)(cM:lV K C)(na_boxes:bK K C "boxes")(na_told:bK K C "told")(mm_number_for:Meth K C "number_for" fn)(bm_number_for:Binds K d_number_for ["self","row"] [])(FO_number_for:cN P w K mg base aY 2 fn d_number_for ["self","row"] (C_ K C))(F:lW K "carry_out" "Machine.carry_out" aN f fd):cN P w K mg base aY 3 f fd ["self","row"] (ug K C):=by
 refine F.ok d9 (λvs H Q E h=>?_) (λcdv A outer s H vs Q E hr h=>?_)
 ·obtain⟨a,st,p,r,rfl,_⟩:=h;rfl
 ·obtain⟨a,st,p,r,rfl,M,hp,aQ,htl,q⟩:=h;have hu:=aP hr;have key:∃t,QB (fS aY P w K mg base ["self","row","word"] "Machine.carry_out" (af aN) f cdv A outer s H E).qG (aU aN) t/\t {nx:=λ_ H'=>Q .aR H',rt:=Q} (start ["self","row","word"] [.ref a.m,.ref p]) H:=by
   refine⟨_,(Z.ao (Z.se (i:=2) d9.nd (Z.ix (Z.aM K rfl hu) (Z.v 1) Z.int))
   (Z.ao (Z.dA (Z.aZ bC (Z.v 2) Z.str) (Z.aA (Z.ret Z.bl)) Z.bH)
   (Z.ao (Z.dA (Z.aZ bC (Z.v 2) Z.str) (Z.aA (Z.ret (Z.cmp bC (Z.vv hu (Z.fld K rfl (Z.v 0)) (Z.ix (Z.aM K rfl hu) (Z.v 1) Z.int)) Z.int))) Z.bH)
   (Z.ao (Z.dA (Z.aZ bC (Z.v 2) Z.str) (Z.aA (Z.expr (Z.app K (Z.fld K rfl (Z.v 0)) (Z.cons (Z.vv hu (Z.fld K rfl (Z.v 0)) (Z.ix (Z.aM K rfl hu) (Z.v 1) Z.int)) Z.nil)))) (Z.aA (Z.dA (Z.aZ zm (Z.v 2) Z.str) (Z.aA (Z.dput hu (Z.fld K rfl (Z.v 0)) (Z.ix (Z.aM K rfl hu) (Z.v 1) Z.int) (Z.B5 K rfl (Z.v 0) cM mm_number_for FO_number_for (hr.mono (by decide)) bm_number_for fQ (Z.cons (Z.v 1) Z.nil)))) Z.bH)))
   (Z.aA (Z.ret Z.bl)))))),?_⟩
   have e1:sq H p=some (false,r.vs):=aC hp;obtain⟨n1,n2,n3,n4,n5,n6,n7,n8,n9⟩:=M.ne1;refine ax λN hN=>?_;nofun;simp only[L2.Ap.fL,e1];have dg:∀b,b<8->jB H a.bx (.str (cx b)) (some (.int (uD st.bs b))):=λb hb=>.inl ⟨_,.inr (cx b),.inl M.ob,rfl,(sC b hb st.bs M.l8).symm⟩;have sD:∀{x y:Str} {P1 P2:Prop},x≠y->P2->(if x=y then P1 else P2):=λh h2=>by rw[JA h];exact h2
   have go:∀(r':d6) (wd:Str) (b:Nat),r.vs=.str wd::.str (cx b)::(r.vs.drop 2)->b<8->isNum r=true->wd≠"jump"->wd≠"zero"->wd≠"tell"->wd≠"halt"->carry st r=(false,{(cu st r).2 with bs:=(cu st r).2.bs.set b (cu st r).1})->N [some (.ref a.m),some (.ref p),some (.str wd)] H:=by
    intro r' wd b ev hb hi w1 w2 w3 w4 ec;rw[hN];clear hN N;refine ax λN hN=>?_;nofun;refine sD w1 ?_;rw[hN];clear hN N;refine ax λN hN=>?_;nofun;refine sD w2 ?_;rw[hN];clear hN N;refine ax λN hN=>?_;nofun;refine sD w3 ?_;rw[JE (show ¬ wd="halt" from w4)];refine⟨a.m,a.dx,_,rfl,M.om,rfl,a,st,p,r,rfl,M,hp,aQ,hi,λH1 M1 kb=>?_⟩;have hp1:H1 p=some (.tup r.vs):=kb _ _ hp (by
     unfold MF;simp only[J9,J_,KA,not_or];exact⟨λe=>(by rw[e,M.om] at hp;cases hp),λe=>(by rw[e,M.ot] at hp;cases hp),λe=>(by rw[e,M.ob] at hp;cases hp)⟩)
    have e2:sq H1 p=some (false,r.vs):=aC hp1;refine⟨a.m,C,a.dx,_,_,rfl,M1.om,cM,na_boxes,e_ a _,?_⟩;rw[e2,ev];simp only[Ai];obtain⟨k1,k2,k3,k4,k5,k6,k7,k8,k9⟩:=M1.ne1;refine⟨a.bx,_,rfl,.inl ⟨_,.inr (cx b),M1.ob,rfl,?_,rfl⟩,?_⟩
    ·have l8:=M1.l8;rw[NZ];exact K9 (Nat.min_le_left _ _) (by decide)
    rw[FE b hb _ _ M1.l8,hN];clear hN N;nofun;rw[ec] at q;refine q _ ⟨by rw[aj k2.symm];exact M1.om,by rw[aj k9];exact M1.od,by rw[aj k8];exact M1.og,by rw[aj k5.symm];exact M1.ot,ae,by rw[KZ];exact M1.l8,M1.hh⟩ (kb.trans (KB.set (by unfold MF;simp)))
   cases r with
   |put b n=>exact go (.put b n) "put" b rfl aQ rfl (by decide +kernel) (by decide +kernel) (by decide +kernel) (by decide +kernel) rfl
   |two u b c=>exact go (.two u b c) (w2 u) b rfl aQ.1 rfl ((show ∀u,w2 u≠"jump" by decide +kernel) u) ((show ∀u,w2 u≠"zero" by decide +kernel) u) ((show ∀u,w2 u≠"tell" by decide +kernel) u) ((show ∀u,w2 u≠"halt" by decide +kernel) u) rfl
   |one u b =>
    rcases nA u with rfl|rfl
    rotate_left
    ·exact go (.one 1 b) "hear" b rfl aQ rfl (by decide +kernel) (by decide +kernel) (by decide +kernel) (by decide +kernel) rfl
    ·show N [some (.ref a.m),some (.ref p),some (.str "tell")] H;rw[hN];clear go hN N;refine ax λN hN=>?_;nofun;refine sD (by decide +kernel) ?_
     rw[hN];clear hN N;refine ax λN hN=>?_;nofun;refine sD (by decide +kernel) ?_
     rw[hN];clear hN N;refine ax λN hN=>?_;nofun;refine⟨a.m,C,a.dx,_,_,rfl,M.om,cM,na_told,sP a _,Or.inl ⟨rfl,_,bI.of M.ot⟩,a.m,C,a.dx,_,_,rfl,M.om,cM,na_boxes,e_ a _,?_⟩;simp only[L2.Ap.fL,e1];refine⟨a.bx,_,rfl,dg b aQ,?_⟩;refine⟨a.tl,_,_,rfl,rfl,M.ot,?_,?_⟩
     ·unfold iV;rw[Jz];exact Mc htl (JZ (by decide) Di)
     rw[hN];clear hN N;nofun;refine q _ ⟨by rw[aj n1.symm];exact M.om,by rw[aj n7];exact M.od,by rw[aj n6];exact M.og,?_,by rw[aj n5];exact M.ob,M.l8,M.hh⟩ (KB.set (by unfold MF;simp))
     rw[ae];show some (HO.lst (iV st.told++[V.int (uD st.bs b)]))=some (.lst (iV (st.told++[uD st.bs b])));unfold iV;rw[JR];rfl
   |jump g =>
    show N [some (.ref a.m),some (.ref p),some (.str "jump")] H;rw[hN];clear go hN N;refine ax λN hN=>?_;nofun;exact q H M (KB.refl _ _)
   |zero b g =>
    show N [some (.ref a.m),some (.ref p),some (.str "zero")] H;rw[hN];clear go hN N;refine ax λN hN=>?_;nofun;refine sD (by decide +kernel) ?_
    rw[hN];clear hN N;refine ax λN hN=>?_;nofun;refine⟨a.m,C,a.dx,_,_,rfl,M.om,cM,na_boxes,e_ a _,?_⟩;simp only[L2.Ap.fL,e1];refine⟨a.bx,_,rfl,dg b aQ,?_⟩;nofun;exact q H M (KB.refl _ _)
   |halt =>
    show N [some (.ref a.m),some (.ref p),some (.str "halt")] H;rw[hN];clear go hN N;refine ax λN hN=>?_;nofun;refine sD (by decide +kernel) ?_
    rw[hN];clear hN N;refine ax λN hN=>?_;nofun;refine sD (by decide +kernel) ?_
    rw[hN];clear hN N;refine ax λN hN=>?_;nofun;refine sD (by decide +kernel) ?_
    rw[JA (by simp),hN];clear hN N
    nofun;exact q H M (KB.refl _ _)
  obtain⟨t,hb,ht⟩:=key;exact⟨t,hb.h,ht⟩
noncomputable def place(st:hV)(r:d6)(bh en:Int):Int:=match r with
 |.halt=>en
 |r=>if (carry st r).1=true then ((jw r).getD 0) else bh
noncomputable def BJ(K:W.Frag)(C:Addr):Sp:=λvs H Q _=>∃(a:MA) (st:hV) (p:Addr) (r:d6) (bh en:Int),vs=[.ref a.m,.ref p,.int bh,.int en]/\MS K C H a st/\H p=some (.tup r.vs)/\r.Ok/\st.told.length<100000 /\
 ∀H',MS K C H' a (carry st r).2->KB (MF a) H H'->Q (.int (place st r bh en)) H'
theorem oV{fc:Addr}{d_carry_out:FuncData}(T:Txt K mg)(hgoal_of:au P w K mg base aY 1 "goal_of" ["row"] gJ)(cM:lV K C)(mm_carry_out:Meth K C "carry_out" fc)(bm_carry_out:Binds K d_carry_out ["self","row"] [])(FO_carry_out:cN P w K mg base aY 3 fc d_carry_out ["self","row"] (ug K C))(F:lW K "place_next" "Machine.place_next" aJ f fd):cN P w K mg base aY 4 f fd ["self","row","behind","end"] (BJ K C):=by
 refine F.ok da (λvs H Q E h=>?_) (λcdv A outer s H vs Q E hr h=>?_)
 ·obtain⟨a,st,p,r,bh,en,rfl,_⟩:=h;rfl
 ·obtain⟨a,st,p,r,bh,en,rfl,M,hp,aQ,htl,q⟩:=h;have hu:=aP hr;have key:∃t,QB (fS aY P w K mg base ["self","row","behind","end","goes"] "Machine.place_next" (af aJ) f cdv A outer s H E).qG (aU aJ) t/\t {nx:=λ_ H'=>Q .aR H',rt:=Q} (start ["self","row","behind","end","goes"] [.ref a.m,.ref p,.int bh,.int en]) H:=by
   refine⟨_,(Z.ao (Z.se (i:=4) da.nd (Z.B5 K rfl (Z.v 0) cM mm_carry_out FO_carry_out (hr.mono (by decide)) bm_carry_out fQ (Z.cons (Z.v 1) Z.nil)))
   (Z.ao (Z.dA (Z.aZ bC (Z.ix (Z.aM K rfl hu) (Z.v 1) Z.int) Z.str) (Z.aA (Z.ret (Z.v 3))) Z.bH)
   (Z.aA (Z.ret (Z.Bf (Z.uZ K rfl (Z.v 4)) (Z.fc hgoal_of (Z.cons (Z.v 1) Z.nil)) (Z.v 2)))))),?_⟩
   refine ax λN hN=>?_;nofun;refine⟨a.m,a.dx,_,rfl,M.om,rfl,a,st,p,r,rfl,M,hp,aQ,htl,λH1 M1 kb=>?_⟩;have hp1:H1 p=some (.tup r.vs):=kb _ _ hp (by
    unfold MF;simp only[J9,J_,KA,not_or];exact⟨λe=>(by rw[e,M.om] at hp;cases hp),λe=>(by rw[e,M.ot] at hp;cases hp),λe=>(by rw[e,M.ob] at hp;cases hp)⟩)
   have e2:sq H1 p=some (false,r.vs):=aC hp1;nofun;rw[hN];clear hN N;refine ax λN hN=>?_;nofun;simp only[L2.Ap.fL,e2];have fin:=q H1 M1 kb;by_cases hh:r=.halt
   ·subst hh;show CB (.str "halt") (.str "halt") H1 _;simp only[L2.Ap.EW];exact⟨_,rfl,by rw[JE (by simp)];exact fin⟩
   ·obtain⟨wd,hw,hne⟩:∃wd,bV r.vs 0=some (.str wd)/\wd≠"halt":=by
     cases r with
     |put b n=>exact⟨_,rfl,by decide +kernel⟩
     |two u b c=>exact⟨_,rfl,(show ∀u,w2 u≠"halt" by decide +kernel) u⟩
     |one u b=>exact⟨_,rfl,(show ∀u,w1 u≠"halt" by decide +kernel) u⟩
     |jump g=>exact⟨_,rfl,by decide +kernel⟩
     |zero b g=>exact⟨_,rfl,by decide +kernel⟩
     |halt=>exact absurd rfl hh
    have ep:place st r bh en=if (carry st r).1=true then ((jw r).getD 0) else bh:=by
     cases r<;>first|rfl|exact absurd rfl hh
    rw[hw];simp only[L2.Ap.EW];refine⟨_,rfl,?_⟩;rw[JA (by simpa using hne),hN];clear hN N
    nofun
    cases hc:(carry st r).1 with
    |false =>
     rw[JA (by decide)]
     rw[ep,hc] at fin;exact fin
    |true =>
     rw[JE rfl];obtain⟨g,hg⟩:∃g,jw r=some g:=by
      cases r with
      |put b n=>cases hc
      |two u b c=>cases hc
      |one u b =>
       rcases nA u with rfl|rfl<;>cases hc
      |jump g=>exact⟨g,rfl⟩
      |zero b g=>exact⟨g,rfl⟩
      |halt=>cases hc
     refine⟨p,r,rfl,hp1,?_⟩;have hT:ij r=.int g:=by unfold ij;rw[hg]
     have:=q H1 M1 kb;rw[ep,hc,hg] at this;rw[hT];exact this
  obtain⟨t,hb,ht⟩:=key;exact⟨t,hb.h,ht⟩
noncomputable def ES(K:W.Frag)(C:Addr):Sp:=λvs H Q _=>∃(a:MA) (st:hV),vs=[.ref a.m]/\MS K C H a st/\∀p,H p=none->Q (.ref p) (upd H p (.tup (iV st.told)))
theorem t_(T:Txt K mg)(cM:lV K C)(na_told:bK K C "told")(F:lW K "told_numbers" "Machine.told_numbers" aH f fd):cN P w K mg base aY 1 f fd ["self"] (ES K C):=by
 refine F.ok eZ (λvs H Q E h=>?_) (λcdv A outer s H vs Q E hr h=>?_)
 ·obtain⟨a,st,rfl,_⟩:=h;rfl
 ·obtain⟨a,st,rfl,M,q⟩:=h;have hu:=aP hr;have key:∃t,QB (fS aY P w K mg base ["self"] "Machine.told_numbers" (af aH) f cdv A outer s H E).qG (aU aH) t/\t {nx:=λ_ H'=>Q .aR H',rt:=Q} (start ["self"] [.ref a.m]) H:=by
   refine⟨_,(Z.aA (Z.ret (Z.ct (Z.b_ K rfl) rfl T.cc (by decide +kernel) (Z.cons (Z.fld K rfl (Z.v 0)) Z.nil)))),?_⟩
   have e1:sq H a.tl=some (true,iV st.told):=az M.ot;nofun;refine⟨a.m,C,a.dx,_,_,rfl,M.om,cM,na_told,sP a _,?_⟩;simp only[L2.Ap.su,e1];exactλp hp=>q p hp
  obtain⟨t,hb,ht⟩:=key;exact⟨t,hb.h,ht⟩
noncomputable def FI:List Str:=["a","b","c","d","e","f","g","h"]
noncomputable def B6(K:W.Frag)(C:Addr):Sp:=λvs H Q _=>∃(a:MA) (st:hV),vs=[.ref a.m]/\MS K C H a st/\∀p H',H p=none->H' p=some (.tup (iV st.bs))->KB [] H H'->Q (.ref p) H'
theorem qd(T:Txt K mg)(cM:lV K C)(na_boxes:bK K C "boxes")(F:lW K "box_numbers" "Machine.box_numbers" aF f fd):cN P w K mg base aY 1 f fd ["self"] (B6 K C):=by
 obtain⟨b,hg_BOXES,kt0⟩:=T.jS;have hr_BOXES:RelV (.ref b) (.ref b):=rfl;have kt:∀H,bz K H b (FI.map V.str):=kt0;refine F.ok fE (λvs H Q E h=>?_) (λcdv A outer s H vs Q E hr h=>?_)
 ·obtain⟨a,st,rfl,_⟩:=h;rfl
 ·obtain⟨a,st,rfl,M,q⟩:=h;have hu:=aP hr;have key:∃t,QB (fS aY P w K mg base ["self"] "Machine.box_numbers" (af aF) f cdv A outer s H E).qG (aU aF) t/\t {nx:=λ_ H'=>Q .aR H',rt:=Q} (start ["self"] [.ref a.m]) H:=by
   refine⟨_,(Z.aA (Z.ret (Z.ct (Z.b_ K rfl) rfl T.cc (by decide +kernel) (Z.cons (Z.rA (osc:=af aF) (ON:=["self"]) (own:=["box"]) (N:=["box","self"]) (aG.of rfl (by decide +kernel)) (Z.seq K rfl (Z.glob rfl hg_BOXES hr_BOXES)) (λnd _ _ _ _=>(Z.aT (i:=0) nd rfl (by right))) (λ_ _ _ _=>Z.lZ) (λ_ _ _ _=>(Z.vv hu (Z.fld K rfl (Z.v 1)) (Z.v 0)))) Z.nil)))),?_⟩
   nofun;refine .inr ⟨⟨_,kt _⟩,?_⟩;have l8:=M.l8;refine cq (xs:=FI.map V.str) (by decide) (λD i ys H'=>H D=none/\KB [] H H'/\H' D=some (.lst ys)/\ys=iV (st.bs.take i)/\i<=8) (λD hD=>⟨hD,KB.new hD,ae,by simp[iV],by decide⟩) (λD i ys H' ⟨h1,h2,h3,h4,h5⟩=>⟨h3,by rw[h4];unfold iV;rw[Jz,JT];omega⟩) (λD i ys H' _=>kt _) ?_ ?_
   ·rintro D i ys H' x R hx ⟨h1,h2,h3,h4,h5⟩ k;have hi:i<8:=by
     rcases Kx i 8 with c|c
     ·exact c
     ·rw[Lh.mpr (by exact c)] at hx;cases hx
    have ex:x=.str (cx i):=by
     rcases DY hi with rfl|rfl|rfl|rfl|rfl|rfl|rfl|rfl<;>exact (Option.some.inj hx).symm
    subst ex;have om':=h2 _ _ M.om (by simp)
    have ob':=h2 _ _ M.ob (by simp)
    nofun;refine⟨a.m,C,a.dx,_,_,rfl,om',cM,na_boxes,e_ a _,a.bx,_,rfl,.inl ⟨_,.inr (cx i),.inl ob',rfl,(sC i hi st.bs l8).symm⟩,?_⟩;refine k _ H' h3 ⟨h1,λb o e _=>?_,ae,?_,by omega⟩
    ·rw[aj (aq e h1)];exact h2 b o e (by simp)
    ·have hb:i<st.bs.length:=by omega
     rw[h4,MQ hb];unfold iV uD;rw[JR,Jx hb];rfl
   ·rintro D ys H' ⟨h1,h2,h3,h4,h5⟩;have e1:sq H' D=some (true,ys):=az h3;simp only[L2.Ap.su,e1];refineλp hp=>q p _ (h2.free (by simp) hp) ?_ (h2.trans (KB.new hp))
    rw[ae,h4];have:st.bs.take (FI.map V.str).length=st.bs:=Kj (by rw[l8];decide)
    rw[this]
  obtain⟨t,hb,ht⟩:=key;exact⟨t,hb.h,ht⟩
noncomputable def FQ(g:List Int):hV:=⟨g,0,[],[0,0,0,0,0,0,0,0]⟩
noncomputable def Fs(K:W.Frag)(C:Addr):Sp:=λvs H Q _=>∃(x dx gv:Addr) (g:List Int),vs=[.ref x,.ref gv]/\H x=some (.ins C dx [])/\H dx=some (.own x)/\H gv=some (.tup (iV g)) /\
 ∀H' tl bx,H tl=none->H bx=none->MS K C H' ⟨x,dx,gv,tl,bx⟩ (FQ g)->KB [x] H H'->Q .aR H'
theorem tT(T:Txt K mg)(cM:lV K C)(na_given:bK K C "given")(na_heard:bK K C "heard")(na_told:bK K C "told")(na_boxes:bK K C "boxes")(F:lW K "__init__" "Machine.__init__" aL f fd):cN P w K mg base aY 1 f fd ["self","given"] (Fs K C):=by
 obtain⟨b,hg_BOXES,kt0⟩:=T.jS;have hr_BOXES:RelV (.ref b) (.ref b):=rfl;have kt:∀H,bz K H b (FI.map V.str):=kt0;refine F.ok gS (λvs H Q E h=>?_) (λcdv A outer s H vs Q E hr h=>?_)
 ·obtain⟨x,dx,gv,g,rfl,_⟩:=h;rfl
 ·obtain⟨x,dx,gv,g,rfl,ox,od,og,q⟩:=h;have hu:=aP hr;have key:∃t,QB (fS aY P w K mg base ["self","given"] "Machine.__init__" (af aL) f cdv A outer s H E).qG (aU aL) t/\t {nx:=λ_ H'=>Q .aR H',rt:=Q} (start ["self","given"] [.ref x,.ref gv]) H:=by
   refine⟨_,(Z.ao (Z.yO K rfl (Z.v 0) (Z.v 1))
   (Z.ao (Z.yO K rfl (Z.v 0) Z.int)
   (Z.ao (Z.yO K rfl (Z.v 0) (Z.lst Z.nil))
   (Z.aA (Z.yO K rfl (Z.v 0) (Z.ct (j7 K rfl) rfl T.x_ (by decide +kernel) (Z.cons (Z.rA (osc:=af aL) (ON:=["self","given"]) (own:=["box"]) (N:=["box","self","given"]) (aG.of rfl (by decide +kernel)) (Z.seq K rfl (Z.glob rfl hg_BOXES hr_BOXES)) (λnd _ _ _ _=>(Z.aT (i:=0) nd rfl (by right))) (λ_ _ _ _=>Z.lZ) (λ_ _ _ _=>(Z.tup (Z.cons (Z.v 0) (Z.cons Z.int Z.nil))))) Z.nil))))))),?_⟩
   have ndx:dx≠x:=by rintro rfl;rw[ox] at od;cases od
   have ngx:gv≠x:=by rintro rfl;rw[ox] at og;cases og
   refine ax λN hN=>?_;nofun;refine⟨x,C,dx,_,rfl,ox,cM,na_given,by decide,?_⟩
   rw[hN];clear hN N;refine ax λN hN=>?_;nofun;refine⟨x,C,dx,_,rfl,ae,cM,na_heard,(show 1<1000 by decide),?_⟩
   rw[hN];clear hN N;rw[oC];refine ax λN hN=>?_;nofun;refine⟨by decide,λtl htl=>?_⟩
   have ntl:tl≠x:=by rintro rfl;rw[ae] at htl;cases htl
   have htl0:H tl=none:=by rw[aj ntl] at htl;exact htl
   refine⟨x,C,dx,dD "heard" (.int 0) (dD "given" (.ref gv) []),rfl,by rw[aj ntl.symm];exact ae,cM,na_told,(show 2<1000 by decide),?_⟩
   rw[hN];clear hN N;have ntd:tl≠dx:=λe=>by rw[e,od] at htl0;cases htl0
   have ntg:tl≠gv:=λe=>by rw[e,og] at htl0;cases htl0
   obtain⟨H3,e3⟩:∃H3,H3=upd (upd (upd H x (.ins C dx (dD "heard" (.int 0) (dD "given" (.ref gv) [])))) tl (.lst [])) x (.ins C dx (dD "told" (.ref tl) (dD "heard" (.int 0) (dD "given" (.ref gv) [])))):=⟨_,rfl⟩;rw[<- e3];have x3:H3 x=some (.ins C dx [("given",.ref gv),("heard",.int 0),("told",.ref tl)]):=by rw[e3];exact ae
   have t3:H3 tl=some (.lst []):=by rw[e3,aj ntl];exact ae
   have d3:H3 dx=some (.own x):=by rw[e3,aj ndx,aj ntd.symm,aj ndx];exact od
   have g3:H3 gv=some (.tup (iV g)):=by rw[e3,aj ngx,aj ntg.symm,aj ngx];exact og
   have k3:KB [x] H H3:=by
    rw[e3];exact ((KB.set (by simp)).trans (KB.new htl)).trans (KB.set (by simp))
   clear e3;nofun;refine .inr ⟨⟨_,kt _⟩,?_⟩;refine cq (xs:=FI.map V.str) (by decide) (λD i ys H'=>H3 D=none/\KB [] H3 H'/\H' D=some (.lst ys)/\ys.length=i/\i<=8/\∀j,j<i->∃p,ys[j]?=some (.ref p)/\H' p=some (.tup [.str (cx j),.int 0])) (λD hD=>⟨hD,KB.new hD,ae,rfl,by decide,λj hj=>absurd hj (L4 _)⟩) (λD i ys H' ⟨h1,h2,h3,h4,h5⟩=>⟨h3,h4⟩) (λD i ys H' _=>kt _) ?_ ?_
   ·rintro D i ys H' z R hx ⟨h1,h2,h3,h4,h5,h6⟩ k;have hi:i<8:=by
     rcases Kx i 8 with c|c
     ·exact c
     ·rw[Lh.mpr (by exact c)] at hx;cases hx
    have ex:z=.str (cx i):=by
     rcases DY hi with rfl|rfl|rfl|rfl|rfl|rfl|rfl|rfl<;>exact (Option.some.inj hx).symm
    subst ex;nofun;refine⟨by decide,λp hp=>?_⟩
    have npD:p≠D:=by rintro rfl;rw[h3] at hp;cases hp
    refine k _ _ (by rw[aj npD.symm];exact h3) ⟨h1,λc o e _=>?_,ae,by rw[J5,h4];rfl,by omega,λj hj=>?_⟩
    ·have hc:=h2 c o e (by simp)
     rw[aj (aq e h1),aj (aq hc hp)];exact hc
    ·rcases Kx j i with c|c
     ·obtain⟨p',e1,e2⟩:=h6 j c;have n1:p'≠D:=by rintro rfl;rw[h3] at e2;cases e2
      exact⟨p',by rw[Kf (by omega)];exact e1,by rw[aj n1,aj (aq e2 hp)];exact e2⟩
     ·have:j=i:=by omega
      subst this;exact⟨p,by rw[JY (by omega),h4];simp,by rw[aj npD];exact ae⟩
   ·rintro D ys H' ⟨h1,h2,h3,h4,h5,h6⟩;have hl:(FI.map V.str).length=8:=rfl;rw[hl] at h4 h6;refine⟨D,ys,CA.zip (iV (FQ g).bs),rfl,h3,⟨h4,λj k z e=>?_⟩,(show 8<=20000 by decide),λp hp=>?_⟩
    ·have hj:j<8:=by
      rcases Kx j 8 with c|c
      ·exact c
      ·rw[Lh.mpr (by exact c)] at e;cases e
     obtain⟨p,e1,e2⟩:=h6 j hj;refine⟨p,e1,?_⟩;rw[e2];rcases DY hj with rfl|rfl|rfl|rfl|rfl|rfl|rfl|rfl<;>(cases e;rfl)
    ·have hm:f7 [] (CA.zip (iV (FQ g).bs))=CA.zip (iV (FQ g).bs):=by
      rw[Y.jf _ [] ?_,KN];show (CA.map λk=>k).Nodup
      decide +kernel
     rw[hm];have x4:=h2 _ _ x3 (by simp)
     have t4:=h2 _ _ t3 (by simp)
     have d4:=h2 _ _ d3 (by simp)
     have g4:=h2 _ _ g3 (by simp)
     have px:p≠x:=λe=>by rw[e,x4] at hp;cases hp
     have pt:p≠tl:=λe=>by rw[e,t4] at hp;cases hp
     have pd:p≠dx:=λe=>by rw[e,d4] at hp;cases hp
     have pg:p≠gv:=λe=>by rw[e,g4] at hp;cases hp
     have hp3:H3 p=none:=h2.free (by simp) hp
     have hp0:H p=none:=k3.free (by simpa using px) hp3
     refine⟨x,C,dx,[("given",.ref gv),("heard",.int 0),("told",.ref tl)],rfl,by rw[aj px.symm];exact x4,cM,na_boxes,(show 3<1000 by decide),?_⟩
     refine q _ tl p htl0 hp0 ⟨ae,by rw[aj ndx,aj pd.symm];exact d4,by rw[aj ngx,aj pg.symm];exact g4,by rw[aj ntl,aj pt.symm];exact t4,by rw[aj px];exact ae,rfl,JL _⟩ ?_
     exact ((k3.trans h2.all).trans (KB.new hp)).trans (KB.set (by simp))
  obtain⟨t,hb,ht⟩:=key;exact⟨t,hb.h,ht⟩
structure BS where
 st:hV
 at_:Int
 rd:Int
noncomputable def yw(cd:List (List (List Nat)))(z:List Nat)(p:Int):Option (d6×Nat):=(wG cd z p).map λx=>(qJ x,x.2)
noncomputable def kg(z:List Nat)(c:BS)(x:d6×Nat):BS:=⟨(carry c.st x.1).2,place c.st x.1 (x.2:Nat) (z.length:Nat),c.rd+(x.2:Nat)-c.at_⟩
noncomputable def df(cd:List (List (List Nat)))(z:List Nat):Nat->BS->BS
 |0,c=>c
 |n+1,c=>match yw cd z c.at_ with
  |none=>c
  |some x=>df cd z n (kg z c x)
noncomputable def pZ(cd:List (List (List Nat)))(z:List Nat)(c:BS):Str:=if c.at_=(z.length:Nat) then "halt" else match yw cd z c.at_ with
 |none=>"bad"
 |some _=>"more"
noncomputable def ER(g:List Int):BS:=⟨FQ g,0,0⟩
noncomputable def Fl(H:Hp)(v:V)(cd:List (List (List Nat)))(z:List Nat)(c:BS):Prop:=∃t p1 p2,v=.ref t/\H t=some (.tup [.str (pZ cd z c),.ref p1,.int c.rd,.ref p2])/\H p1=some (.tup (iV c.st.told))/\H p2=some (.tup (iV c.st.bs))
theorem tu(st:hV)(r:d6):(carry st r).2.told.length<=st.told.length+1:=by
 have hh:(de st).2.told=st.told:=by unfold de;split<;>rfl
 cases r with
 |put b n=>exact K8 _
 |two u a b=>exact K8 _
 |one u b =>
  rcases nA u with rfl|rfl
  ·show (st.told++[uD st.bs b]).length<=_;rw[J5];exact JD _
  ·show (de st).2.told.length<=_;rw[hh];exact K8 _
 |jump g=>exact K8 _
 |zero b g=>exact K8 _
 |halt=>exact K8 _
theorem rN{cd:List (List (List Nat))}{n:Nat}{c:BS}(h:wG cd z c.at_=none):df cd z n c=c:=by
 cases n with
 |zero=>rfl
 |succ k=>rw[df];unfold yw;rw[h];rfl
theorem rJ{cd:List (List (List Nat))}{n:Nat}{c:BS}{y:RW×Nat}(h:wG cd z c.at_=some y):df cd z (n+1) c=df cd z n (kg z c (qJ y,y.2)):=by
 rw[df];unfold yw;rw[h];rfl
theorem vY{m:Str}{a:MA}{h:Nat}(h1:m≠"given")(h2:m≠"heard")(h3:m≠"told")(h4:m≠"boxes"):(yF a h).lookup m=none:=by
 unfold yF;rw[Kv,Ka.mpr h1,Kv,Ka.mpr h2,Kv,Ka.mpr h3,Kv,Ka.mpr h4];rfl
theorem MS.kb{a:MA}{st:hV}(M:MS K C H a st)(k:KB [] H H'):MS K C H' a st:=⟨k _ _ M.om (by simp),k _ _ M.od (by simp),k _ _ M.og (by simp),k _ _ M.ot (by simp),k _ _ M.ob (by simp),M.l8,M.hh⟩
noncomputable def zX(K:W.Frag):Sp:=λvs H Q _=>∃(b gv:Addr) (bk:List (List Int)) (z:List Nat) (g:List Int) (most:Nat),vs=[.str (wd z),.ref b,.ref gv,.int (most:Nat)]/\u5 H b bk/\H gv=some (.tup (iV g))/\Bk bk/\sO (bQ bk)/\dH z/\z.length<=1000000/\most<=10000/\∀v H',KB [] H H'->Fl H' v (bQ bk) z (df (bQ bk) z most (ER g))->Q v H'
theorem Bz(T:Txt K mg)(hgoal_of:au P w K mg base aY 1 "goal_of" ["row"] gJ)(hcodes_of:au P w K mg base aY 6 "codes_of" ["book"] (jW K))(hrow_at:au P w K mg base aY 5 "row_at" ["codes","bits","place"] (nR K))(F:HasFn K mg "run_bits" hU ["bits","book","given","most"]):au P w K mg base aY 7 "run_bits" ["bits","book","given","most"] (zX K):=by
 obtain⟨C_Machine,f___init__,f_place_next,f_carry_out,f_number_for,f_heard_number,f_told_numbers,f_box_numbers,d___init__,d_place_next,d_carry_out,d_number_for,d_heard_number,d_told_numbers,d_box_numbers,hC_Machine,cM,na_given,na_heard,na_told,na_boxes,mm___init__,FM___init__,bm___init__,mm_place_next,FM_place_next,bm_place_next,mm_carry_out,FM_carry_out,bm_carry_out,mm_number_for,FM_number_for,bm_number_for,mm_heard_number,FM_heard_number,bm_heard_number,mm_told_numbers,FM_told_numbers,bm_told_numbers,mm_box_numbers,FM_box_numbers,bm_box_numbers⟩:=T.mc;have FO_heard_number:=oK (P:=P) (w:=w) (mg:=mg) (base:=base) T cM na_given na_heard FM_heard_number;have FO_number_for:=yv (P:=P) (w:=w) (mg:=mg) (base:=base) T cM na_boxes mm_heard_number bm_heard_number FO_heard_number FM_number_for;have FO_carry_out:=pS (P:=P) (w:=w) (mg:=mg) (base:=base) T cM na_boxes na_told mm_number_for bm_number_for FO_number_for FM_carry_out;have FO_place_next:=oV T hgoal_of cM mm_carry_out bm_carry_out FO_carry_out FM_place_next;have FO_told_numbers:=t_ (P:=P) (w:=w) (mg:=mg) (base:=base) T cM na_told FM_told_numbers;have FO_box_numbers:=qd (P:=P) (w:=w) (mg:=mg) (base:=base) T cM na_boxes FM_box_numbers;have FO___init__:=tT (P:=P) (w:=w) (mg:=mg) (base:=base) T cM na_given na_heard na_told na_boxes FM___init__;refine F.eW bj (λvs H Q E h=>?_) (λf cdv A outer s H vs Q E hr h=>?_)
 ·obtain⟨b,gv,bk,z,g,most,rfl,_⟩:=h;rfl
 ·obtain⟨bb,gv,bk,z,g,most,rfl,hbk,og,hBk,hR,hb,hz,hmo,q⟩:=h;have hu:=aP hr;refine⟨_,(Z.ao (Z.se (i:=4) bj.nd (Z.fc hcodes_of (Z.cons (Z.v 1) Z.nil)))
   (Z.ao (Z.se (i:=5) bj.nd (Z.make K rfl mm___init__ FO___init__ (hr.mono (by decide)) rfl hC_Machine bm___init__ fQ (Z.cons (Z.v 2) Z.nil)))
   (Z.ao (Z.se (i:=6) bj.nd Z.int)
   (Z.ao (Z.se (i:=7) bj.nd Z.int)
   (Z.ao (Z.se (i:=8) bj.nd Z.int)
   (Z.ao (Z.se (i:=9) bj.nd (Z.fc hrow_at (Z.cons (Z.v 4) (Z.cons (Z.v 0) (Z.cons (Z.v 8) Z.nil)))))
   (Z.ao (Z.ia Kl (Z.tw (Z.vn (Z.aZ jU (Z.v 9) Z.aR) (Z.mV (Z.aZ eF (Z.v 7) (Z.v 3))))) (Z.ao (Z.se (i:=6) bj.nd (Z.op cK (Z.op (Z.bf K rfl) (Z.v 6) (Z.ix (Z.aM K rfl hu) (Z.v 9) Z.int)) (Z.v 8)))
   (Z.ao (Z.se (i:=7) bj.nd (Z.op (Z.bf K rfl) (Z.v 7) Z.int))
   (Z.ao (Z.se (i:=8) bj.nd (Z.B5 K rfl (Z.v 5) cM mm_place_next FO_place_next (hr.mono (by decide)) bm_place_next fQ (Z.cons (Z.ix (Z.aM K rfl hu) (Z.v 9) Z.int) (Z.cons (Z.ix (Z.aM K rfl hu) (Z.v 9) Z.int) (Z.cons (Z.cb (Z.cJ K rfl) rfl T.cy (by decide +kernel) (Z.cons (Z.v 0) Z.nil)) Z.nil)))))
   (Z.aA (Z.se (i:=9) bj.nd (Z.fc hrow_at (Z.cons (Z.v 4) (Z.cons (Z.v 0) (Z.cons (Z.v 8) Z.nil))))))))))
   (Z.ao (Z.dA (Z.aZ bC (Z.v 8) (Z.cb (Z.cJ K rfl) rfl T.cy (by decide +kernel) (Z.cons (Z.v 0) Z.nil))) (Z.aA (Z.se (i:=10) bj.nd Z.str)) (Z.aA (Z.se (i:=10) bj.nd (Z.Bf (Z.aZ cZ (Z.v 9) Z.aR) Z.str Z.str))))
   (Z.aA (Z.ret (Z.tup (Z.cons (Z.v 10) (Z.cons (Z.p_ K rfl (Z.v 5) cM mm_told_numbers FO_told_numbers (hr.mono (by decide)) bm_told_numbers fQ) (Z.cons (Z.v 6) (Z.cons (Z.p_ K rfl (Z.v 5) cM mm_box_numbers FO_box_numbers (hr.mono (by decide)) bm_box_numbers fQ) Z.nil))))))))))))))),?_⟩
  refine ax λN hN=>?_;nofun;refine⟨bb,bk,rfl,hbk,hBk,λca H1 hca k1 rc=>?_⟩;rw[hN];clear hN N;generalize fK:bQ bk=cd at *;have og1:=k1 _ _ og (by simp)
  refine ax λN hN=>?_;nofun;intro x dx hx0 hdx0 hxd;have gx:gv≠x:=λzz=>by rw[zz,hx0] at og1;cases og1
  have gd:gv≠dx:=λzz=>by rw[zz,hdx0] at og1;cases og1
  refine⟨x,dx,gv,g,rfl,ae,by rw[aj hxd];exact ae,by rw[aj gx,aj gd];exact og1,λH2 tl bx htl hbx M2 kb2=>⟨rfl,?_⟩⟩
  have k12:KB [] H1 H2:=λc o e _=>kb2 c o (by rw[aj (aq e hx0),aj (aq e hdx0)];exact e) (by simpa using aq e hx0)
  obtain⟨a,ea⟩:∃a:MA,a=⟨x,dx,gv,tl,bx⟩:=⟨_,rfl⟩;have em:x=a.m:=by rw[ea]
  rw[<- ea] at M2;rw[em];have new:∀b,b∈MF a->H1 b=none:=λb hb=>by
   have un:∀{c:Addr},upd (upd H1 dx (HO.own x)) x (HO.ins C_Machine dx []) c=none->H1 c=none:=λ{c} e=>by
    by_cases c1:c=x
    ·rw[c1];exact hx0
    ·rw[aj c1] at e;by_cases c2:c=dx
     ·rw[c2];exact hdx0
     ·rw[aj c2] at e;exact e
   rw[ea] at hb;simp only[MF,J9,J_,KA] at hb;rcases hb with rfl|rfl|rfl
   ·exact hx0
   ·exact un htl
   ·exact un hbx
  have GY:∀{G:Hp} {st:hV},MS K C_Machine G a st->∀b,b∈MF a->∃o,G b=some o:=λM b hb=>by
   simp only[MF,J9,J_,KA] at hb;rcases hb with rfl|rfl|rfl
   ·exact⟨_,M.om⟩
   ·exact⟨_,M.ot⟩
   ·exact⟨_,M.ob⟩
  have ntp:∀{G:Hp} {st:hV},MS K C_Machine G a st->∀b∈MF a,∀xs,G b≠some (.tup xs):=λM b hb xs e=>by
   simp only[MF,J9,J_,KA] at hb;rcases hb with rfl|rfl|rfl
   ·rw[M.om] at e;cases e
   ·rw[M.ot] at e;cases e
   ·rw[M.ob] at e;cases e
  have nca:ca∉MF a:=λz=>by
   obtain⟨_,_,_,e,_⟩:=rc;rw[new ca z] at e;cases e
  have rc2:sQ H2 ca cd:=rc.kb k12;have old2:KB [] H H2:=k1.trans k12;have keepH:∀{G G':Hp},KB [] H G->KB (MF a) G G'->KB [] H G':=λo k c u e _=>k _ _ (o _ _ e (by simp)) λzz=>by
   have:=k1 _ _ e (by simp)
   rw[new c zz] at this;cases this
  clear hx0 hdx0 hxd gx gd htl hbx kb2 rc k12 og1 hca em;rw[hN];clear hN N;refine ax λN hN=>?_;nofun;rw[hN];clear hN N;refine ax λN hN=>?_;nofun;rw[hN];clear hN N;refine ax λN hN=>?_;nofun;rw[hN];clear hN N;refine ax λN hN=>?_;nofun;refine⟨ca,cd,z,0,rfl,rc2,hR,hb,hz,λv H3 k3 r3=>?_⟩;rw[hN];clear hN N;obtain⟨R,eR⟩:∃R,R=df cd z most (ER g):=⟨_,rfl⟩;rw[<- eR] at q;refine ax λN hN=>?_;refine⟨λm σ H'=>∃(n:Nat) (c:BS) (v:V),n<=most/\m=most-n/\R=df cd z (most-n) c/\c.st.told.length<=n/\MS K C_Machine H' a c.st/\KB [] H H'/\sQ H' ca cd/\HJ H' v (wG cd z c.at_)/\σ=[some (V.str (wd z)),some (.ref bb),some (V.ref gv),some (V.int (most:Nat)),some (V.ref ca),some (V.ref a.m),some (V.int c.rd),some (V.int (n:Nat)),some (V.int c.at_),some v,none],⟨most,0,ER g,v,JL _,rfl,eR,JL _,M2.kb k3,old2.trans k3,rc2.kb k3,r3,rfl⟩,?_⟩;clear M2 rc2 r3 k3 old2 v;rintro m σ H4 ⟨n,c,v,hn,rfl,hrun,htl,M4,old4,rc4,r4,rfl⟩;have lz:(wd z).length<=sizeLine:=by rw[bw];exact JF hz (by decide)
  have fin:R=c->N [some (V.str (wd z)),some (.ref bb),some (V.ref gv),some (V.int (most:Nat)),some (V.ref ca),some (V.ref a.m),some (V.int c.rd),some (V.int (n:Nat)),some (V.int c.at_),some v,none] H4:=λhc=>by
   rw[hN];clear hN N;subst hc;refine ax λN hN=>?_;have ret:N [some (V.str (wd z)),some (.ref bb),some (V.ref gv),some (V.int (most:Nat)),some (V.ref ca),some (V.ref a.m),some (V.int R.rd),some (V.int (n:Nat)),some (V.int R.at_),some v,some (V.str (pZ cd z R))] H4:=by
    rw[hN];clear hN N;nofun;refine⟨a.m,a.dx,_,rfl,M4.om,vY (by decide +kernel) (by decide +kernel) (by decide +kernel) (by decide +kernel),a,R.st,rfl,M4,λp1 hp1=>?_⟩
    have k5:KB [] H4 (upd H4 p1 (.tup (iV R.st.told))):=KB.new hp1;have t5:upd H4 p1 (.tup (iV R.st.told)) p1=some (.tup (iV R.st.told)):=ae;generalize upd H4 p1 (.tup (iV R.st.told))=H5 at *;have M5:=M4.kb k5;refine⟨a.m,a.dx,_,rfl,M5.om,vY (by decide +kernel) (by decide +kernel) (by decide +kernel) (by decide +kernel),a,R.st,rfl,M5,λp2 H6 hp2 t6 k6=>?_⟩
    refine⟨by decide,λp3 hp3=>?_⟩
    have o6:KB [] H H6:=old4.trans (k5.trans k6);have up:∀{b:Addr} {o:HO},H6 b=some o->upd H6 p3 (.tup [V.str (pZ cd z R),V.ref p1,V.int R.rd,V.ref p2]) b=some o:=λe=>by rw[aj (aq e hp3)];exact e
    exact q _ _ (o6.trans (KB.new hp3)) ⟨p3,p1,p2,rfl,ae,up (k6 _ _ t5 (by simp)),up t6⟩
   nofun;refine⟨lz,?_⟩;rw[bw];unfold pZ yw at ret;by_cases c1:R.at_=(z.length:Nat)
   ·rw[JE c1] at ret ⊢;exact ret
   ·rw[JA c1] at ret ⊢
    cases hx:wG cd z R.at_ with
    |none =>
     rw[hx] at r4 ret;obtain rfl:v=.aR:=r4;rw[JE rfl];exact ret
    |some y =>
     rw[hx] at r4 ret;obtain⟨fa,_,rfl,_⟩:=r4;rw[JA (show ¬ V.ref fa=V.aR from λzz=>nomatch zz)];exact ret
  nofun
  cases hx:wG cd z c.at_ with
  |none =>
   rw[hx] at r4;obtain rfl:v=.aR:=r4;rw[JA (by simp)]
   exact fin (by rw[hrun];exact rN hx)
  |some y =>
   rw[hx] at r4;obtain⟨fa,ra,rfl,o4,ora⟩:=r4;rw[JE (show ¬ V.ref fa=V.aR from λzz=>nomatch zz)];by_cases c2:((n:Nat):Int)<(most:Nat)
   ·rw[JE c2];obtain⟨p,hp,hpx⟩:∃p:Nat,c.at_=p/\Af cd z p=some y:=by
     unfold wG at hx;by_cases c3:c.at_<0
     ·rw[JE c3] at hx;cases hx
     ·rw[JA c3] at hx;exact⟨c.at_.toNat,by lia,hx⟩
    obtain⟨mok,mt,_,_,_⟩:=Hm hR hpx;rw[mt] at ora;have s4:=aC o4;have nx:df cd z (most-n) c=df cd z (most-(n+1)) (kg z c (qJ y,y.2)):=by
     rw[show most-n=(most-(n+1))+1 by lia]
     exact rJ hx
    refine⟨λσ' H'=>∃m',m'<most-n/\∃n c v,n<=most/\m'=most-n/\R=df cd z (most-n) c/\c.st.told.length<=n/\MS K C_Machine H' a c.st/\KB [] H H'/\sQ H' ca cd/\HJ H' v (wG cd z c.at_)/\σ'=[some (V.str (wd z)),some (.ref bb),some (V.ref gv),some (V.int (most:Nat)),some (V.ref ca),some (V.ref a.m),some (V.int c.rd),some (V.int (n:Nat)),some (V.int c.at_),some v,none],λ_ _ h=>h,?_⟩;simp only[L2.Ap.fL,s4,Ai,L2.Ap.CF,L2.Ap.v_];refine⟨a.m,a.dx,_,rfl,M4.om,vY (by decide +kernel) (by decide +kernel) (by decide +kernel) (by decide +kernel),?_⟩
    simp only[L2.Ap.fL,s4,Co,Ai];refine⟨lz,a,c.st,ra,qJ y,(y.2:Nat),_,rfl,M4,ora,mok,by lia,λH5 M5 k5=>?_⟩
    have rc5:=rc4.keep k5 nca (ntp M4);have old5:=keepH old4 k5;refine⟨ca,cd,z,_,rfl,rc5,hR,hb,hz,λv6 H6 k6 r6=>?_⟩;have tle:=tu c.st (qJ y);rw[bw] at r6;refine⟨most-(n+1),by lia,n+1,kg z c (qJ y,y.2),v6,by lia,rfl,hrun.trans nx,?_,M5.kb k6,old5.trans k6,rc5.kb k6,r6,?_⟩
    ·show (carry c.st (qJ y)).2.told.length<=n+1;lia
    ·rw[bw];rfl
   ·rw[JA c2];refine fin ?_;rw[hrun,show most-n=0 by lia];rfl
theorem Cz{cd:List (List (List Nat))}(hR:sO cd):Af cd z z.length=none:=by
 obtain⟨c0,c1,c2,rfl,l0,l1,l2⟩:=hR.fK.ex
 cases c:jH c0 z z.length with
 |none=>show (jH c0 z z.length).bind _=none;rw[c];rfl
 |some x=>have:=eK (hR.pf c0 (by simp)).ne c;lia
theorem u3{cd:List (List (List Nat))}:yw cd z (p:Int)=(Af cd z p).map λx=>(qJ x,x.2):=by unfold yw;rw[nV]
theorem AV{cd:List (List (List Nat))}(hR:sO cd):yw cd z (z.length:Nat)=none:=by rw[u3,Cz hR];rfl
theorem jM(st:hV)(r:Row)(g g':Int):carry st (r.m g)=carry st (r.m g'):=by
 cases r with
 |one u b=>rcases nA u with rfl|rfl<;>rfl
 |_=>rfl
noncomputable def Hl(rs:List Row):Prop:=rs≠[]/\(∀(i:Nat) (r:Row),rs[i]?=some r->i+1=rs.length->r=.halt\/∃g,r=.jump g)/\∀r∈rs,aD r≠some rs.length
noncomputable def pC(rs:List Row)(sp z:List Nat)(i:Nat):Int:=if i<rs.length then ((sp.getD i 0:Nat):Int) else ((z.length:Nat):Int)
noncomputable def Dz(st:hV)(r:Row)(i n:Nat):Nat:=match r with
 |.halt=>n
 |r=>if (carry st (r.m 0)).1=true then (aD r).getD 0 else i+1
theorem ik{st:hV}{r:Row}{g:Int}(h:(carry st (r.m g)).1=true):∃t,aD r=some t:=by
 cases r with
 |put b n=>cases h
 |two u a b=>cases h
 |one u b=>rcases nA u with rfl|rfl<;>cases h
 |jump g=>exact⟨_,rfl⟩
 |zero b g=>exact⟨_,rfl⟩
 |halt=>cases h
theorem yf{st:hV}{rs:List Row}{r:Row}(hi:i<rs.length)(hr:r.Ok rs.length):Dz st r i rs.length<=rs.length:=by
 by_cases hh:r=.halt
 ·subst hh;exact JD _
 ·have e:Dz st r i rs.length=if (carry st (r.m 0)).1=true then (aD r).getD 0 else i+1:=by cases r<;>first|rfl|exact absurd rfl hh
  rw[e];split
  ·rename_i c;obtain⟨t,ht⟩:=ik c;rw[ht];exact gN hr ht
  ·exact hi
section
variable {cd:List (List (List Nat))} {rs:List Row} {ws sp z:List Nat}
theorem Laid.nr(L:Laid cd rs ws sp z)(y:List Nat)(h:y=[]\/Hl rs)(ht:t<=rs.length)(hn:y=[]\/t≠rs.length):pC rs sp (z++y) t=((sp.getD t 0:Nat):Int):=by
 unfold pC;by_cases c:t<rs.length
 ·rw[JE c]
 ·rw[JA c];have e:t=rs.length:=by lia
  rcases hn with rfl|hn
  ·rw[Kp,L.last,e]
  ·exact absurd e hn
theorem Laid.read(L:Laid cd rs ws sp z)(y:List Nat)(hi:i<rs.length):yw cd (z++y) (pC rs sp (z++y) i)=some (rs[i].m ((sp.getD ((aD rs[i]).getD 0) 0:Nat):Int),sp.getD (i+1) 0):=by
 obtain⟨w,_,_,e1,e2,e3⟩:=L.row hi;obtain⟨a1,a2⟩:=L.at i (Ll hi);have hp:dI cd rs[i] w (yR sp i rs[i]) <+: (z++y).drop (sp.getD i 0):=by
  rw[Ni a2,a1,e2,JU];exact LQ _ _
 obtain⟨x,hx,hx2,hm⟩:=yH L.hR (L.ok _ (JN hi)) e3 hp;unfold pC;rw[JE hi,u3,hx];show some (qJ x,x.2)=_;rw[hm,hx2,<- e1];congr 2
 cases c:aD rs[i] with
 |none=>generalize rs[i]=r at *;cases r<;>first|rfl|cases c
 |some t =>
  unfold yR;rw[c];show rs[i].m (((sp.getD (i+1) 0:Nat):Int)+fm sp t i)=rs[i].m ((sp.getD t 0:Nat):Int);unfold fm;congr 1;lia
theorem Laid.step(L:Laid cd rs ws sp z)(y:List Nat)(hy:y=[]\/Hl rs){c:BS}(hi:i<rs.length)(ha:c.at_=pC rs sp (z++y) i):∃x,yw cd (z++y) c.at_=some x/\(kg (z++y) c x).st=(carry c.st (rs[i].m 0)).2/\(kg (z++y) c x).at_=pC rs sp (z++y) (Dz c.st rs[i] i rs.length)/\(kg (z++y) c x).rd=c.rd+((sp.getD (i+1) 0:Nat):Int)-((sp.getD i 0:Nat):Int):=by
 refine⟨_,by rw[ha];exact L.read y hi,?_,?_,?_⟩
 ·show (carry c.st (rs[i].m _)).2=_;rw[jM _ _ _ 0]
 ·show place c.st (rs[i].m _) _ _=_;have aQ:=L.ok _ (JN hi);have er:=Jx hi;have hg:=λh:Hl rs=>h.2.2 _ (JN hi);have hl:=λh:Hl rs=>h.2.1 i _ er;generalize rs[i]=r at *;by_cases hh:r=.halt
  ·subst hh;show ((z++y).length:Int)=pC rs sp (z++y) rs.length;unfold pC;rw[JA (KG _)]
  ·have e1:Dz c.st r i rs.length=if (carry c.st (r.m 0)).1=true then (aD r).getD 0 else i+1:=by cases r<;>first|rfl|exact absurd rfl hh
   generalize hgg:((sp.getD ((aD r).getD 0) 0:Nat):Int)=g;have e2:∀bh en:Int,place c.st (r.m g) bh en=if (carry c.st (r.m g)).1=true then ((jw (r.m g)).getD 0) else bh:=λbh en=>by cases r<;>first|rfl|exact absurd rfl hh
   rw[e2,e1,jM _ _ g 0];by_cases hc:(carry c.st (r.m 0)).1=true
   ·rw[JE hc,JE hc];obtain⟨t,ht⟩:=ik hc;have eg:jw (r.m g)=some g:=by cases r<;>first|rfl|cases ht
    rw[eg,ht];rw[ht] at hgg;show g=pC rs sp (z++y) t;rw[L.nr y hy (gN aQ ht) (hy.imp id λh e=>hg h (by rw[ht,e]))]
    exact hgg.symm
   ·rw[JA hc,JA hc];refine (L.nr y hy hi (hy.imp id λh e=>?_)).symm;rcases hl h e with rfl|⟨g',rfl⟩
    ·exact hh rfl
    ·exact hc rfl
 ·show c.rd+_-c.at_=_;rw[ha];unfold pC;rw[JE hi]
end
theorem EM{cd:List (List (List Nat))}{rs:List Row}(L:Laid cd rs ws sp z)(y:List Nat)(h:i<rs.length):pC rs sp (z++y) i≠(((z++y).length:Nat):Int):=by
 unfold pC;rw[JE h];have:=L.mono i (rs.length-i-1) (by lia)
 rw[show i+(rs.length-i-1)+1=rs.length by lia,<- L.last] at this
 rw[J5];lia
theorem BO{cd:List (List (List Nat))}{rs:List Row}(L:Laid cd rs ws sp z)(y:List Nat){c:BS}(hi:i<=rs.length)(ha:c.at_=pC rs sp (z++y) i):pZ cd (z++y) c=if i=rs.length then "halt" else "more":=by
 unfold pZ;by_cases h:i<rs.length
 ·rw[JA (by rw[ha];exact EM L y h),ha,L.read y h,JA (by lia)]
 ·rw[JE (by rw[ha];unfold pC;rw[JA h]),JE (by lia)]
structure Iw (g w:List Int) (k:Nat) (a b:hV):Prop where
 ga:a.given=g
 gb:b.given=w
 told:a.told=b.told
 bs:a.bs=b.bs
 le:b.heard<=k
 hd:a.heard=min b.heard g.length
theorem Iw.step{g w:List Int}{k:Nat}{a b:hV}(h:Iw g w k a b)(hw:∀i,i<=k->w[i]?=some (g[i]?.getD 0))(r:d6):Iw g w (k+1) (carry a r).2 (carry b r).2/\(carry a r).1=(carry b r).1:=by
 obtain⟨h1,h2,h3,h4,h5,h6⟩:=h;obtain⟨ag,ah,at',ab⟩:=a;obtain⟨bg,bh,bt,bb⟩:=b;dsimp only at *;subst h1;subst h2;subst h3;subst h4
 cases r with
 |put x n=>exact⟨⟨rfl,rfl,rfl,rfl,Ls h5,h6⟩,rfl⟩
 |two u x y=>exact⟨⟨rfl,rfl,rfl,rfl,Ls h5,h6⟩,rfl⟩
 |jump g=>exact⟨⟨rfl,rfl,rfl,rfl,Ls h5,h6⟩,rfl⟩
 |zero x g=>exact⟨⟨rfl,rfl,rfl,rfl,Ls h5,h6⟩,rfl⟩
 |halt=>exact⟨⟨rfl,rfl,rfl,rfl,Ls h5,h6⟩,rfl⟩
 |one u x =>
  rcases nA u with rfl|rfl
  ·exact⟨⟨rfl,rfl,rfl,rfl,Ls h5,h6⟩,rfl⟩
  ·have hb:=hw bh h5;have eb:de ⟨bg,bh,at',ab⟩=(ag[bh]?.getD 0,⟨bg,bh+1,at',ab⟩):=by
    unfold de;dsimp only;rw[hb]
   refine⟨?_,rfl⟩;have ec:∀s:hV,(carry s (.one 1 x)).2={(de s).2 with bs:=(de s).2.bs.set x ((de s).1 % 65536)}:=λ_=>rfl
   rw[ec,ec,eb];by_cases c:bh<ag.length
   ·have ea:de ⟨ag,ah,at',ab⟩=(ag[bh]?.getD 0,⟨ag,ah+1,at',ab⟩):=by
     unfold de;dsimp only;rw[h6,Nat.min_eq_left (Nat.le_of_lt c),List.getElem?_eq_getElem c];rfl
    rw[ea];exact⟨rfl,rfl,rfl,rfl,NK h5,by show ah+1=min (bh+1) _;lia⟩
   ·have ea:de ⟨ag,ah,at',ab⟩=(ag[bh]?.getD 0,⟨ag,ah,at',ab⟩):=by
     unfold de;dsimp only;rw[h6,Nat.min_eq_right (by lia),List.getElem?_eq_none (Nat.le_refl _),List.getElem?_eq_none (by lia)];rfl
    rw[ea];exact⟨rfl,rfl,rfl,rfl,NK h5,by show ah=min (bh+1) _;lia⟩
structure Tl where
 how:Str
 told:List Int
 rd:Int
 bs:List Int
noncomputable def vp(cd:List (List (List Nat)))(z:List Nat)(c:BS):Tl:=⟨pZ cd z c,c.st.told,c.rd,c.st.bs⟩
noncomputable def Bu(H:Hp)(v:V)(x:Tl):Prop:=∃t p1 p2,v=.ref t/\H t=some (.tup [.str x.how,.ref p1,.int x.rd,.ref p2])/\H p1=some (.tup (iV x.told))/\H p2=some (.tup (iV x.bs))
theorem Fl.tl{v:V}{cd:List (List (List Nat))}{c:BS}(h:Fl H v cd z c):Bu H v (vp cd z c):=h
theorem Bu.keep{v:V}{x:Tl}(h:Bu H v x)(k:KB ex H H')(hx:NT ex H):Bu H' v x:=by
 obtain⟨t,p1,p2,e,a1,a2,a3⟩:=h;exact⟨t,p1,p2,e,k _ _ a1 λz=>hx _ z _ a1,k _ _ a2 λz=>hx _ z _ a2,k _ _ a3 λz=>hx _ z _ a3⟩
theorem Bu.kb{v:V}{x:Tl}(h:Bu H v x)(k:KB [] H H'):Bu H' v x:=h.keep k (NT.nil _)
theorem Gp{v u:V}{x:Tl}(h1:Bu H v x)(h2:Bu H u x)(q:Q (.bl (!neg)) H):Y.rb K 4 neg v u H Q:=by
 obtain⟨t,p1,p2,rfl,a1,a2,a3⟩:=h1;obtain⟨t',p1',p2',rfl,b1,b2,b3⟩:=h2;refine jX a1 b1 (xs:=[.str x.how,.tup (x.told.map T.int),.int x.rd,.tup (x.bs.map T.int)]) (.cons (.str _) (.cons (jO a2) (.cons (.int _) (.cons (jO a3) .nil)))) (.cons (.str _) (.cons (jO b2) (.cons (.int _) (.cons (jO b3) .nil)))) (λy hy=>?_) q;simp only[J9,J_,KA] at hy;rcases hy with rfl|rfl|rfl|rfl
 ·exact uf _ _
 ·exact pq _ _
 ·exact jV _ _
 ·exact pq _ _
structure RS where
 st:hV
 at_:Nat
 tn:List Nat
noncomputable def mW(rs:List Row)(c:RS)(r:Row):RS:=⟨(carry c.st (r.m 0)).2,Dz c.st r c.at_ rs.length,c.tn.set c.at_ (c.tn.getD c.at_ 0+1)⟩
noncomputable def bJ(rs:List Row):Nat->RS->RS
 |0,c=>c
 |n+1,c=>match rs[c.at_]? with
  |none=>c
  |some r=>bJ rs n (mW rs c r)
noncomputable def sR(rs:List Row)(g:List Int):RS:=⟨FQ g,0,List.replicate rs.length 0⟩
noncomputable def nv(rs:List Row)(c:RS):Str:=if c.at_<rs.length then "more" else "halt"
noncomputable def Jo(H:Hp)(v:V)(rs:List Row)(c:RS):Prop:=∃t p1 p2 p3,v=.ref t/\H t=some (.tup [.str (nv rs c),.ref p1,.ref p2,.ref p3])/\H p1=some (.tup (iV c.st.told))/\H p2=some (.tup (iV (nZ c.tn)))/\H p3=some (.tup (iV c.st.bs))
theorem w6(st:hV)(r:Row)(i n:Nat):place st (r.m (((aD r).getD 0:Nat):Int)) ((i:Int)+1) (n:Int)=((Dz st r i n:Nat):Int):=by
 by_cases hh:r=.halt
 ·subst hh;rfl
 ·have e1:Dz st r i n=if (carry st (r.m 0)).1=true then (aD r).getD 0 else i+1:=by cases r<;>first|rfl|exact absurd rfl hh
  have e2:∀(g bh en:Int),place st (r.m g) bh en=if (carry st (r.m g)).1=true then ((jw (r.m g)).getD 0) else bh:=λg bh en=>by cases r<;>first|rfl|exact absurd rfl hh
  rw[e2,e1,jM _ _ _ 0];by_cases hc:(carry st (r.m 0)).1=true
  ·rw[JE hc,JE hc];obtain⟨t,ht⟩:=ik hc;have eg:∀g,jw (r.m g)=some g:=λg=>by cases r<;>first|rfl|cases ht
   rw[eg];rfl
  ·rw[JA hc,JA hc];rfl
theorem Ig{r:Row}{n:Nat}(h:r.Ok n)(g:Int):(r.m g).Ok:=by
 cases r with
 |put b n=>exact h.1
 |two u a b=>exact h
 |one u b=>exact h
 |jump g=>exact trivial
 |zero b g=>exact h.1
 |halt=>exact trivial
noncomputable def wU(K:W.Frag):Sp:=λvs H Q _=>∃(a gv:Addr) (rs:List Row) (g:List Int) (most:Nat),vs=[.ref a,.ref gv,.int (most:Nat)]/\ur H a rs/\H gv=some (.tup (iV g))/\rs.length<=64/\(∀r∈rs,r.Ok rs.length)/\most<=10000/\∀v H',KB [] H H'->Jo H' v rs (bJ rs most (sR rs g))->Q v H'
theorem Bq(T:Txt K mg)(hgoal_of:au P w K mg base aY 1 "goal_of" ["row"] gJ)(F:HasFn K mg "run_rows" fF ["program","given","most"]):au P w K mg base aY 7 "run_rows" ["program","given","most"] (wU K):=by
 obtain⟨C_Machine,f___init__,f_place_next,f_carry_out,f_number_for,f_heard_number,f_told_numbers,f_box_numbers,d___init__,d_place_next,d_carry_out,d_number_for,d_heard_number,d_told_numbers,d_box_numbers,hC_Machine,cM,na_given,na_heard,na_told,na_boxes,mm___init__,FM___init__,bm___init__,mm_place_next,FM_place_next,bm_place_next,mm_carry_out,FM_carry_out,bm_carry_out,mm_number_for,FM_number_for,bm_number_for,mm_heard_number,FM_heard_number,bm_heard_number,mm_told_numbers,FM_told_numbers,bm_told_numbers,mm_box_numbers,FM_box_numbers,bm_box_numbers⟩:=T.mc;have FO_heard_number:=oK (P:=P) (w:=w) (mg:=mg) (base:=base) T cM na_given na_heard FM_heard_number;have FO_number_for:=yv (P:=P) (w:=w) (mg:=mg) (base:=base) T cM na_boxes mm_heard_number bm_heard_number FO_heard_number FM_number_for;have FO_carry_out:=pS (P:=P) (w:=w) (mg:=mg) (base:=base) T cM na_boxes na_told mm_number_for bm_number_for FO_number_for FM_carry_out;have FO_place_next:=oV T hgoal_of cM mm_carry_out bm_carry_out FO_carry_out FM_place_next;have FO_told_numbers:=t_ (P:=P) (w:=w) (mg:=mg) (base:=base) T cM na_told FM_told_numbers;have FO_box_numbers:=qd (P:=P) (w:=w) (mg:=mg) (base:=base) T cM na_boxes FM_box_numbers;have FO___init__:=tT (P:=P) (w:=w) (mg:=mg) (base:=base) T cM na_given na_heard na_told na_boxes FM___init__;refine F.eW bZ (λvs H Q E h=>?_) (λf cdv A outer s H vs Q E hr h=>?_)
 ·obtain⟨a,gv,rs,g,most,rfl,_⟩:=h;rfl
 ·obtain⟨pa,gv,rs,g,most,rfl,hp,og1,hl,aQ,hmo,q⟩:=h;have hu:=aP hr;refine⟨_,(Z.ao (Z.se (i:=3) bZ.nd (Z.make K rfl mm___init__ FO___init__ (hr.mono (by decide)) rfl hC_Machine bm___init__ fQ (Z.cons (Z.v 1) Z.nil)))
   (Z.ao (Z.sec (j:=4) bZ.nd (osc:=af fF) (ON:=["program","given","most","machine","turns","at","done","how"]) (own:=["row"]) (N:=["row","program","given","most","machine","turns","at","done","how"]) (aG.of rfl (by decide +kernel)) (Z.any K rfl (Z.v 0)) (λnd _ _ _ _=>(Z.aT (i:=0) nd rfl (by right))) (λ_ _ _ _=>Z.lZ) (λ_ _ _ _=>Z.int))
   (Z.ao (Z.se (i:=5) bZ.nd Z.int)
   (Z.ao (Z.se (i:=6) bZ.nd Z.int)
   (Z.ao (Z.ia Kl (Z.tw (Z.vn (Z.aZ eF (Z.v 5) (Z.cb (Z.cJ K rfl) rfl T.cy (by decide +kernel) (Z.cons (Z.v 0) Z.nil))) (Z.mV (Z.aZ eF (Z.v 6) (Z.v 2))))) (Z.ao (Z.asg (Z.op (Z.bf K rfl) (Z.ix (Z.aM K rfl hu) (Z.v 4) (Z.v 5)) Z.int) (Z.z_ (Z.v 4) (Z.v 5)))
   (Z.ao (Z.se (i:=6) bZ.nd (Z.op (Z.bf K rfl) (Z.v 6) Z.int))
   (Z.aA (Z.se (i:=5) bZ.nd (Z.B5 K rfl (Z.v 3) cM mm_place_next FO_place_next (hr.mono (by decide)) bm_place_next fQ (Z.cons (Z.ix (Z.aM K rfl hu) (Z.v 0) (Z.v 5)) (Z.cons (Z.op (Z.bf K rfl) (Z.v 5) Z.int) (Z.cons (Z.cb (Z.cJ K rfl) rfl T.cy (by decide +kernel) (Z.cons (Z.v 0) Z.nil)) Z.nil)))))))))
   (Z.ao (Z.se (i:=7) bZ.nd (Z.Bf (Z.aZ eF (Z.v 5) (Z.cb (Z.cJ K rfl) rfl T.cy (by decide +kernel) (Z.cons (Z.v 0) Z.nil))) Z.str Z.str))
   (Z.aA (Z.ret (Z.tup (Z.cons (Z.v 7) (Z.cons (Z.p_ K rfl (Z.v 3) cM mm_told_numbers FO_told_numbers (hr.mono (by decide)) bm_told_numbers fQ) (Z.cons (Z.ct (Z.b_ K rfl) rfl T.cc (by decide +kernel) (Z.cons (Z.v 4) Z.nil)) (Z.cons (Z.p_ K rfl (Z.v 3) cM mm_box_numbers FO_box_numbers (hr.mono (by decide)) bm_box_numbers fQ) Z.nil))))))))))))),?_⟩
  refine ax λN hN=>?_;nofun;intro x dx hx0 hdx0 hxd;have gx:gv≠x:=λzz=>by rw[zz,hx0] at og1;cases og1
  have gd:gv≠dx:=λzz=>by rw[zz,hdx0] at og1;cases og1
  refine⟨x,dx,gv,g,rfl,ae,by rw[aj hxd];exact ae,by rw[aj gx,aj gd];exact og1,λH2 tl bx htl hbx M2 kb2=>⟨rfl,?_⟩⟩
  have k12:KB [] H H2:=λc o e _=>kb2 c o (by rw[aj (aq e hx0),aj (aq e hdx0)];exact e) (by simpa using aq e hx0)
  obtain⟨a,ea⟩:∃a:MA,a=⟨x,dx,gv,tl,bx⟩:=⟨_,rfl⟩;have em:x=a.m:=by rw[ea]
  rw[<- ea] at M2;rw[em];have new:∀b,b∈MF a->H b=none:=λb hb=>by
   have un:∀{c:Addr},upd (upd H dx (HO.own x)) x (HO.ins C_Machine dx []) c=none->H c=none:=λ{c} e=>by
    by_cases c1:c=x
    ·rw[c1];exact hx0
    ·rw[aj c1] at e;by_cases c2:c=dx
     ·rw[c2];exact hdx0
     ·rw[aj c2] at e;exact e
   rw[ea] at hb;simp only[MF,J9,J_,KA] at hb;rcases hb with rfl|rfl|rfl
   ·exact hx0
   ·exact un htl
   ·exact un hbx
  have ntp:∀{G:Hp} {st:hV},MS K C_Machine G a st->NT (MF a) G:=λM b hb xs e=>by
   simp only[MF,J9,J_,KA] at hb;rcases hb with rfl|rfl|rfl
   ·rw[M.om] at e;cases e
   ·rw[M.ot] at e;cases e
   ·rw[M.ob] at e;cases e
  have keepH:∀{G G':Hp},KB [] H G->KB (MF a) G G'->KB [] H G':=λo k c u e _=>k _ _ (o _ _ e (by simp)) λzz=>by rw[new c zz] at e;cases e
  clear gx gd htl hbx kb2 og1 em;rw[hN];clear hN N;refine ax λN hN=>?_;obtain⟨ps,hps,hpa⟩:=hp.kb k12;have hpl:=hpa.1;exists aC hps;refine cq (xs:=ps.map V.ref) (JF (show _<=64 by rw[Jz];lia) (by decide)) (λD i ys H'=>H2 D=none/\H' D=some (.lst ys)/\KB [] H2 H'/\ys=iV (nZ (List.replicate i 0))) (λD hD=>⟨hD,ae,KB.new hD,rfl⟩) (λD i ys H' h=>⟨h.2.1,by rw[h.2.2.2,bU,bp,JS]⟩) (λD i ys H' h=>bz.of (h.2.2.1 _ _ hps (by simp))) ?_ ?_
  ·rintro D i ys H' z R hz ⟨g0,g1,gk,rfl⟩ kk;nofun;exact kk _ _ g1 ⟨g0,ae,λu o e _=>by rw[aj (aq e g0)];exact gk _ _ e (by simp),by rw[List.replicate_succ'];unfold nZ iV;rw[JR,JR];rfl⟩
  rintro tn ys H3 ⟨htn,gtn,k3,rfl⟩;rw[Jz,hpl] at gtn;have M3:=M2.kb k3;have k03:=k12.trans k3;have ntn:tn∉MF a:=λz=>by
   have:∃o,H2 tn=some o:=by
    simp only[MF,J9,J_,KA] at z;rcases z with rfl|rfl|rfl
    ·exact⟨_,M2.om⟩
    ·exact⟨_,M2.ot⟩
    ·exact⟨_,M2.ob⟩
   obtain⟨o,e⟩:=this;rw[htn] at e;cases e
  have htnH:H tn=none:=k12.free (by simp) htn
  show N _ _;rw[hN];clear hN N;refine ax λN hN=>?_;nofun;rw[hN];clear hN N;refine ax λN hN=>?_;nofun;rw[hN];clear hN N;obtain⟨R,eR⟩:∃R,R=bJ rs most (sR rs g):=⟨_,rfl⟩;rw[<- eR] at q;clear hps hpa hpl k3 M2 k12;refine ax λN hN=>?_;refine⟨λm σ H'=>∃(n:Nat) (c:RS),n<=most/\m=most-n/\R=bJ rs (most-n) c/\c.st.told.length<=n/\c.at_<=rs.length/\c.tn.length=rs.length/\MS K C_Machine H' a c.st/\KB [] H H'/\H' tn=some (.lst (iV (nZ c.tn)))/\σ=[some (V.ref pa),some (V.ref gv),some (V.int (most:Nat)),some (V.ref a.m),some (V.ref tn),some (V.int (c.at_:Nat)),some (V.int (n:Nat)),none],⟨most,0,sR rs g,JL _,rfl,eR,JL _,JL _,JS ..,M3,k03,gtn,rfl⟩,?_⟩;rintro m σ H4 ⟨n,c,hn,rfl,hrun,htl,hat,htl2,M4,old4,gt4,rfl⟩;obtain⟨ps,hps,hpa⟩:=hp.kb old4;have hpl:=hpa.1;have fin:R=c->N [some (V.ref pa),some (V.ref gv),some (V.int (most:Nat)),some (V.ref a.m),some (V.ref tn),some (V.int (c.at_:Nat)),some (V.int (n:Nat)),none] H4:=λhc=>by
   rw[hN];clear hN N;subst hc;refine ax λN hN=>?_;have ret:N [some (V.ref pa),some (V.ref gv),some (V.int (most:Nat)),some (V.ref a.m),some (V.ref tn),some (V.int (R.at_:Nat)),some (V.int (n:Nat)),some (V.str (nv rs R))] H4:=by
    rw[hN];clear hN N;nofun;refine⟨a.m,a.dx,_,rfl,M4.om,vY (by decide +kernel) (by decide +kernel) (by decide +kernel) (by decide +kernel),a,R.st,rfl,M4,λp1 hp1=>?_⟩
    have k5:KB [] H4 (upd H4 p1 (.tup (iV R.st.told))):=KB.new hp1;have t5:upd H4 p1 (.tup (iV R.st.told)) p1=some (.tup (iV R.st.told)):=ae;generalize upd H4 p1 (.tup (iV R.st.told))=H5 at *;have M5:=M4.kb k5;exists az (k5 _ _ gt4 (by simp))
    intro p2 hp2;have k6:KB [] H5 (upd H5 p2 (.tup (iV (nZ R.tn)))):=KB.new hp2;have t6:upd H5 p2 (.tup (iV (nZ R.tn))) p2=some (.tup (iV (nZ R.tn))):=ae;generalize upd H5 p2 (.tup (iV (nZ R.tn)))=H6 at *;have M6:=M5.kb k6;refine⟨a.m,a.dx,_,rfl,M6.om,vY (by decide +kernel) (by decide +kernel) (by decide +kernel) (by decide +kernel),a,R.st,rfl,M6,λp3 H7 hp3 t7 k7=>?_⟩
    refine⟨by decide,λp4 hp4=>?_⟩
    have k8:=KB.new (ex:=[]) (o:=.tup [.str (nv rs R),.ref p1,.ref p2,.ref p3]) hp4;exact q _ _ (old4.trans (k5.trans (k6.trans (k7.trans k8)))) ⟨p4,p1,p2,p3,rfl,ae,k8 _ _ (k7 _ _ (k6 _ _ t5 (by simp)) (by simp)) (by simp),k8 _ _ (k7 _ _ t6 (by simp)) (by simp),k8 _ _ t7 (by simp)⟩
   exists aC hps,Jz,hpl;unfold nv at ret;by_cases c1:R.at_<rs.length
   ·rw[JE c1] at ret;rw[JE (show (R.at_:Int)<(rs.length:Nat) by lia)]
    exact ret
   ·rw[JA c1] at ret;rw[JA (show ¬ (R.at_:Int)<(rs.length:Nat) by lia)]
    exact ret
  exists aC hps,Jz,hpl;by_cases c1:(c.at_:Int)<(rs.length:Nat)
  ·rw[JE c1];have hlt:c.at_<rs.length:=by lia
   have er:=Jx hlt;by_cases c2:((n:Nat):Int)<(most:Nat)
   ·rw[JE c2];have nx:bJ rs (most-n) c=bJ rs (most-(n+1)) (mW rs c rs[c.at_]):=by
     rw[show most-n=(most-(n+1))+1 by lia,bJ,er]
    refine⟨λσ' H'=>∃m',m'<most-n/\∃(n:Nat) (c:RS),n<=most/\m'=most-n/\R=bJ rs (most-n) c/\c.st.told.length<=n/\c.at_<=rs.length/\c.tn.length=rs.length/\MS K C_Machine H' a c.st/\KB [] H H'/\H' tn=some (.lst (iV (nZ c.tn)))/\σ'=[some (V.ref pa),some (V.ref gv),some (V.int (most:Nat)),some (V.ref a.m),some (V.ref tn),some (V.int (c.at_:Nat)),some (V.int (n:Nat)),none],λ_ _ h=>h,?_⟩;have av:bV (iV (nZ c.tn)) (c.at_:Int)=some (.int ((c.tn.getD c.at_ 0:Nat):Int)):=bq (by unfold iV nZ;rw[Lp,JC,Jx (show c.at_<c.tn.length by lia),JI,Jx (show c.at_<c.tn.length by lia)];rfl)
    have c3:kK (iV (nZ c.tn)).length (c.at_:Int)=some c.at_:=by
     rw[bU,bp];unfold kK;rw[JE (by lia),JE (by lia),Kb]
    exists az gt4,av,gt4,c3;have es:(iV (nZ c.tn)).set c.at_ (.int (((c.tn.getD c.at_ 0:Nat):Int)+1))=iV (nZ (c.tn.set c.at_ (c.tn.getD c.at_ 0+1))):=by unfold iV nZ;rw[OE,OE];rfl
    rw[es];have kt:KB [tn] H4 (upd H4 tn (.lst (iV (nZ (c.tn.set c.at_ (c.tn.getD c.at_ 0+1)))))):=KB.set (by simp)
    have gt5:upd H4 tn (.lst (iV (nZ (c.tn.set c.at_ (c.tn.getD c.at_ 0+1))))) tn=_:=ae;have old5:KB [] H (upd H4 tn (.lst (iV (nZ (c.tn.set c.at_ (c.tn.getD c.at_ 0+1)))))):=λu o e z=>by rw[aj (aq e htnH)];exact old4 _ _ e z
    generalize upd H4 tn (.lst (iV (nZ (c.tn.set c.at_ (c.tn.getD c.at_ 0+1)))))=H5 at *;have ne:∀b∈MF a,b∉[tn]:=λb hb z=>ntn (by rw[<- JQ.mp z];exact hb)
    have ntd:∀{b:Addr} {o:HO},H4 b=some o->(∀xs,o≠.lst xs)->b∉[tn]:=λe ho z=>by
     rw[JQ.mp z,gt4] at e;cases e;exact ho _ rfl
    have M5:MS K C_Machine H5 a c.st:=⟨kt _ _ M4.om (ne _ (by unfold MF;simp)),kt _ _ M4.od (ntd M4.od (λxs z=>nomatch z)),kt _ _ M4.og (ntd M4.og (λxs z=>nomatch z)),kt _ _ M4.ot (ne _ (by unfold MF;simp)),kt _ _ M4.ob (ne _ (by unfold MF;simp)),M4.l8,M4.hh⟩
    obtain⟨qs,hqs,hqa⟩:=hp.kb old5;have hql:=hqa.1;have eq1:=Jx (show c.at_<qs.length by lia)
    generalize qs[c.at_]'_=ra at eq1;have ar:bV (qs.map V.ref) (c.at_:Int)=some (.ref ra):=bq (by rw[JC,eq1];rfl)
    have hra:=hqa.2 _ _ _ eq1 er;have rok:=aQ _ (JN hlt);generalize rs[c.at_]=r at *;rw[Gu] at hra;refine⟨a.m,a.dx,_,rfl,M5.om,vY (by decide +kernel) (by decide +kernel) (by decide +kernel) (by decide +kernel),?_⟩
    exists aC hqs,ar,Jz,hql;refine⟨a,c.st,ra,r.m _,_,_,rfl,M5,hra,Ig rok _,by lia,λH6 M6 k6=>?_⟩
    rw[w6];have tle:=tu c.st (r.m (((aD r).getD 0:Nat):Int));rw[jM _ _ _ 0] at M6 tle;refine⟨most-(n+1),by lia,n+1,mW rs c r,by lia,rfl,hrun.trans nx,?_,yf hlt rok,by show (c.tn.set _ _).length=_;rw[KZ];exact htl2,M6,keepH old5 k6,k6 _ _ gt5 ntn,rfl,rfl⟩
    show (carry c.st (r.m 0)).2.told.length<=n+1;lia
   ·rw[JA c2];refine fin ?_;rw[hrun,show most-n=0 by lia];rfl
  ·rw[JA c1];refine fin ?_;rw[hrun]
   cases hz:most-n with
   |zero=>rfl
   |succ z=>rw[bJ,O1 (show rs.length<=c.at_ by lia)]
noncomputable def cnt(sp:List Nat):Nat->List Nat->Int
 |_,[]=>0
 |k,t::ts=>(t:Int)*(((sp.getD (k+1) 0:Nat):Int)-((sp.getD k 0:Nat):Int))+cnt sp (k+1) ts
theorem tU(sp:List Nat):∀(ts:List Nat) (k i:Nat),i<ts.length->cnt sp k (ts.set i (ts.getD i 0+1))=cnt sp k ts+((sp.getD (k+i+1) 0:Nat):Int)-((sp.getD (k+i) 0:Nat):Int)
 |[],_,_,h=>absurd h (L4 _)
 |t::ts,k,0,_=>by
  show ((t+1:Nat):Int)*_+_=(t:Int)*_+_+_-_;rw[OD,show ((t+1:Nat):Int)=(t:Int)+1 from rfl,Int.add_mul,Int.one_mul];lia
 |t::ts,k,i+1,h=>by
  show (t:Int)*_+cnt sp (k+1) (ts.set i (ts.getD i 0+1))=(t:Int)*_+cnt sp (k+1) ts+_-_;rw[tU sp ts (k+1) i (by simpa using h),show k+1+i=k+(i+1) by lia]
  lia
theorem pM(sp:List Nat):∀(n k:Nat),cnt sp k (List.replicate n 0)=0
 |0,_=>rfl
 |n+1,k=>by rw[Ku,cnt,pM sp n (k+1)];simp
structure Gs (rs:List Row) (sp z:List Nat) (c:RS) (d:BS):Prop where
 le:c.at_<=rs.length
 tl:c.tn.length=rs.length
 st:d.st=c.st
 at_:d.at_=pC rs sp z c.at_
 rd:d.rd=cnt sp 0 c.tn
theorem oh{cd:List (List (List Nat))}{rs:List Row}(L:Laid cd rs ws sp z):∀(m:Nat) (c:RS) (d:BS),Gs rs sp z c d->Gs rs sp z (bJ rs m c) (df cd z m d)
 |0,_,_,h=>h
 |m+1,c,d,h=>by
  obtain⟨h1,h2,h3,h4,h5⟩:=h;by_cases hc:c.at_<rs.length
  ·have hst:=L.step [] (.inl rfl) (c:=d) hc (by rw[Kp];exact h4)
   rw[Kp] at hst;obtain⟨x,e1,e2,e3,e4⟩:=hst;rw[bJ,df,e1,Jx hc];refine oh L m _ _ ⟨yf hc (L.ok _ (JN hc)),by show (c.tn.set _ _).length=_;rw[KZ];exact h2,by rw[e2,h3];rfl,by rw[e3,h3];rfl,?_⟩
   rw[e4,h5];show _=cnt sp 0 (c.tn.set c.at_ (c.tn.getD c.at_ 0+1));rw[tU sp c.tn 0 c.at_ (by lia),Lb]
  ·have n1:yw cd z d.at_=none:=by rw[h4];unfold pC;rw[JA hc];exact AV L.hR
   rw[bJ,df,n1,O1 (show rs.length<=c.at_ by lia)]
   exact⟨h1,h2,h3,h4,h5⟩
theorem nS{cd:List (List (List Nat))}{rs:List Row}(L:Laid cd rs ws sp z)(g:List Int):Gs rs sp z (sR rs g) (ER g):=by
 refine⟨JL _,JS ..,rfl,?_,(pM sp rs.length 0).symm⟩;have e:=L.nr [] (.inl rfl) (t:=0) (JL _) (.inl rfl);rw[Kp] at e;show (0:Int)=pC rs sp z 0;rw[e,L.mJ];obtain⟨l,e⟩:=jq 0 (fO cd rs) (rs.map aD) ws;rw[e];rfl
theorem wx{cd:List (List (List Nat))}{rs:List Row}(L:Laid cd rs ws sp z){c:RS}{d:BS}(h:Gs rs sp z c d):pZ cd z d=nv rs c:=by
 have e:=BO L [] (c:=d) h.le (by rw[Kp];exact h.at_)
 rw[Kp] at e;rw[e];unfold nv;by_cases hc:c.at_<rs.length
 ·rw[JE hc,JA (by lia)]
 ·rw[JA hc,JE (by have:=h.le;lia)]
theorem uE{rs:List Row}:∀(m:Nat) (c:RS),c.tn.length=rs.length->∃j,j<=m/\(bJ rs m c).tn.sum=c.tn.sum+j/\bJ rs j c=bJ rs m c
 |0,c,_=>⟨0,JD _,rfl,rfl⟩
 |m+1,c,h=>by
  cases e:rs[c.at_]? with
  |none=>exact⟨0,JL _,by rw[bJ,e];rfl,by rw[bJ,bJ,e]⟩
  |some r =>
   have hlt:=(J6.mp e).1;obtain⟨j,h1,h2,h3⟩:=uE (rs:=rs) m (mW rs c r) (by show (c.tn.set _ _).length=_;rw[KZ];exact h)
   have es:(mW rs c r).tn.sum=c.tn.sum+1:=tH (Jx (show c.at_<c.tn.length by lia))
   refine⟨j+1,by lia,?_,?_⟩
   ·rw[bJ,e];show (bJ rs m (mW rs c r)).tn.sum=_;rw[h2,es];lia
   ·rw[bJ,bJ,e];exact h3
theorem tP{cd:List (List (List Nat))}{rs:List Row}(L:Laid cd rs ws sp z)(g:List Int)(most:Nat):vp cd z (df cd z most (ER g))=⟨nv rs (bJ rs most (sR rs g)),(bJ rs most (sR rs g)).st.told,cnt sp 0 (bJ rs most (sR rs g)).tn,(bJ rs most (sR rs g)).st.bs⟩/\vp cd z (df cd z (bJ rs most (sR rs g)).tn.sum (ER g))=vp cd z (df cd z most (ER g))/\(bJ rs most (sR rs g)).tn.sum<=most:=by
 have s1:=oh L most _ _ (nS L g);have e1:∀{c:RS} {d:BS},Gs rs sp z c d->vp cd z d=⟨nv rs c,c.st.told,cnt sp 0 c.tn,c.st.bs⟩:=λh=>by unfold vp;rw[wx L h,h.st,h.rd]
 obtain⟨j,h1,h2,h3⟩:=uE most (sR rs g) (JS ..);have h2':(bJ rs most (sR rs g)).tn.sum=j:=by
  rw[h2];show (List.replicate rs.length 0).sum+j=j;rw[LW];lia
 rw[h2'];have s2:=oh L j _ _ (nS L g);rw[h3] at s2;exact⟨e1 s1,by rw[e1 s1,e1 s2],h1⟩
theorem Ab(xs:List V)(v:V):dJ (xs++[v]) none (some (-1))=xs:=by
 unfold dJ;rw[HT.dP,Lf,Nc];have:HT.bW (xs++[v]).length (xs++[v]).length (some (-1))=xs.length:=by
  unfold HT.bW;simp only[show ((-1:Int)<0)=True from eq_true (by decide),Mt,J5,JK,K2]
  lia
 rw[this,MD]
noncomputable def za:Sp:=λvs H Q _=>∃(a:Addr) (xs:List V) (v:V) (g:Int),vs=[.ref a,.int g]/\H a=some (.tup (xs++[v]))/\xs≠[]/\xs.length<=2/\∀p H',KB [] H H'->H' p=some (.tup (xs++[.int g]))->Q (.ref p) H'
theorem Bb(T:Txt K mg)(F:HasFn K mg "with_goal" gy ["row","goal"]):au P w K mg base aY 1 "with_goal" ["row","goal"] za:=by
 refine F.eW nN (λvs H Q E h=>?_) (λf cdv A outer s H vs Q E hr h=>?_)
 ·obtain⟨a,xs,v,g,rfl,_⟩:=h;rfl
 ·have hu:=aP hr;obtain⟨a,xs,v,g,rfl,ha,hne,hl,q⟩:=h;refine⟨_,(Z.aA (Z.ret (Z.op (Z.bf K rfl) (Z.slice (Z.wu K rfl) (Z.v 0) Z.Aj (Z.uF (Z.un dC Z.int))) (Z.tup (Z.cons (Z.v 1) Z.nil))))),?_⟩;exists aC ha;refine⟨a,_,rfl,bz.of ha,λz=>?_,λp hp=>?_⟩
  ·have h1:=z.2;have:HT.bW (xs++[v]).length (xs++[v]).length (some (-1))=xs.length:=by
    unfold HT.bW;simp only[show ((-1:Int)<0)=True from eq_true (by decide),Mt,J5,JK,K2]
    lia
   rw[this,J5] at h1;simp at h1
  rw[Ab];obtain⟨k1,s1⟩:=dF hp (.tup xs);generalize upd H p _=H1 at *;refine⟨by decide,λp2 hp2=>?_⟩
  obtain⟨k2,s2⟩:=dF hp2 (.tup [.int g]);have s12:=k2.n s1;generalize upd H1 p2 _=H2 at *;simp only[L2.Ap.addRef,s12,s2];refine⟨hne,by simp,JF (show _<=3 by simp;lia) (by decide),λp3 hp3=>?_⟩
  exact q _ _ (k1.trans (k2.trans (KB.new hp3))) ae
theorem AR(r:Row)(g:Int):ij (r.m g)=(match aD r with|none=>V.aR|some _=>.int g):=by cases r<;>rfl
theorem DC{r:Row}(g:Int)(h:aD r=none):(r.m g).vs=r.vs:=by cases r<;>first|rfl|cases h
theorem DJ{r:Row}(g:Int)(h:aD r=some t):∃xs:List V,xs≠[]/\xs.length<=2/\(r.m g).vs=xs++[.int g]/\r.vs=xs++[.int (t:Nat)]:=by
 cases r with
 |jump _=>cases h;exact⟨[.str "jump"],by simp,by simp,rfl,rfl⟩
 |zero b _=>cases h;exact⟨[.str "zero",.str (cx b)],by simp,by simp,rfl,rfl⟩
 |put=>cases h
 |two=>cases h
 |one=>cases h
 |halt=>cases h
noncomputable def xj:Sp:=λvs H Q _=>∃(a d:Addr) (st:V) (r:Row) (g:Int) (kvs:List (Key×V)),vs=[.ref a,st,.ref d]/\H a=some (.tup (r.m g).vs)/\H d=some (.dK kvs)/\(∀t,aD r=some t->fB kvs (.inl g)=some (.int (t:Nat)))/\∀p H',KB [] H H'->H' p=some (.tup r.vs)->Q (.ref p) H'
theorem AJ(T:Txt K mg)(F:HasFn K mg "goal_numbered" dB ["row","start","numbers"])(hgoal_of:au P w K mg base aY 1 "goal_of" ["row"] gJ)(hwith_goal:au P w K mg base aY 1 "with_goal" ["row","goal"] za):au P w K mg base aY 2 "goal_numbered" ["row","start","numbers"] xj:=by
 refine F.eW fj (λvs H Q E h=>?_) (λf cdv A outer s H vs Q E hr h=>?_)
 ·obtain⟨a,d,st,r,g,kvs,rfl,_⟩:=h;rfl
 ·have hu:=aP hr;obtain⟨a,d,st,r,g,kvs,rfl,ha,hd,hv,q⟩:=h;refine⟨_,(Z.ao (Z.se (i:=3) fj.nd (Z.fc hgoal_of (Z.cons (Z.v 0) Z.nil)))
   (Z.ao (Z.dA (Z.aZ cZ (Z.v 3) Z.aR) (Z.aA (Z.ret (Z.v 0))) Z.bH)
   (Z.ao (Z.dA (Z.aZ (Y.yt hu) (Z.v 3) (Z.v 2)) (Z.aA Z.HX) Z.bH)
   (Z.aA (Z.ret (Z.fc hwith_goal (Z.cons (Z.v 0) (Z.cons (Z.vv hu (Z.v 2) (Z.v 3)) Z.nil)))))))),?_⟩
  refine ax λN hN=>?_;nofun;refine⟨a,_,rfl,ha,?_⟩;rw[hN];clear hN N;rw[AR]
  cases c:aD r with
  |none =>
   refine ax λN hN=>?_;nofun;exact q _ _ (KB.refl _ _) (by rw[ha,DC g c])
  |some t =>
   refine ax λN hN=>?_;exists JA (show ¬ V.int g=V.aR from V.noConfusion);rw[hN];clear hN N;have hv1:=hv t c;have dg:jB H d (.int g) (some (.int (t:Nat))):=by
    have:=jB.k (k:=.inl g) hd;rw[hv1] at this;exact this
   refine ax λN hN=>?_;nofun;refine⟨d,_,rfl,dg,?_⟩;nofun;rw[hN];clear hN N;nofun;refine⟨d,_,rfl,dg,?_⟩;obtain⟨xs,x1,x2,x3,x4⟩:=DJ g c;rw[x3] at ha;exact⟨a,xs,_,_,rfl,ha,x1,x2,λp H' k e=>q p H' k (by rw[e,x4])⟩
theorem qa(hn:xs.length<=sizeLine)(Pv:Addr->Nat->List V->Hp->Prop)(h0:∀D,H D=none->Pv D 0 [] (upd H D (.lst [])))(hD:∀D i ys H',Pv D i ys H'->H' D=some (.lst ys)/\ys.length=i)
  (hl:∀D i ys H',Pv D i ys H'->bI K H' a xs)
  (hs:∀D i ys H' x p (R:VK),xs[i]?=some x->Pv D i ys H'->H' p=none->(∀v H5,H5 D=some (.lst ys)->Pv D (i+1) (ys++[v]) (upd H5 D (.lst (ys++[v])))->R v H5)->te (some (.int i)::some x::σ) (upd H' p (.tup [.int i,x])) R) (hd:∀D ys H',Pv D xs.length ys H'->Q (.ref D) H') :
  i6 (sh K a) 2 (nM K 2 (fq (b6 0) (fq (b6 1) nK))) dY te Q σ H:=by
 intro D hD0;refine⟨λi m ys σ' H'=>m=xs.length-i/\i<=xs.length/\Pv D i ys H'/\∃o1 o2,σ'=o1::o2::σ,⟨xs.length,by simp,JL _,h0 D hD0,none,none,rfl⟩,?_⟩
 rintro i m ys σ' H' ⟨rfl,hi,p,o1,o2,rfl⟩;obtain⟨hDi,hly⟩:=hD _ _ _ _ p;have q:=hl _ _ _ _ p;refine⟨hDi,?_⟩;by_cases hlt:i<xs.length
 ·refine .inr ⟨⟨xs[i],xs,q,by simp[hlt]⟩,by lia,λx H2 y=>?_⟩
  obtain⟨c,y,hy,fr,rfl,rfl⟩:=y;refine Gf ?_;unfold dY;dsimp only;rw[if_pos rfl];exact hs D i ys H' y c _ (hy xs q) p fr λv H5 q1 q2=>⟨q1,xs.length-(i+1),by lia,rfl,hlt,q2,_,_,rfl⟩
 ·have e:i=xs.length:=by lia
  subst e;exact .inl ⟨⟨xs,q,rfl⟩,hd D ys H' p⟩
theorem lu{ka kb:Bool}{b:Addr}{n:Nat}(hn:xs.length<=sizeLine)(hyx:xs.length<=ys.length)(Pv:Addr->Nat->List V->Hp->Prop)(h0:∀D,H D=none->Pv D 0 [] (upd H D (.lst [])))(hD:∀D i ws H',Pv D i ws H'->H' D=some (.lst ws)/\ws.length=i)
  (hl:∀D i ws H',Pv D i ws H'->lB K ka H' a xs/\lB K kb H' b ys)
  (hs:∀D i ws H' x y p (R:VK),xs[i]?=some x->ys[i]?=some y->Pv D i ws H'->H' p=none->(∀v H5,H5 D=some (.lst ws)->Pv D (i+1) (ws++[v]) (upd H5 D (.lst (ws++[v])))->R v H5)->te (some x::some y::σ) (upd H' p (.tup [x,y])) R) (hd:∀D ws H',Pv D (xs.length) ws H'->Q (.ref D) H') :
  i6 (FJ K (gT n [(ka,a),(kb,b)])) 2 (nM K 2 (fq (b6 0) (fq (b6 1) nK))) dY te Q σ H:=by
 intro D hD0;refine⟨λi m ws σ' H'=>m=xs.length-i/\i<=xs.length/\Pv D i ws H'/\∃o1 o2,σ'=o1::o2::σ,⟨xs.length,by simp,JL _,h0 D hD0,none,none,rfl⟩,?_⟩
 rintro i m ws σ' H' ⟨rfl,hi,p,o1,o2,rfl⟩;obtain⟨hDi,hly⟩:=hD _ _ _ _ p;obtain⟨q1,q2⟩:=hl _ _ _ _ p;refine⟨hDi,?_⟩;by_cases hlt:i<xs.length
 ·have hl1:i<ys.length:=by lia
  refine .inr ⟨⟨[xs[i],ys[i]],.cons ⟨xs,q1,by simp[hlt]⟩ (.cons ⟨ys,q2,by simp[hl1]⟩ .nil)⟩,by lia,λx H2 z=>?_⟩
  obtain⟨c,vs,pr,fr,rfl,rfl⟩:=z;obtain⟨y1,vs,rfl,e1,pr⟩:=Paired.gX pr;obtain⟨y2,vs,rfl,e2,pr⟩:=Paired.gX pr;cases pr;refine Gf ?_;unfold dY;dsimp only;rw[if_pos rfl];exact hs D i ws H' y1 y2 c _ (e1 xs q1) (e2 ys q2) p fr λv H5 g1 g2=>⟨g1,xs.length-(i+1),by lia,rfl,hlt,g2,_,_,rfl⟩
 ·have e:i=xs.length:=by lia
  subst e;exact .inl ⟨⟨[],(ka,n,a),_,[],rfl,.nil,xs,q1,rfl⟩,hd D ws H' p⟩
noncomputable def wD(sp:List Nat):List (Key×V):=(List.range sp.length).map λi=>(.inl (sp.getD i 0:Int),.int (i:Nat))
theorem tq(f:α->Int)(g:α->V):∀(l:List α) (x:α),x∈l->(∀y∈l,f y=f x->y=x)->fB (l.map λy=>((.inl (f y):Key),g y)) (.inl (f x))=some (g x)
 |[],_,h,_=>nomatch h
 |y::l,x,h,u=>by
  by_cases e:f y=f x
  ·have:=u y JH e;subst this;exact i3 rfl
  ·rw[Kg,iB (λz=>e (Sum.inl.inj z))];rcases J9.mp h with rfl|h
   ·exact absurd rfl e
   ·exact tq f g l x h λz hz=>u z (JG _ hz)
theorem sM{k:Nat}(h:k<sp.length):sp.take (k+1)=sp.take k++[sp.getD k 0]:=by
 rw[Ko,Jx h,JI,Jx h];rfl
theorem uN(l:List Nat)(x:Nat):iV (nZ (l++[x]))=iV (nZ l)++[.int (x:Nat)]:=by
 unfold nZ;rw[JR,eO];rfl
noncomputable def qZ(sp:List Nat)(r:Row):Int:=match aD r with|none=>0|some t=>(sp.getD t 0:Nat)
theorem Hv(sp:List Nat)(k:Nat)(r:Row):r.m (((sp.getD (k+1) 0:Nat):Int)+yR sp k r)=r.m (qZ sp r):=by
 unfold yR qZ fm
 cases r<;>first|rfl | (show _=_;dsimp only[aD];congr 1;lia)
noncomputable def PM(sp:List Nat)(H:Hp)(as:List Addr)(rs:List Row):Prop:=as.length=rs.length/\∀(i:Nat) (q:Addr) (r:Row),as[i]?=some q->rs[i]?=some r->H q=some (.tup (r.m (qZ sp r)).vs)
theorem PM.snoc{rs:List Row}{r:Row}(h:PM sp H as rs)(e:H q=some (.tup (r.m (qZ sp r)).vs)):PM sp H (as++[q]) (rs++[r]):=by
 refine⟨by rw[J5,J5,h.1];rfl,λi q' r' e1 e2=>?_⟩
 rcases Kx i as.length with hi|hi
 ·rw[Kf hi] at e1;rw[Kf (by rw[<- h.1];exact hi)] at e2
  exact h.2 i q' r' e1 e2
 ·have h1:=h.1;rw[JY hi] at e1;rw[JY (by lia),<- h1] at e2
  obtain⟨hj,rfl⟩:=J6.mp e1;obtain⟨hj2,rfl⟩:=J6.mp e2;have:i-as.length=0:=by simp at hj;lia
  simp only[this,MM];exact e
theorem PM.keep{rs:List Row}(h:PM sp H as rs)(k:KB ex H H')(hx:NT ex H):PM sp H' as rs:=⟨h.1,λi q r e1 e2=>k _ _ (h.2 i q r e1 e2) λz=>hx q z _ (h.2 i q r e1 e2)⟩
section
variable {cd:List (List (List Nat))} {rs:List Row} {ws sp z:List Nat}
theorem Laid.ne(L:Laid cd rs ws sp z){j:Nat}(hi:i<=rs.length)(hj:j<=rs.length)(h:sp.getD i 0=sp.getD j 0):i=j:=by
 rcases NB i j with c|c|c
 ·have:=L.mono i (j-i-1) (by lia)
  rw[show i+(j-i-1)+1=j by lia] at this
  lia
 ·exact c
 ·have:=L.mono j (i-j-1) (by lia)
  rw[show j+(i-j-1)+1=i by lia] at this
  lia
theorem Laid.kv(L:Laid cd rs ws sp z)(h:t<=rs.length):fB (wD sp) (.inl (sp.getD t 0:Int))=some (.int (t:Nat)):=by
 have sl:=L.sl;refine tq (λi=>((sp.getD i 0:Nat):Int)) (λi=>V.int (i:Nat)) (List.range sp.length) t (KJ.mpr (by lia)) λy hy e=>?_
 have:=KJ.mp hy;have e':((sp.getD y 0:Nat):Int)=((sp.getD t 0:Nat):Int):=e;exact L.ne (by lia) h (by lia)
theorem Laid.merge(L:Laid cd rs ws sp z):f7 [] (wD sp)=wD sp:=by
 rw[Y.jf _ [] ?_,KN];rw[KN];unfold wD;rw[Lp];have sl:=L.sl;refine MI.mpr (M7 (λ{i j} hi hj hne e=>?_) (List.nodup_range (n:=sp.length)));have h1:=KJ.mp hi;have h2:=KJ.mp hj;have e':((sp.getD i 0:Nat):Int)=((sp.getD j 0:Nat):Int):=Sum.inl.inj e;exact hne (L.ne (by lia) (by lia) (by lia))
theorem Laid.rd(L:Laid cd rs ws sp z){k:Nat}(hk:k<rs.length):∃x,Af cd z (sp.getD k 0)=some x/\x.2=sp.getD (k+1) 0/\qJ x=rs[k].m (qZ sp rs[k]):=by
 obtain⟨w0,_,lw,e1,e2,aQ⟩:=L.row hk;obtain⟨x,h1,h2,h3⟩:=yH (z:=z) (p:=sp.getD k 0) L.hR (L.ok _ (JN hk)) aQ (by rw[(L.at k (by lia)).1,e2];exact LQ _ _)
 refine⟨x,h1,by lia,?_⟩
 rw[h3,show x.2=sp.getD (k+1) 0 by lia,Hv]
end
noncomputable def uO:Sp:=λvs H Q _=>∃(b:Addr) (bk:List (List Int)) (rs:List Row) (ws sp z:List Nat),vs=[.str (wd z),.ref b]/\u5 H b bk/\Bk bk/\Laid (bQ bk) rs ws sp z/\dH z/\∀t H',KB [] H H'->ur H' t rs->Q (.ref t) H'
theorem y0(T:Txt K mg)(F:HasFn K mg "read_rows" d8 ["bits","book"])(hcodes_of:au P w K mg base aY 6 "codes_of" ["book"] (jW K))(hrow_at:au P w K mg base aY 5 "row_at" ["codes","bits","place"] (nR K))(hgoal_numbered:au P w K mg base aY 2 "goal_numbered" ["row","start","numbers"] xj):au P w K mg base aY 7 "read_rows" ["bits","book"] uO:=by
 refine F.eW cG (λvs H Q E h=>?_) (λf cdv A outer s H vs Q E hr h=>?_)
 ·obtain⟨b,bk,rs,ws,sp,z,rfl,_⟩:=h;rfl
 ·have hu:=aP hr;obtain⟨b,bk,rs,ws,sp,z,rfl,hb,hB,L,hz,q⟩:=h;have hzl:=L.IW;have sl:=L.sl;have rl:=L.le;refine⟨_,(Z.ao (Z.se (i:=2) cG.nd (Z.fc hcodes_of (Z.cons (Z.v 1) Z.nil)))
   (Z.ao (Z.se (i:=3) cG.nd (Z.lst Z.nil))
   (Z.ao (Z.se (i:=4) cG.nd (Z.lst (Z.cons Z.int Z.nil)))
   (Z.ao (Z.ia Kl (Z.aZ eF (Z.ix (Z.aM K rfl hu) (Z.v 4) (Z.un dC Z.int)) (Z.cb (Z.cJ K rfl) rfl T.cy (by decide +kernel) (Z.cons (Z.v 0) Z.nil))) (Z.ao (Z.se (i:=5) cG.nd (Z.fc hrow_at (Z.cons (Z.v 2) (Z.cons (Z.v 0) (Z.cons (Z.ix (Z.aM K rfl hu) (Z.v 4) (Z.un dC Z.int)) Z.nil)))))
   (Z.ao (Z.dA (Z.aZ cZ (Z.v 5) Z.aR) (Z.aA Z.HX) Z.bH)
   (Z.ao (Z.expr (Z.app K (Z.v 3) (Z.cons (Z.ix (Z.aM K rfl hu) (Z.v 5) Z.int) Z.nil)))
   (Z.aA (Z.expr (Z.app K (Z.v 4) (Z.cons (Z.ix (Z.aM K rfl hu) (Z.v 5) Z.int) Z.nil))))))))
   (Z.ao (Z.se (i:=6) cG.nd (Z.ct (j7 K rfl) rfl T.x_ (by decide +kernel) (Z.cons (Z.rA (osc:=af d8) (ON:=["bits","book","codes","rows","starts","found","numbers"]) (own:=["number","start"]) (N:=["number","start","bits","book","codes","rows","starts","found","numbers"]) (aG.of rfl (by decide +kernel)) (Z.yu K rfl rfl T.d7 (Z.cons (Z.v 4) Z.nil)) (λnd _ _ _ _=>(Z.ll (n:=2) K rfl rfl (Z.bG (Z.aT (i:=0) nd rfl (by right)) (Z.bG (Z.aT (i:=1) nd rfl (by right)) Z.gh)))) (λ_ _ _ _=>Z.lZ) (λ_ _ _ _=>(Z.tup (Z.cons (Z.v 1) (Z.cons (Z.v 0) Z.nil))))) Z.nil)))
   (Z.aA (Z.ret (Z.ct (Z.b_ K rfl) rfl T.cc (by decide +kernel) (Z.cons (Z.rA (osc:=af d8) (ON:=["bits","book","codes","rows","starts","found","numbers"]) (own:=["row","start"]) (N:=["row","start","bits","book","codes","rows","starts","found","numbers"]) (aG.of rfl (by decide +kernel)) (t9 K rfl rfl T.u7 (Z.cons (Z.v 3) (Z.cons (Z.v 4) Z.nil))) (λnd _ _ _ _=>(Z.ll (n:=2) K rfl rfl (Z.bG (Z.aT (i:=0) nd rfl (by right)) (Z.bG (Z.aT (i:=1) nd rfl (by right)) Z.gh)))) (λ_ _ _ _=>Z.lZ) (λ_ _ _ _=>(Z.fc hgoal_numbered (Z.cons (Z.v 0) (Z.cons (Z.v 1) (Z.cons (Z.v 8) Z.nil)))))) Z.nil))))))))),?_⟩
  refine ax λN hN=>?_;nofun;refine⟨b,bk,rfl,hb,hB,λca H1 hca k1 cdl=>?_⟩;rw[hN];clear hN N;generalize bQ bk=cd at *;refine ax λN hN=>?_;nofun;refine⟨JL _,λra hra=>?_⟩;have k2:=KB.new (ex:=[]) (o:=.lst []) hra;have s2:upd H1 ra (.lst []) ra=some (.lst []):=ae;generalize upd H1 ra (.lst [])=H2 at *;rw[hN];clear hN N;refine ax λN hN=>?_;nofun;refine⟨by decide,λsa hsa=>?_⟩
  have k3:=KB.new (ex:=[]) (o:=.lst [.int 0]) hsa;have s3:upd H2 sa (.lst [.int 0]) sa=some (.lst [.int 0]):=ae;have s23:=k3 _ _ s2 (by simp)
  have k13:=k2.trans k3;have hsa1:H1 sa=none:=k2.free (by simp) hsa
  have nrs:ra≠sa:=λz=>by rw[z,hsa] at s2;cases s2
  generalize upd H2 sa (.lst [.int 0])=H3 at *;rw[hN];clear hN N;have e0:iV (nZ (sp.take (0+1)))=[.int 0]:=by
   have:sp.take 1=[0]:=by
    rw[L.mJ];obtain⟨l,e⟩:=jq 0 (fO cd rs) (rs.map aD) ws;rw[e];rfl
   rw[Lb,this];rfl
  rw[<- e0] at s3;refine ax λN hN=>?_;refine⟨λm σ H'=>∃(k:Nat) (as:List Addr) (o5:Option V),k<=rs.length/\m=rs.length-k/\KB [] H1 H'/\H' ra=some (.lst (as.map V.ref))/\PM sp H' as (rs.take k)/\H' sa=some (.lst (iV (nZ (sp.take (k+1)))))/\σ=[some (.str (wd z)),some (.ref b),some (.ref ca),some (.ref ra),some (.ref sa),o5,none],⟨rs.length,0,[],none,JL _,rfl,k13,s23,⟨rfl,λi q r e=>nomatch e⟩,s3,rfl⟩,?_⟩;rintro m σ H' ⟨k,as,o5,hk,rfl,hkb,gr,pm,gs,rfl⟩;have es:bV (iV (nZ (sp.take (k+1)))) (-1)=some (.int ((sp.getD k 0:Nat):Int)):=by
   rw[sM (show k<sp.length by lia),uN]
   exact pI _ _
  exists az gs,es,bw;refine⟨JF hzl (by decide),?_⟩
  rcases Kx k rs.length with hlt|hge
  ·obtain⟨x,x1,x2,x3⟩:=L.rd hlt;obtain⟨m1,m2,m3,m4,m5⟩:=Hm L.hR x1;have c:((sp.getD k 0:Nat):Int)<(z.length:Int):=by lia
   rw[JE c];refine⟨λσ' H'=>∃m',m'<rs.length-k/\∃(k:Nat) (as:List Addr) (o5:Option V),k<=rs.length/\m'=rs.length-k/\KB [] H1 H'/\H' ra=some (.lst (as.map V.ref))/\PM sp H' as (rs.take k)/\H' sa=some (.lst (iV (nZ (sp.take (k+1)))))/\σ'=[some (.str (wd z)),some (.ref b),some (.ref ca),some (.ref ra),some (.ref sa),o5,none],λ_ _ h=>h,?_⟩;refine⟨ca,cd,z,_,rfl,cdl.kb hkb,L.hR,hz,by lia,λv H5 k5 o=>?_⟩
   rw[nV,x1] at o;obtain⟨t,r,rfl,ht,hr'⟩:=o;rw[m2,x3] at hr';rw[JA (show ¬ V.ref t=V.aR from V.noConfusion)];have gr5:=k5 _ _ gr (by simp)
   have gs5:=k5 _ _ gs (by simp)
   have pm5:=pm.keep k5 (NT.nil _);have pl:=pm.1;rw[JT] at pl;refine⟨.inl ⟨rfl,_,bI.of gr5⟩,?_⟩;show De K (V.ref t) (.int 0) H5 _;exists aC ht;refine⟨ra,_,_,rfl,rfl,gr5,K9 (show _<=64 by rw[Jz];lia) (by decide),?_⟩
   have er:as.map V.ref++[V.ref r]=(as++[r]).map V.ref:=by rw[JR];rfl
   rw[er];have gr6:upd H5 ra (.lst ((as++[r]).map V.ref)) ra=_:=ae;have k56:KB [ra] H5 (upd H5 ra (.lst ((as++[r]).map V.ref))):=KB.set (by simp)
   generalize upd H5 ra (.lst ((as++[r]).map V.ref))=H6 at *;have ntr:=jb gr5;have hr6:=k56 _ _ hr' λz=>ntr _ z _ hr';have pm6:=(pm5.keep k56 ntr).snoc hr6;have ht6:=k56 _ _ ht λz=>ntr _ z _ ht;have gs6:=k56 _ _ gs5 (by simpa using nrs.symm)
   have kf:KB [] H1 H6:=λu o e _=>k56 _ _ (k5 _ _ (hkb _ _ e (by simp)) (by simp)) (by simpa using aq e hra)
   refine⟨.inl ⟨rfl,_,bI.of gs6⟩,?_⟩;exists aC ht6;refine⟨sa,_,_,rfl,rfl,gs6,K9 (show _<=65 by rw[cY,JT];lia) (by decide),?_⟩
   rw[x2,<- uN,<- sM (show k+1<sp.length by lia)]
   refine⟨rs.length-(k+1),by lia,k+1,as++[r],_,hlt,rfl,λu o e _=>?_,?_,?_,ae,rfl⟩
   ·rw[aj (aq e hsa1)];exact kf _ _ e (by simp)
   ·rw[aj nrs];exact gr6
   ·rw[show rs.take (k+1)=rs.take k++[rs[k]] by rw[Ko,Jx hlt];rfl]
    exact pm6.keep (KB.set (ex:=[sa]) (by simp)) (jb gs6)
  ·have hkn:k=rs.length:=by lia
   subst hkn;have c:¬ ((sp.getD rs.length 0:Nat):Int)<(z.length:Int):=by rw[L.last];lia
   rw[JA c];show N _ _;rw[hN];clear hN N;rw[Kq] at pm;rw[Kj (show sp.length<=rs.length+1 by lia)] at gs
   clear es e0 s3 s23 k13 c;have szl:(iV (nZ sp)).length=rs.length+1:=by rw[cY,sl]
   refine ax λN hN=>?_;exists az gs;refine⟨⟨_,bI.of gs⟩,?_⟩;refine qa (xs:=iV (nZ sp)) (JF (show _<=65 by rw[szl];lia) (by decide)) (λD i ys H5=>H' D=none/\H5 D=some (.lst ys)/\KB [] H' H5/\i<=sp.length/\∃ps:List Addr,ys=ps.map V.ref/\ps.length=i/\∀(j:Nat) (p:Addr),ps[j]?=some p->H5 p=some (.tup [.int ((sp.getD j 0:Nat):Int),.int (j:Nat)])) (λD hD=>⟨hD,ae,KB.new hD,JL _,[],rfl,rfl,λj p e=>nomatch e⟩) (λD i ys H5 h=>⟨h.2.1,by obtain⟨_,_,_,_,ps,rfl,e,_⟩:=h;rw[Jz,e]⟩) (λD i ys H5 h=>bI.of (h.2.2.1 _ _ gs (by simp))) ?_ ?_
   ·rintro D i ys H5 x p R hx ⟨g0,g1,gk,hi,ps,rfl,e1,e2⟩ hp kk;have hlt:i<sp.length:=by have:=(J6.mp hx).1;lia
    have ex:x=.int ((sp.getD i 0:Nat):Int):=by
     unfold iV nZ at hx;rw[JC,JC,Jx hlt] at hx;rw[JI,Jx hlt];exact (Option.some.inj hx).symm
    subst ex;have kz:=KB.new (ex:=[]) (o:=.tup [.int i,.int ((sp.getD i 0:Nat):Int)]) hp;have g1':=kz _ _ g1 (by simp)
    generalize upd H5 p (.tup [.int i,.int ((sp.getD i 0:Nat):Int)])=G at *;nofun;refine⟨by decide,λc hc=>?_⟩
    have kc:=KB.new (ex:=[]) (o:=.tup [.int ((sp.getD i 0:Nat):Int),.int i]) hc;have sc:upd G c (.tup [.int ((sp.getD i 0:Nat):Int),.int i]) c=_:=ae;have g1'':=kc _ _ g1' (by simp)
    generalize upd G c (.tup [.int ((sp.getD i 0:Nat):Int),.int i])=G2 at *;have kzc:=kz.trans kc;have ntD:=jb g1'';refine kk _ _ g1'' ⟨g0,ae,λu o e _=>by rw[aj (aq e g0)];exact kzc _ _ (gk _ _ e (by simp)) (by simp),hlt,ps++[c],by rw[JR];rfl,by rw[J5,e1];rfl,λj p e=>?_⟩
    have key:G2 p=some (.tup [.int ((sp.getD j 0:Nat):Int),.int (j:Nat)]):=by
     rcases Kx j ps.length with hj|hj
     ·rw[Kf hj] at e;exact kzc _ _ (e2 j p e) (by simp)
     ·rw[JY hj] at e;have hj0:j-ps.length=0:=by have:=(J6.mp e).1;simp at this;lia
      rw[hj0] at e;cases e;rw[show j=i by lia]
      exact sc
    exact KB.set (ex:=[D]) (by simp) _ _ key λz=>ntD _ z _ key
   ·rintro pl ys H5 ⟨g0,g1,gk,_,ps,rfl,e1,e2⟩;have kvl:(wD sp).length=sp.length:=by unfold wD;rw[Jz,Ky]
    rw[szl] at e1;refine⟨pl,_,wD sp,rfl,g1,⟨by rw[Jz,kvl];lia,λj k x e=>?_⟩,by rw[kvl];lia,λd hd=>?_⟩
    ·unfold wD at e;rw[JC] at e;obtain⟨i,ei,e⟩:=JW.mp e;obtain⟨hj,ej⟩:=J6.mp ei;rw[List.getElem_range] at ej;subst ej;rw[Ky] at hj;cases e;have ep:=Jx (show j<ps.length by lia)
     exact⟨ps[j],by rw[JC,ep];rfl,e2 j _ ep⟩
    rw[L.merge];have kd:=KB.new (ex:=[]) (o:=.dK (wD sp)) hd;have sd:upd H5 d (.dK (wD sp)) d=_:=ae;generalize upd H5 d (.dK (wD sp))=H6 at *;have kk6:=gk.trans kd;have gr6:=kk6 _ _ gr (by simp)
    have gs6:=kk6 _ _ gs (by simp)
    have pm6:=pm.keep kk6 (NT.nil _);show N _ _;rw[hN];clear hN N;clear gr gs pm g1 gk e2 kd g0;have al:=pm6.1;nofun;rw[iC];exists az gr6;refine⟨(true,ra),(true,sa),⟨rfl,rfl⟩,⟨_,bI.of gr6⟩,⟨_,bI.of gs6⟩,λn=>?_⟩;refine lu (xs:=as.map V.ref) (ys:=iV (nZ sp)) (JF (show _<=64 by rw[Jz];lia) (by decide)) (by rw[Jz,szl];lia) (λD i ys G=>H6 D=none/\G D=some (.lst ys)/\KB [] H6 G/\i<=rs.length/\∃ps:List Addr,ys=ps.map V.ref/\PA G ps (rs.take i)) (λD hD=>⟨hD,ae,KB.new hD,JL _,[],rfl,rfl,λj p r e=>nomatch e⟩) (λD i ys G h=>⟨h.2.1,by obtain⟨_,_,_,hi,ps,rfl,e,_⟩:=h;rw[Jz,e,JT];lia⟩) (λD i ys G h=>⟨bI.of (h.2.2.1 _ _ gr6 (by simp)),bI.of (h.2.2.1 _ _ gs6 (by simp))⟩) ?_ ?_
    ·rintro D i ys G x y p R hx hy ⟨g0,g1,gk,hi,ps',rfl,pa⟩ hp kk;obtain⟨u,eu,rfl⟩:∃u,as[i]?=some u/\x=.ref u:=by
      rw[JC] at hx;obtain⟨u,e,rfl⟩:=JW.mp hx;exact⟨u,e,rfl⟩
     have hlt:i<rs.length:=by have:=(J6.mp eu).1;lia
     have er:=Jx hlt;have kz:=KB.new (ex:=[]) (o:=.tup [.ref u,y]) hp;have g1':=kz _ _ g1 (by simp)
     generalize upd G p (.tup [.ref u,y])=G1 at *;have gk1:=gk.trans kz;nofun;refine⟨u,d,y,rs[i],qZ sp rs[i],wD sp,rfl,gk1 _ _ (pm6.2 i u _ eu er) (by simp),gk1 _ _ sd (by simp),λt et=>?_,λc G2 kc hc=>?_⟩
     ·have ht:=gN (L.ok _ (JN hlt)) et;unfold qZ;rw[et];exact L.kv ht
     have g2:=kc _ _ g1' (by simp)
     refine kk _ _ g2 ⟨g0,ae,λu o e _=>by rw[aj (aq e g0)];exact kc _ _ (gk1 _ _ e (by simp)) (by simp),hlt,ps'++[c],by rw[JR];rfl,?_⟩
     rw[show rs.take (i+1)=rs.take i++[rs[i]] by rw[Ko,er];rfl]
     exact (((pa.keep kz (NT.nil _)).keep kc (NT.nil _)).snoc hc).keep (KB.set (ex:=[D]) (by simp)) (jb g2)
    ·rintro D ys G ⟨g0,g1,gk,_,ps',rfl,pa⟩;rw[Jz,al,Kq] at pa;exists az g1;intro t ht;have kt:=KB.new (ex:=[]) (o:=.tup (ps'.map V.ref)) ht;exact q t _ (k1.trans (hkb.trans (kk6.trans (gk.trans kt)))) ⟨ps',ae,pa.keep kt (NT.nil _)⟩
noncomputable def Ar.tr:Ar->L2.T
 |.s z=>.str z
 |.n k=>.int (k:Nat)
noncomputable def A5(r:Row):L2.T:=.tup (r.ps.map Ar.tr)
theorem Bi{r:Row}(h:H q=some (.tup r.vs)):Rep K H no (.ref q) (A5 r):=.tup (λz=>z) h (by
 unfold Row.vs
 induction r.ps with
 |nil=>exact .nil
 |cons x l ih =>
  refine .cons ?_ ih
  cases x with
  |s z=>exact .str z
  |n k=>exact .int _)
theorem jL:∀{as:List Addr} {rs:List Row},PA H as rs->cU K H no (as.map V.ref) (rs.map A5)
 |[],[],_=>.nil
 |[],_::_,h=>nomatch h.1
 |_::_,[],h=>nomatch h.1
 |a::as,r::rs,h=>.cons (Bi (h.2 0 a r rfl rfl)) (jL ⟨Nat.succ.inj h.1,λi q r' e1 e2=>h.2 (i+1) q r' e1 e2⟩)
theorem C0(n:Nat)(r:Row):mr (n+1) (A5 r) (A5 r) true:=by
 have:=mr.tup (n:=n) (xs:=r.ps.map Ar.tr) (ys:=r.ps.map Ar.tr) (λ_=>true) λj x y h1 h2=>by
  rw[h1] at h2;cases h2;rw[JC] at h1;obtain⟨k,_,rfl⟩:=JW.mp h1
  cases k with
  |s z=>exact uf n z
  |n k=>exact jV n _
 rwa [all_true] at this
theorem B7{b:Addr}{rs:List Row}(ha:ur H a rs)(hb:ur H b rs)(q:Q (.bl false) H):Y.Dr K (.ref a) (.ref b) H Q:=by
 obtain⟨as,h1,h2⟩:=ha;obtain⟨bs,h3,h4⟩:=hb;exact .inr (jX (neg:=true) h1 h3 (jL h2) (jL h4) (λx hx=>by
  obtain⟨r,_,rfl⟩:=Ki.mp hx;exact C0 3 r) q)
theorem C9(bk:List (List Int))(rs:List Row):dH (f_ bk rs):=by
 have go:∀{cd:List (List (List Nat))} (_:∀ws∈cd,∀w∈ws,dH w) (sp:List Nat) (rs:List Row) (ws:List Nat) (k:Nat),dH (ow cd sp k rs ws):=λ{cd} h sp rs=>by
  induction rs with
  |nil=>exactλws k c hc=>by unfold ow at hc;cases hc
  |cons r rs ih =>
   intro ws k
   cases ws with
   |nil=>exactλc hc=>by unfold ow at hc;cases hc
   |cons w ws =>
    rw[ow];refine dH.app (dH.app (zh h r) ?_) (ih ws (k+1))
    cases aD r with
    |none=>exactλc hc=>by cases hc
    |some t =>
     refine dH.app ?_ (ie _ _ _ λc hc=>by cases hc)
     match w with
     |0=>exactλc hc=>.inl (JQ.mp hc)
     |1=>exactλc hc=>by simp[dj] at hc;exact hc.symm
     |_+2=>exactλc hc=>by simp[dj] at hc;exact .inr hc
 exact go (Ex bk) _ _ _ _
noncomputable def jy(sp:List Nat):Nat->List Nat->List Int
 |_,[]=>[]
 |k,t::ts=>(t:Int)*(((sp.getD (k+1) 0:Nat):Int)-((sp.getD k 0:Nat):Int))::jy sp (k+1) ts
theorem mU(sp:List Nat):∀(ts:List Nat) (k:Nat),(jy sp k ts).sum=cnt sp k ts
 |[],_=>rfl
 |t::ts,k=>by rw[jy,LK,mU sp ts (k+1)];rfl
theorem jr(sp:List Nat):∀(ts:List Nat) (k:Nat),(jy sp k ts).length=ts.length
 |[],_=>rfl
 |t::ts,k=>by rw[jy,JK,jr sp ts (k+1)];rfl
theorem ph(sp:List Nat):∀(ts:List Nat) (k i t:Nat),ts[i]?=some t->(jy sp k ts)[i]?=some ((t:Int)*(((sp.getD (k+i+1) 0:Nat):Int)-((sp.getD (k+i) 0:Nat):Int)))
 |[],_,_,_,h=>by cases h
 |t::ts,k,0,t',h=>by cases h;rfl
 |t::ts,k,i+1,t',h=>by
  rw[jy,NS,ph sp ts (k+1) i t' (by simpa using h),show k+1+i=k+(i+1) by lia]
theorem zi(l:List Nat):(nZ l).sum=((l.sum:Nat):Int):=by
 induction l with
 |nil=>rfl
 |cons x l ih =>
  show (x:Int)+(nZ l).sum=_;rw[ih,LK];rfl
theorem AU{lo hi:Option Int}(h:H a=some (.lst xs))(q:∀p,H p=none->Q (.ref p) (upd H p (.lst (dJ xs lo hi)))):Y.Gr K (.ref a) lo hi H Q:=.inl ⟨a,xs,rfl,bI.of h,q⟩
theorem Hu{n j:Nat}(hl:sp.length=n+1)(hj:j<n):(nZ sp).dropLast[j]?=some ((sp.getD j 0:Nat):Int):=by
 rw[MW,My (by rw[bp];lia)]
 unfold nZ;rw[JC,Jx (show j<sp.length by lia),JI,Jx (show j<sp.length by lia)];rfl
theorem Cs{b:Addr}{vs:List V}{xs:List T}(ha:H a=some (.tup vs))(hb:H b=some (.tup []))(r1:cU K H no vs xs)(r2:cU K H no [] [])(hx:xs.length≠0)(q:Q (.bl true) H):Y.Dr K (.ref a) (.ref b) H Q:=by
 refine .inr ⟨no,a,b,vs,[],xs,[],λ_=>true,rfl,rfl,.inl ⟨bz.of ha,bz.of hb⟩,r1,r2,λj x y h1 h2=>by simp at h2,?_⟩
 have:j9 xs.length 0 (λ_=>true)=false:=by
  unfold j9;simp[hx]
 show Q (.bl (if true then !j9 xs.length 0 (λ_=>true) else _)) H
 rw[JE rfl,this];exact q
noncomputable def pP(K:W.Frag):Sp:=λvs H Q _=>∃(p a b:Addr) (n:Nat) (bk:List (List Int)) (rs:List Row),vs=[.ref p,.ref a,.ref b]/\Sd H p n/\n<2^27/\ur H a rs/\u5 H b bk/\Bk bk/\rs.length<=60/\(∀r∈rs,r.Ok rs.length)/\∀H',KB [p] H H'->Q (.bl true) H'
theorem wk(T:Txt K mg)(F:HasFn K mg "_law_right" cI ["seed","program","book"])(h_law_draw:au P w K mg base aY 1 "_law_draw" ["seed","most"] dE)(h_law_number:au P w K mg base aY 2 "_law_number" ["seed"] rn)(h_law_sizes:au P w K mg base aY 6 "_law_sizes" ["program","book"] (tO K))(hpack_rows:au P w K mg base aY 7 "pack_rows" ["program","book"] sN)(hread_rows:au P w K mg base aY 7 "read_rows" ["bits","book"] uO)(hrun_rows:au P w K mg base aY 7 "run_rows" ["program","given","most"] (wU K))(hrun_bits:au P w K mg base aY 7 "run_bits" ["bits","book","given","most"] (zX K)):au P w K mg base aY 8 "_law_right" ["seed","program","book"] (pP K):=by
 refine F.eW aX (λvs H Q E h=>?_) (λf cdv A outer s H vs Q E hr h=>?_)
 ·obtain⟨p,a,b,n,bk,rs,rfl,_⟩:=h;rfl
 ·have hu:=aP hr;obtain⟨p,a,b,n,bk,rs,rfl,D0,hn,hp,hb,hB,hl,aQ,q⟩:=h;have L:=ni hB (by lia) aQ
  have hR:=(qE hB).1;have r36:=λg most=>tP L g most;refine⟨_,(Z.ao (Z.asg (Z.fc hpack_rows (Z.cons (Z.v 1) (Z.cons (Z.v 2) Z.nil))) (Z.ll (n:=2) K rfl rfl (Z.bG (Z.aT (i:=3) aX.nd rfl (by right)) (Z.bG (Z.aT (i:=4) aX.nd rfl (by right)) Z.gh))))
   (Z.ao (Z.se (i:=5) aX.nd (Z.lst Z.nil))
   (Z.ao (Z.dA (Z.aZ (Y.nQ K rfl (kY hr)) (Z.v 1) (Z.tup Z.nil)) (Z.aA (Z.se (i:=5) aX.nd (Z.fc h_law_sizes (Z.cons (Z.v 1) (Z.cons (Z.v 2) Z.nil))))) Z.bH)
   (Z.ao (Z.dA (Z.tw (Z.Ja (Z.aZ (Y.nQ K rfl (kY hr)) (Z.cb (Z.cJ K rfl) rfl T.cy (by decide +kernel) (Z.cons (Z.v 3) Z.nil)) (Z.cb (Y.vI K rfl rfl) rfl T.xH (by decide +kernel) (Z.cons (Z.v 5) Z.nil))) (Z.HR (Z.aZ (Y.nQ K rfl (kY hr)) (Z.v 4) (Z.ct (Z.b_ K rfl) rfl T.cc (by decide +kernel) (Z.cons (Z.rA (osc:=af cI) (ON:=["seed","program","book","bits","places","sizes","given","most","how","told","turns","boxes","found"]) (own:=["k"]) (N:=["k","seed","program","book","bits","places","sizes","given","most","how","told","turns","boxes","found"]) (aG.of rfl (by decide +kernel)) (Z.vW rfl T.fA (Z.cons (Z.cb (Z.cJ K rfl) rfl T.cy (by decide +kernel) (Z.cons (Z.v 5) Z.nil)) Z.nil)) (λnd _ _ _ _=>(Z.aT (i:=0) nd rfl (by right))) (λ_ _ _ _=>Z.lZ) (λ_ _ _ _=>(Z.cb (Z.CG K rfl rfl) rfl T.xH (by decide +kernel) (Z.cons (Z.slice (Y.GZ K rfl) (Z.v 6) Z.Aj (Z.uF (Z.v 0))) Z.nil)))) Z.nil)))))) (Z.aA (Z.ret Z.bl)) Z.bH)
   (Z.ao (Z.dA (Z.aZ (Y.nQ K rfl (kY hr)) (Z.fc hread_rows (Z.cons (Z.v 3) (Z.cons (Z.v 2) Z.nil))) (Z.v 1)) (Z.aA (Z.ret Z.bl)) Z.bH)
   (Z.ao (Z.se (i:=6) aX.nd (Z.ct (Z.b_ K rfl) rfl T.cc (by decide +kernel) (Z.cons (Z.rA (osc:=af cI) (ON:=["seed","program","book","bits","places","sizes","given","most","how","told","turns","boxes","found"]) (own:=["k"]) (N:=["k","seed","program","book","bits","places","sizes","given","most","how","told","turns","boxes","found"]) (aG.of rfl (by decide +kernel)) (Z.vW rfl T.fA (Z.cons (Z.fc h_law_draw (Z.cons (Z.v 0) (Z.cons Z.int Z.nil))) Z.nil)) (λnd _ _ _ _=>(Z.aT (i:=0) nd rfl (by right))) (λ_ _ _ _=>Z.lZ) (λ_ _ _ _=>(Z.op cK (Z.fc h_law_number (Z.cons (Z.v 1) Z.nil)) (Z.fc h_law_draw (Z.cons (Z.v 1) (Z.cons Z.int Z.nil)))))) Z.nil)))
   (Z.ao (Z.se (i:=7) aX.nd (Z.ix (Z.aM K rfl hu) (Z.lst (Z.cons (Z.fc h_law_draw (Z.cons (Z.v 0) (Z.cons Z.int Z.nil))) (Z.cons (Z.fc h_law_draw (Z.cons (Z.v 0) (Z.cons Z.int Z.nil))) (Z.cons (Z.cb (Z.cJ K rfl) rfl T.cy (by decide +kernel) (Z.cons (Z.v 1) Z.nil)) Z.nil)))) (Z.fc h_law_draw (Z.cons (Z.v 0) (Z.cons Z.int Z.nil)))))
   (Z.ao (Z.asg (Z.fc hrun_rows (Z.cons (Z.v 1) (Z.cons (Z.v 6) (Z.cons (Z.v 7) Z.nil)))) (Z.ll (n:=4) K rfl rfl (Z.bG (Z.aT (i:=8) aX.nd rfl (by right)) (Z.bG (Z.aT (i:=9) aX.nd rfl (by right)) (Z.bG (Z.aT (i:=10) aX.nd rfl (by right)) (Z.bG (Z.aT (i:=11) aX.nd rfl (by right)) Z.gh))))))
   (Z.ao (Z.se (i:=12) aX.nd (Z.fc hrun_bits (Z.cons (Z.v 3) (Z.cons (Z.v 2) (Z.cons (Z.v 6) (Z.cons (Z.v 7) Z.nil))))))
   (Z.aA (Z.ret (Z.cmp (Y.Dp K rfl (kY hr)) (Z.v 12) (Z.tup (Z.cons (Z.v 8) (Z.cons (Z.v 9) (Z.cons (Z.cb (Z.CG K rfl rfl) rfl T.xH (by decide +kernel) (Z.cons (Z.rA (osc:=af cI) (ON:=["seed","program","book","bits","places","sizes","given","most","how","told","turns","boxes","found"]) (own:=["count","size"]) (N:=["count","size","seed","program","book","bits","places","sizes","given","most","how","told","turns","boxes","found"]) (aG.of rfl (by decide +kernel)) (t9 K rfl rfl T.u7 (Z.cons (Z.v 10) (Z.cons (Z.v 5) Z.nil))) (λnd _ _ _ _=>(Z.ll (n:=2) K rfl rfl (Z.bG (Z.aT (i:=0) nd rfl (by right)) (Z.bG (Z.aT (i:=1) nd rfl (by right)) Z.gh)))) (λ_ _ _ _=>Z.lZ) (λ_ _ _ _=>(Z.op fI (Z.v 0) (Z.v 1)))) Z.nil)) (Z.cons (Z.v 11) Z.nil))))))))))))))))),?_⟩
  refine ax λN hN=>?_;nofun;refine⟨a,b,bk,rs,rfl,hp,hb,hB,by lia,aQ,λt2 sa H2 k2 e1 e2=>?_⟩
  refine⟨t2,_,rfl,bz.of e1,rfl,_,_,rfl,_,_,rfl,rfl,?_⟩;rw[hN];clear hN N;have zl:=L.IW;have ezl:=L.last;have spl:=L.sl;have bnz:dH (f_ bk rs):=C9 bk rs;refine ax λN hN=>?_;nofun;refine⟨by decide,λs0 hs0=>?_⟩
  obtain⟨k3,g3⟩:=dF hs0 (.lst []);generalize upd H2 s0 _=H3 at *;have k03:=k2.trans k3;rw[hN];clear hN N;refine ax λN hN=>?_;have fin:∀s1 H4,s1≠p->KB [] H3 H4->H4 s1=some (.lst (iV (nZ (rZ (cX bk rs) rs.length))))->N [some (.ref p),some (.ref a),some (.ref b),some (.str (wd (f_ bk rs))),some (.ref sa),some (.ref s1),none,none,none,none,none,none,none] H4:=λsz H4 nsz k4 g4=>by
   rw[hN];clear hN N;have k04:=k03.trans k4;have e24:=(k3.trans k4).n e2;have D4:=D0.k0 k04;have hp4:=hp.kb k04;have hb4:=hb.kb k04;clear k3 k03 k2 e1 e2 g3 hs0 k4;have sz0:∀k,k<=rs.length->((rZ (cX bk rs) rs.length).take k).sum=(cX bk rs).getD k 0:=sH (by
    rw[L.mJ];obtain⟨l,e⟩:=jq 0 (fO (bQ bk) rs) (rs.map aD) (hX bk rs);rw[e];rfl) λk hk=>Ll (L.up hk)
   have szt:=sz0 rs.length (JD _);rw[Kj (by rw[iz];exact JD _)] at szt
   refine ax λN hN=>?_;refine CN λA B hA hB'=>?_;nofun;refine⟨JF (show _<=20000 by rw[bw];lia) (by decide),sz,_,rfl,.inl (bI.of g4),?_⟩
   rw[zi,szt,bw,ezl];refine .inl (.inl ⟨rfl,false,by simp,?_⟩)
   exists JO,az g4;rw[bU,bp,iz];refine⟨by lia,by lia,?_⟩
   rw[Kb];refine d5 (JF hl (by decide)) (λD i ys G=>H4 D=none/\G D=some (.lst ys)/\KB [] H4 G/\ys=iV ((nZ (cX bk rs)).dropLast.take i)/\i<=rs.length) (λD hD=>⟨hD,ae,KB.new hD,rfl,JL _⟩) (λD i ys G h=>⟨h.2.1,by rw[h.2.2.2.1,bU,JT,Mp,bp];have:=h.2.2.2.2;lia⟩) ?_ ?_
   ·rintro D i ys G R hi ⟨g0,g1,gk,rfl,_⟩ kk;rw[Int.zero_add] at *;nofun;refine AU (gk.n g4) λp1 hp1=>?_;rw[show dJ (iV (nZ (rZ (cX bk rs) rs.length))) none (some (i:Int))=iV (nZ ((rZ (cX bk rs) rs.length).take i)) by rw[iE];unfold iV nZ;rw[N8,N8]]
    obtain⟨k5,s5⟩:=dF hp1 (.lst (iV (nZ ((rZ (cX bk rs) rs.length).take i))));generalize upd G p1 _=G1 at *;refine⟨p1,_,rfl,bI.of s5,?_⟩;rw[zi,sz0 i (by lia)]
    exact kk _ _ (k5.n g1) ⟨g0,ae,λu o e _=>by rw[aj (aq e g0)];exact (gk.trans k5).n e,by rw[Ko,Hu spl hi,eO];rfl,hi⟩
   rintro D ys G ⟨_,g1,gk,rfl,_⟩;rw[Kj (by rw[Mp,bp];lia)] at g1
   exists az g1;intro u hu1;obtain⟨k5,s5⟩:=dF hu1 (.tup (iV (nZ (cX bk rs)).dropLast));generalize upd G u _=H5 at *;have k45:=gk.trans k5;refine .inr (Cm (neg:=true) (k45.n e24) s5 ⟨false,rfl,?_⟩);rw[JA JO,hB'];show N _ _;rw[hN];clear hN N hA hB' A B;have D5:=D4.k0 k45;have hp5:=hp4.kb k45;have hb5:=hb4.kb k45;have g5:=k45.n g4;have k05:=k04.trans k45;clear D4 hp4 hb4 g4 k04 e24 s5 gk k5 g1 hu1;refine ax λN hN=>?_;refine CN λA B hA hB'=>?_;nofun;refine⟨b,bk,rs,hX bk rs,cX bk rs,f_ bk rs,rfl,hb5,hB,L,bnz,λt6 H6 k6 pr6=>?_⟩;refine B7 pr6 (hp5.kb k6) ⟨false,rfl,?_⟩;rw[JA JO,hB'];show N _ _;rw[hN];clear hN N hA hB' A B;have D6:=D5.k0 k6;have hp6:=hp5.kb k6;have hb6:=hb5.kb k6;have g6:=k6.n g5;have k06:=k05.trans k6;clear D5 hp5 hb5 g5 k05 k6 pr6;refine ax λN hN=>?_;nofun;refine⟨p,6,_,rfl,D6,by lia,by decide,by decide,λv H7 hv D7 k7=>?_⟩
   have np:∀{G:Hp} {l:Addr} {xs:List V} {m:Nat},Sd G p m->G l=some (.tup xs)->l≠p:=λD e z=>D.nt _ (by simp) _ (z ▸ e)
   refine⟨(v:Int),rfl,by lia,by lia,?_⟩
   rw[Kb];refine d5 (JF (show v<=1000 by lia) (by decide)) (λD i ys G=>H7 D=none/\G D=some (.lst ys)/\i<=v/\Sd G p (n+1+3*i)/\KB [p] H7 G/\∃g:List Int,ys=iV g/\g.length=i) (λD hD=>⟨hD,ae,JL _,(D7.k0 (KB.new hD)).mono (by lia),KB.new hD,[],rfl,rfl⟩) (λD i ys G h=>⟨h.2.1,by obtain⟨_,_,_,_,_,g,rfl,e⟩:=h;rw[bU,e]⟩) ?_ ?_
   ·rintro D i ys G R hi ⟨g0,g1,g2,gD,gk,g,rfl,e1⟩ kk;have nD:=D7.ne g0;nofun;refine⟨p,_,rfl,gD,by lia,λx G1 hx D1 k1=>?_⟩
    nofun;refine⟨p,3,_,rfl,D1,by lia,by decide,by decide,λy G2 hy D2 k2=>?_⟩
    nofun;have k12:=k1.trans k2;have nD':D∉[p]:=by simpa using nD
    refine kk _ _ (k12 _ _ g1 nD') ⟨g0,ae,hi,?_,λu o e z=>by rw[aj (aq e g0)];exact k12 _ _ (gk _ _ e z) z,g++[(x:Int)-(y:Int)],by rw[eO];rfl,by rw[J5,e1];rfl⟩
    exact (D2.kb (KB.set (ex:=[D]) (by simp)) (by simpa using KP nD)).mono (by lia)
   rintro D ys G ⟨_,g1,_,D8,k8,g,rfl,e1⟩;exists az g1;intro gv hgv;obtain⟨k9,s9⟩:=dF hgv (.tup (iV g));generalize upd G gv _=H9 at *;have D9:=(D8.k0 k9).mono (show _<=n+16 by lia)
   have k69:KB [p] H6 H9:=k7.trans (k8.trans k9.all);have hp9:=hp6.keep k69 D6.nt;have hb9:=hb6.keep k69 D6.nt;have k09:=k06.all.trans k69;rw[hN];clear hN N;have g9:=k69 _ _ g6 (by simpa using nsz)
   clear D6 hp6 hb6 g6 D7 k7 D8 k8 k9 k69 g1 k06 hgv hv;refine ax λN hN=>?_;nofun;refine⟨p,400,_,rfl,D9,by lia,by decide,by decide,λv1 G1 hv1 E1 k1=>?_⟩
   nofun;refine⟨p,40,_,rfl,E1,by lia,by decide,by decide,λv2 G2 hv2 E2 k2=>?_⟩
   have k12:=k1.trans k2;have hp12:=hp9.keep k12 D9.nt;obtain⟨as,ha,hpl,_⟩:=id hp12;exists aC ha;refine⟨by decide,λm1 hm1=>?_⟩
   rw[Jz,hpl];obtain⟨k3,s3⟩:=dF hm1 (.lst [V.int (v1:Nat),.int (v2:Nat),.int (rs.length:Nat)]);have nm:=E2.ne hm1;generalize upd G2 m1 _=G3 at *;refine⟨p,3,_,rfl,E2.k0 k3,by lia,by decide,by decide,λv3 G4 hv3 E4 k4=>?_⟩
   obtain⟨most,hm,em⟩:∃m:Nat,m<=400/\bV [V.int (v1:Nat),.int (v2:Nat),.int (rs.length:Nat)] (v3:Int)=some (.int (m:Nat)):=by
    rcases (show v3=0\/v3=1\/v3=2 by lia) with rfl|rfl|rfl
    ·exact⟨v1,by lia,rfl⟩
    ·exact⟨v2,by lia,rfl⟩
    ·exact⟨rs.length,by lia,rfl⟩
   exists az (k4 _ _ s3 (by simpa using nm)),em
   have k14:=k12.trans (k3.all.trans k4);have hp4:=hp9.keep k14 D9.nt;have hb4:=hb9.keep k14 D9.nt;have g4:=k14 _ _ g9 (by simpa using nsz)
   have gv4:=D9.tup k14 s9;have k04:=k09.trans k14;rw[hN];clear hN N;clear E1 k1 E2 k2 k12 hp12 ha hm1 k3 s3 nm E4 k4 hv1 hv2 hv3 em k14 hp9 hb9 g9 s9 D9 k09;refine ax λN hN=>?_;nofun;refine⟨a,gv,rs,g,most,rfl,hp4,gv4,by lia,aQ,by lia,λw1 H1 k1 o1=>?_⟩
   obtain⟨r1,r2,r3⟩:=tP L g most;have tl:(bJ rs most (sR rs g)).tn.length=rs.length:=(oh L most _ _ (nS L g)).tl;generalize bJ rs most (sR rs g)=c at *;obtain⟨t1,p1,p2,p3,rfl,a1,a2,a3,a4⟩:=o1;unfold b6;refine⟨t1,_,rfl,bz.of a1,rfl,_,_,rfl,_,_,rfl,_,_,rfl,_,_,rfl,rfl,?_⟩;rw[hN];clear hN N;refine ax λN hN=>?_;nofun;refine⟨b,gv,bk,f_ bk rs,g,most,rfl,hb4.kb k1,k1.n gv4,hB,hR,bnz,by lia,by lia,λv5 H5 k5 o5=>?_⟩
   have o6:=o5.tl;rw[r1] at o6;rw[hN];clear hN N;have k15:=k1.trans k5;have g5:=k15.n g4;have a25:=k5.n a2;have a35:=k5.n a3;have a45:=k5.n a4;exists iC;refine⟨(false,p2),(true,sz),⟨rfl,rfl⟩,⟨_,bz.of a35⟩,⟨_,bI.of g5⟩,λn'=>?_⟩;refine lu (xs:=iV (nZ c.tn)) (ys:=iV (nZ (rZ (cX bk rs) rs.length))) (JF (show _<=64 by rw[bU,bp];lia) (by decide)) (by rw[bU,bU,bp,bp,iz];lia) (λD i ws G=>H5 D=none/\G D=some (.lst ws)/\KB [] H5 G/\i<=rs.length/\ws=iV ((jy (cX bk rs) 0 c.tn).take i)) (λD hD=>⟨hD,ae,KB.new hD,JL _,rfl⟩) (λD i ws G h=>⟨h.2.1,by rw[h.2.2.2.2,bU,JT,jr];have:=h.2.2.2.1;lia⟩) (λD i ws G h=>⟨bz.of (h.2.2.1.n a35),bI.of (h.2.2.1.n g5)⟩) ?_ ?_
   ·rintro D i ws G x y p' R hx hy ⟨g0,g1,gk,hi,rfl⟩ hp' kk;obtain⟨hlt,rfl⟩:=lT hx;rw[bp] at hlt;have hin:i<rs.length:=by lia
    obtain⟨hy',rfl⟩:=lT hy;obtain⟨kz,_⟩:=dF hp' (.tup [V.int (nZ c.tn)[i],V.int ((nZ (rZ (cX bk rs) rs.length))[i])]);have v1:(nZ c.tn)[i]'(by rw[bp];lia)=((c.tn[i]'hlt:Nat):Int):=by unfold nZ;rw[LA]
    have w1:=Option.some.inj ((Jx hy').symm.trans (show (nZ (rZ (cX bk rs) rs.length))[i]?=some (((cX bk rs).getD (i+1) 0-(cX bk rs).getD i 0:Nat):Int) by unfold nZ;rw[JC,sx _ hin];rfl))
    rw[show (((cX bk rs).getD (i+1) 0-(cX bk rs).getD i 0:Nat):Int)=(((cX bk rs).getD (i+1) 0:Nat):Int)-(((cX bk rs).getD i 0:Nat):Int) by have:=L.up hin;lia] at w1
    rw[w1,v1] at kz ⊢;have et:=ph (cX bk rs) c.tn 0 i _ (Jx hlt);rw[Lb] at et;have b1:=(L.at i (by lia)).2
    have b2:=(L.at (i+1) (by lia)).2
    nofun;refine⟨.inr ⟨by lia,by lia⟩,kk _ _ (kz.n g1) ⟨g0,ae,λu o e _=>by rw[aj (aq e g0)];exact kz.n (gk.n e),hin,?_⟩⟩
    rw[Ko,et,eO];rfl
   rintro D ws G ⟨_,g1,gk,_,rfl⟩;rw[bU,bp,tl] at g1;rw[Kj (by rw[jr,tl];exact JD _)] at g1
   refine⟨D,_,rfl,bI.of g1,by decide,λt5 ht5=>.inr ?_⟩
   rw[mU];obtain⟨kt,st⟩:=dF ht5 (.tup [.str (nv rs c),.ref p1,.int (cnt (cX bk rs) 0 c.tn),.ref p3]);generalize upd G t5 _=G6 at *;have k56:=gk.trans kt;exact Gp (neg:=false) (o6.kb k56) ⟨t5,p1,p3,rfl,st,k56.n a25,k56.n a45⟩ (q _ (k04.trans (k15.trans k56).all))
  refine CN λA B hA hB'=>?_;nofun;refine⟨by decide,λp1 hp1=>?_⟩
  obtain⟨k5,s5⟩:=dF hp1 (.tup []);generalize upd H3 p1 _=H4 at *;obtain⟨as,ha,hp0⟩:=hp.kb (k03.trans k5)
  cases rs with
  |nil =>
   have:as=[]:=KU.mp hp0.1;subst this;refine .inr (jX (neg:=true) (xs:=[]) ha s5 .nil .nil (λx hx=>nomatch hx) ⟨false,rfl,?_⟩);rw[JA JO,hB'];exact fin s0 H4 ((D0.k0 k2).ne hs0) k5 (k5.n g3)
  |cons r rs =>
   refine Cs ha s5 (jL hp0) .nil (by simp) ⟨true,rfl,?_⟩
   rw[JE rfl,hA];nofun;refine⟨a,b,bk,r::rs,rfl,⟨as,ha,hp0⟩,hb.kb (k03.trans k5),hB,by lia,aQ,λl H5 hl5 k6 g6=>?_⟩
   exact fin l H5 ((D0.k0 (k03.trans k5)).ne hl5) (k5.trans k6) g6
noncomputable def yo:Sp:=λvs H Q _=>∃(p:Addr) (n many:Nat),vs=[.ref p,.int (many:Nat)]/\Sd H p n/\n<2^28/\many<=60/\∀(r:Row) (a:Addr) H',r.Ok many->H' a=some (.tup r.vs)->Sd H' p (n+8)->KB [p] H H'->Q (.ref a) H'
theorem BP(T:Txt K mg)(F:HasFn K mg "_law_row" hJ ["seed","many"])(h_law_draw:au P w K mg base aY 1 "_law_draw" ["seed","most"] dE)(h_law_box:au P w K mg base aY 2 "_law_box" ["seed"] yD)(h_law_number:au P w K mg base aY 2 "_law_number" ["seed"] rn):au P w K mg base aY 3 "_law_row" ["seed","many"] yo:=by
 refine F.eW gu (λvs H Q E h=>?_) (λf cdv A outer s H vs Q E hr h=>?_)
 ·obtain⟨p,n,many,rfl,_⟩:=h;rfl
 ·have hu:=aP hr;obtain⟨p,n,many,rfl,D,hn,hm,q⟩:=h;refine⟨_,(Z.ao (Z.se (i:=2) gu.nd (Z.fc h_law_draw (Z.cons (Z.v 0) (Z.cons Z.int Z.nil))))
   (Z.ao (Z.dA (Z.aZ eF (Z.v 2) Z.int) (Z.aA (Z.ret (Z.tup (Z.cons Z.str (Z.cons (Z.fc h_law_box (Z.cons (Z.v 0) Z.nil)) (Z.cons (Z.fc h_law_number (Z.cons (Z.v 0) Z.nil)) Z.nil)))))) Z.bH)
   (Z.ao (Z.dA (Z.aZ eF (Z.v 2) Z.int) (Z.aA (Z.ret (Z.tup (Z.cons (Z.ix (Z.aM K rfl hu) (Z.lst (Z.consts rfl)) (Z.op cK (Z.v 2) Z.int)) (Z.cons (Z.fc h_law_box (Z.cons (Z.v 0) Z.nil)) (Z.cons (Z.fc h_law_box (Z.cons (Z.v 0) Z.nil)) Z.nil)))))) Z.bH)
   (Z.ao (Z.dA (Z.aZ eF (Z.v 2) Z.int) (Z.aA (Z.ret (Z.tup (Z.cons (Z.ix (Z.aM K rfl hu) (Z.lst (Z.consts rfl)) (Z.op cK (Z.v 2) Z.int)) (Z.cons (Z.fc h_law_box (Z.cons (Z.v 0) Z.nil)) Z.nil))))) Z.bH)
   (Z.ao (Z.se (i:=3) gu.nd (Z.ix (Z.aM K rfl hu) (Z.lst (Z.cons (Z.fc h_law_draw (Z.cons (Z.v 0) (Z.cons (Z.op (Z.bf K rfl) (Z.v 1) Z.int) Z.nil))) (Z.cons (Z.v 1) (Z.cons Z.int Z.nil)))) (Z.ix (Z.aM K rfl hu) (Z.lst (Z.consts rfl)) (Z.fc h_law_draw (Z.cons (Z.v 0) (Z.cons Z.int Z.nil))))))
   (Z.ao (Z.dA (Z.aZ bC (Z.v 2) Z.int) (Z.aA (Z.ret (Z.tup (Z.cons Z.str (Z.cons (Z.v 3) Z.nil))))) Z.bH)
   (Z.ao (Z.dA (Z.aZ eF (Z.v 2) Z.int) (Z.aA (Z.ret (Z.tup (Z.cons Z.str (Z.cons (Z.fc h_law_box (Z.cons (Z.v 0) Z.nil)) (Z.cons (Z.v 3) Z.nil)))))) Z.bH)
   (Z.aA (Z.ret (Z.ix (Z.aM K rfl hu) (Z.lst (Z.cons (Z.tup (Z.cons Z.str Z.nil)) (Z.cons (Z.tup (Z.cons Z.str (Z.cons (Z.fc h_law_box (Z.cons (Z.v 0) Z.nil)) Z.nil))) Z.nil))) (Z.fc h_law_draw (Z.cons (Z.v 0) (Z.cons Z.int Z.nil))))))))))))),?_⟩
  refine ax λN hN=>?_;nofun;refine⟨p,12,n,rfl,D,by lia,by decide,by decide,λwy H1 hw D1 k1=>?_⟩
  rw[hN];clear hN N;have tell:∀(r:Row) (G:Hp) (m:Nat),r.Ok many->Sd G p m->m<=n+8->KB [p] H G->∀t,G t=none->Q (.ref t) (upd G t (.tup r.vs)):=λr G m ok D hm k t ht=>q r t _ ok ae ((D.k0 (KB.new ht)).mono hm) (k.trans (KB.new ht));refine ax λN hN=>?_;nofun;by_cases c0:(wy:Int)<3
  ·rw[JE c0];refine⟨p,_,rfl,D1,by lia,λb H2 hb D2 k2=>⟨p,_,rfl,D2,by lia,λv H3 hv D3 k3=>⟨by decide,λt ht=>?_⟩⟩⟩
   exact tell (.put b v) H3 _ ⟨hb,hv⟩ D3 (by lia) (k1.trans (k2.trans k3)) t ht
  rw[JA c0,hN];clear hN N;refine ax λN hN=>?_;nofun;by_cases c1:(wy:Int)<6
  ·rw[JE c1];refine⟨by decide,λl hl=>?_⟩
   obtain⟨k2,s2⟩:=dF hl (.lst [.str (Str.ofString "add"),.str (Str.ofString "sub"),.str (Str.ofString "copy")]);have D2:=D1.k0 k2;generalize upd H1 l _=H2 at *;obtain⟨u,eu⟩:∃u:Fin 3,bV [V.str (Str.ofString "add"),.str (Str.ofString "sub"),.str (Str.ofString "copy")] ((wy:Int)-3)=some (.str (w2 u)):=by
    rcases (show wy=3\/wy=4\/wy=5 by lia) with rfl|rfl|rfl
    ·exact⟨0,rfl⟩
    ·exact⟨1,rfl⟩
    ·exact⟨2,rfl⟩
   exists az s2,eu;refine⟨p,_,rfl,D2,by lia,λb H3 hb D3 k3=>⟨p,_,rfl,D3,by lia,λc H4 hc D4 k4=>⟨by decide,λt ht=>?_⟩⟩⟩
   exact tell (.two u b c) H4 _ ⟨hb,hc⟩ D4 (by lia) (k1.trans (k2.all.trans (k3.trans k4))) t ht
  rw[JA c1,hN];clear hN N;refine ax λN hN=>?_;nofun;by_cases c2:(wy:Int)<8
  ·rw[JE c2];refine⟨by decide,λl hl=>?_⟩
   obtain⟨k2,s2⟩:=dF hl (.lst [.str (Str.ofString "tell"),.str (Str.ofString "hear")]);have D2:=D1.k0 k2;generalize upd H1 l _=H2 at *;obtain⟨u,eu⟩:∃u:Fin 2,bV [V.str (Str.ofString "tell"),.str (Str.ofString "hear")] ((wy:Int)-6)=some (.str (w1 u)):=by
    rcases (show wy=6\/wy=7 by lia) with rfl|rfl
    ·exact⟨0,rfl⟩
    ·exact⟨1,rfl⟩
   exists az s2,eu;refine⟨p,_,rfl,D2,by lia,λb H3 hb D3 k3=>⟨by decide,λt ht=>?_⟩⟩
   exact tell (.one u b) H3 _ hb D3 (by lia) (k1.trans (k2.all.trans k3)) t ht
  rw[JA c2,hN];clear hN N;refine ax λN hN=>?_;nofun;refine⟨p,_,_,rfl,D1,by lia,by lia,by lia,λg H2 hg D2 k2=>⟨by decide,λl hl=>?_⟩⟩
  obtain⟨k3,s3⟩:=dF hl (.lst [.int (g:Nat),.int (many:Nat),.int 0]);have D3:=D2.k0 k3;have nl:=D2.ne hl;generalize upd H2 l _=H3 at *;refine⟨by decide,λl2 hl2=>?_⟩
  obtain⟨k4,s4⟩:=dF hl2 (.lst [.int 0,.int 0,.int 0,.int 1,.int 2]);have D4:=D3.k0 k4;have nl2:=D3.ne hl2
  replace s3:=k4.n s3
  generalize upd H3 l2 _=H4 at *;refine⟨p,5,_,rfl,D4,by lia,by decide,by decide,λd H5 hd D5 k5=>?_⟩
  obtain⟨x,hx,ex⟩:∃x:Nat,x<3/\bV [V.int 0,.int 0,.int 0,.int 1,.int 2] (d:Int)=some (.int (x:Nat)):=by
   rcases (show d=0\/d=1\/d=2\/d=3\/d=4 by lia) with rfl|rfl|rfl|rfl|rfl
   ·exact⟨0,by decide,rfl⟩
   ·exact⟨0,by decide,rfl⟩
   ·exact⟨0,by decide,rfl⟩
   ·exact⟨1,by decide,rfl⟩
   ·exact⟨2,by decide,rfl⟩
  obtain⟨go,hgo,eg⟩:∃go:Nat,go<=many/\bV [V.int (g:Nat),.int (many:Nat),.int 0] (x:Int)=some (.int (go:Nat)):=by
   rcases mh hx with rfl|rfl|rfl
   ·exact⟨g,by lia,rfl⟩
   ·exact⟨many,JD _,rfl⟩
   ·exact⟨0,JL _,rfl⟩
  exists az (k5 _ _ s4 (by simpa using nl2)),ex,az (k5 _ _ s3 (by simpa using nl)),eg
  have k05:KB [p] H H5:=k1.trans (k2.trans (k3.all.trans (k4.all.trans k5)));rw[hN];clear hN N;refine ax λN hN=>?_;nofun;by_cases c3:(wy:Int)=8
  ·rw[JE c3];exact⟨by decide,λt ht=>tell (.jump go) H5 _ hgo D5 (by lia) k05 t ht⟩
  rw[JA c3,hN];clear hN N;refine ax λN hN=>?_;nofun;by_cases c4:(wy:Int)<11
  ·rw[JE c4];refine⟨p,_,rfl,D5,by lia,λb H6 hb D6 k6=>⟨by decide,λt ht=>?_⟩⟩
   exact tell (.zero b go) H6 _ ⟨hb,hgo⟩ D6 (by lia) (k05.trans k6) t ht
  rw[JA c4,hN];clear hN N;nofun;refine⟨by decide,λt1 ht1=>?_⟩
  obtain⟨k6,s6⟩:=dF ht1 (.tup [.str (Str.ofString "halt")]);have D6:=D5.k0 k6;generalize upd H5 t1 _=H6 at *;refine⟨p,_,rfl,D6,by lia,λb H7 hb D7 k7=>⟨by decide,λt2 ht2=>?_⟩⟩
  replace s6:=D6.tup k7 s6
  obtain⟨k8,s8⟩:=dF ht2 (.tup [.str (Str.ofString "tell"),.str (cx b)]);have D8:=D7.k0 k8
  replace s6:=k8.n s6
  generalize upd H7 t2 _=H8 at *;refine⟨by decide,λl3 hl3=>?_⟩
  obtain⟨k9,s9⟩:=dF hl3 (.lst [.ref t1,.ref t2]);have D9:=D8.k0 k9;have nl3:=D8.ne hl3
  replace s6:=k9.n s6
  replace s8:=k9.n s8
  generalize upd H8 l3 _=H9 at *;refine⟨p,2,_,rfl,D9,by lia,by decide,by decide,λd H10 hd D10 k10=>?_⟩
  have k010:=k05.trans (k6.all.trans (k7.trans (k8.all.trans (k9.all.trans k10))))
  replace s6:=D9.tup k10 s6
  replace s8:=D9.tup k10 s8
  have s9':=k10 _ _ s9 (by simpa using nl3)
  rcases (show d=0\/d=1 by lia) with rfl|rfl
  ·have e0:bV [V.ref t1,.ref t2] ((0:Nat):Int)=some (.ref t1):=rfl;exists az s9',e0;exact q .halt t1 H10 trivial s6 (D10.mono (by lia)) k010
  ·have e1:bV [V.ref t1,.ref t2] ((1:Nat):Int)=some (.ref t2):=rfl;exists az s9',e1;exact q (.one 0 b) t2 H10 hb s8 (D10.mono (by lia)) k010
noncomputable def uy:Sp:=λvs H Q _=>∃(p:Addr) (n:Nat),vs=[.ref p]/\Sd H p n/\n<2^27/\∀(rs:List Row) (a:Addr) H',rs.length<=60->(∀r∈rs,r.Ok rs.length)->ur H' a rs->Sd H' p (n+500)->KB [p] H H'->Q (.ref a) H'
theorem zP(T:Txt K mg)(F:HasFn K mg "_law_program" cW ["seed"])(h_law_draw:au P w K mg base aY 1 "_law_draw" ["seed","most"] dE)(h_law_row:au P w K mg base aY 3 "_law_row" ["seed","many"] yo):au P w K mg base aY 4 "_law_program" ["seed"] uy:=by
 refine F.eW fR (λvs H Q E h=>?_) (λf cdv A outer s H vs Q E hr h=>?_)
 ·obtain⟨p,n,rfl,_⟩:=h;rfl
 ·have hu:=aP hr;obtain⟨p,n,rfl,D,hn,q⟩:=h;refine⟨_,(Z.ao (Z.se (i:=1) fR.nd (Z.ix (Z.aM K rfl hu) (Z.lst (Z.cons (Z.op (Z.bf K rfl) Z.int (Z.fc h_law_draw (Z.cons (Z.v 0) (Z.cons Z.int Z.nil)))) (Z.cons (Z.op (Z.bf K rfl) Z.int (Z.fc h_law_draw (Z.cons (Z.v 0) (Z.cons Z.int Z.nil)))) (Z.cons (Z.fc h_law_draw (Z.cons (Z.v 0) (Z.cons Z.int Z.nil))) Z.nil)))) (Z.fc h_law_draw (Z.cons (Z.v 0) (Z.cons Z.int Z.nil)))))
   (Z.aA (Z.ret (Z.ct (Z.b_ K rfl) rfl T.cc (by decide +kernel) (Z.cons (Z.rA (osc:=af cW) (ON:=["seed","many"]) (own:=["k"]) (N:=["k","seed","many"]) (aG.of rfl (by decide +kernel)) (Z.vW rfl T.fA (Z.cons (Z.v 1) Z.nil)) (λnd _ _ _ _=>(Z.aT (i:=0) nd rfl (by right))) (λ_ _ _ _=>Z.lZ) (λ_ _ _ _=>(Z.fc h_law_row (Z.cons (Z.v 1) (Z.cons (Z.v 2) Z.nil))))) Z.nil))))),?_⟩
  refine ax λN hN=>?_;nofun;refine⟨p,12,n,rfl,D,by lia,by decide,by decide,λv1 H1 hv1 D1 k1=>?_⟩
  nofun;refine⟨p,12,_,rfl,D1,by lia,by decide,by decide,λv2 H2 hv2 D2 k2=>?_⟩
  nofun;refine⟨p,61,_,rfl,D2,by lia,by decide,by decide,λv3 H3 hv3 D3 k3=>⟨by decide,λl hl=>?_⟩⟩
  obtain⟨k4,s4⟩:=dF hl (.lst [.int (1+(v1:Int)),.int (1+(v2:Int)),.int (v3:Nat)]);have D4:=D3.k0 k4;have nl:=D3.ne hl;generalize upd H3 l _=H4 at *;refine⟨p,3,_,rfl,D4,by lia,by decide,by decide,λd H5 hd D5 k5=>?_⟩
  obtain⟨m,hm,em⟩:∃m:Nat,m<=60/\bV [V.int (1+(v1:Int)),.int (1+(v2:Int)),.int (v3:Nat)] (d:Int)=some (.int (m:Nat)):=by
   rcases (show d=0\/d=1\/d=2 by lia) with rfl|rfl|rfl
   ·exact⟨1+v1,by lia,rfl⟩
   ·exact⟨1+v2,by lia,rfl⟩
   ·exact⟨v3,by lia,rfl⟩
  exists az (k5 _ _ s4 (by simpa using nl)),em
  have k05:KB [p] H H5:=k1.trans (k2.trans (k3.trans (k4.all.trans k5)));rw[hN];clear hN N k1 k2 k3 k4 k5 s4 nl hl em D1 D2 D3 D4;nofun;refine⟨by lia,by lia,?_⟩
  rw[Kb];refine d5 (JF (show m<=1000 by lia) (by decide)) (λD i ys H'=>H5 D=none/\H' D=some (.lst ys)/\i<=m/\Sd H' p (n+5+8*i)/\KB [p] H5 H'/\∃(as:List Addr) (rs:List Row),ys=as.map V.ref/\rs.length=i/\(∀r∈rs,r.Ok m)/\PA H' as rs) (λD hD=>⟨hD,ae,JL _,(D5.k0 (KB.new hD)).mono (by lia),KB.new hD,[],[],rfl,rfl,λr hr=>absurd hr J_,rfl,λj p r e=>nomatch e⟩) (λD i ys H' h=>⟨h.2.1,by obtain⟨_,_,_,_,_,as,rs,rfl,e1,_,e2,_⟩:=h;rw[Jz,e2,e1]⟩) ?_ ?_
  ·rintro D i ys H' R hi ⟨g0,g1,g2,gD,gk,as,rs,rfl,e1,e2,e3⟩ kk;have nD:=D5.ne g0;nofun;refine⟨p,_,m,rfl,gD,by lia,hm,λr a H6 hr hra D6 k6=>?_⟩
   have gD6:=k6 _ _ g1 (by simpa using nD)
   have e36:PA H6 (as++[a]) (rs++[r]):=(e3.keep k6 gD.nt).snoc hra;refine kk _ _ gD6 ⟨g0,ae,hi,(D6.kb (KB.set (ex:=[D]) (by simp)) (by simpa using nD.symm)).mono (by lia),λu o e z=>by rw[aj (aq e g0)];exact k6 _ _ (gk _ _ e z) z,as++[a],rs++[r],by rw[JR];rfl,by rw[J5,e1];rfl,λr' hr'=>?_,e36.keep (KB.set (ex:=[D]) (by simp)) (jb gD6)⟩
   rcases K0.mp hr' with h|h
   ·exact e2 r' h
   ·rw[JQ.mp h];exact hr
  ·rintro D ys H' ⟨g0,g1,g2,gD,gk,as,rs,rfl,e1,e2,e3⟩;exists az g1;intro b hb;have kb:=KB.new (ex:=[]) (o:=.tup (as.map V.ref)) hb;refine q rs b _ (by lia) (by rw[e1];exact e2) ⟨as,ae,e3.keep kb (NT.nil _)⟩ ((gD.k0 kb).mono (by lia)) (k05.trans (gk.trans kb.all))
noncomputable def qo(K:W.Frag):Sp:=λvs H Q _=>∃(a:Addr) (ns:List Int) (m:Nat),vs=[.ref a,.int (m:Nat)]/\bI K H a (ns.map V.int)/\ns.length<=63/\m<=12/\∀(cs:List Int) l H',KB [] H H'->H' l=some (.lst (iV cs))->cs.length<=m+1->Q (.ref l) H'
theorem wm(T:Txt K mg)(F:HasFn K mg "_law_cells" fG ["script","many"]):au P w K mg base aY 1 "_law_cells" ["script","many"] (qo K):=by
 refine F.eW ml (λvs H Q E h=>?_) (λf cdv A outer s H vs Q E hr h=>?_)
 ·obtain⟨a,ns,m,rfl,_⟩:=h;rfl
 ·have hu:=aP hr;obtain⟨a,ns,m,rfl,hS,hl,hm,q⟩:=h;refine⟨_,(Z.aA (Z.ret (Z.op (Z.bf K rfl) (Z.slice (Y.GZ K rfl) (Z.v 0) Z.Aj (Z.uF (Z.v 1))) (Z.lst (Z.cons (Z.cb (Z.Dx K rfl) rfl T.cy (by decide +kernel) (Z.cons (Z.v 0) Z.nil)) Z.nil))))),?_⟩
  nofun;refine .inl ⟨a,_,rfl,hS,λp hp=>?_⟩;obtain⟨k1,s1⟩:=dF hp (.lst (iV (ns.take m)));rw[iE,show (List.map V.int ns).take m=iV (ns.take m) from N8.symm];generalize upd H p _=H1 at *;refine⟨_,ns.length,rfl,.inl ⟨_,k1.IP (by simp) hS,by rw[Jz]⟩,by decide,λp2 hp2=>?_⟩
  obtain⟨k2,s2⟩:=dF hp2 (.lst [V.int (ns.length:Nat)]);have s12:=k2.n s1;generalize upd H1 p2 _=H2 at *;exists s12,s2;refine⟨JF (show _<=100 by rw[bU,JT];lia) (by decide),λd hd=>?_⟩
  refine q (ns.take m++[((ns.length:Nat):Int)]) d _ (k1.trans (k2.trans (KB.new hd))) (by rw[ae,eO];rfl) (by rw[J5,JT];simp;lia)
theorem Fu(T:Txt K mg)(F:lW K "law" "law" iM f fd)(h_law_cells:au P w K mg base aY 1 "_law_cells" ["script","many"] (qo K))(h_law_seed:au P w K mg base aY 1 "_law_seed" ["cell"] wL)(h_law_program:au P w K mg base aY 4 "_law_program" ["seed"] uy)(h_law_book:au P w K mg base aY 3 "_law_book" ["seed"] uk)(h_law_right:au P w K mg base aY 8 "_law_right" ["seed","program","book"] (pP K)):cN P w K mg base aY 9 f fd ["script"] (qr K):=by
 refine AQ F nz (λvs H Q E h=>?_) (λcdv A outer s H vs Q E hr h=>?_)
 ·obtain⟨a,ns,rfl,hS,hl,q⟩:=h;rfl
 ·obtain⟨a,ns,rfl,hS,hl,q⟩:=h;have hu:=aP hr;refine⟨_,(Z.ao (Z.lg Kl rfl (Z.any K rfl (Z.fc h_law_cells (Z.cons (Z.v 0) (Z.cons Z.int Z.nil)))) (Z.aT (i:=1) nz.nd rfl (by right)) (Z.ao (Z.se (i:=2) nz.nd (Z.fc h_law_seed (Z.cons (Z.v 1) Z.nil)))
   (Z.ao (Z.se (i:=3) nz.nd (Z.fc h_law_program (Z.cons (Z.v 2) Z.nil)))
   (Z.aA (Z.dA (Z.EZ (Z.uZ K rfl (Z.fc h_law_right (Z.cons (Z.v 2) (Z.cons (Z.v 3) (Z.cons (Z.fc h_law_book (Z.cons (Z.v 2) Z.nil)) Z.nil)))))) (Z.aA (Z.ret Z.bl)) Z.bH)))))
   (Z.aA (Z.ret Z.bl))),?_⟩
  refine ax λN hN=>?_;nofun;refine⟨a,ns,2,rfl,hS,hl,by decide,λcs l H1 k1 h1 hcs=>?_⟩
  exists az h1;rw[hN];clear hN N;refine iZ (xs:=iV cs) (λi σ G=>KB [] H1 G/\∃(o1 o2 o3:Option V),σ=[some (.ref a),o1,o2,o3]) ⟨KB.refl _ _,_,_,_,rfl⟩ (λi σ G _ h=>bI.of (h.1.n h1)) ?_ ?_
  ·rintro i x σ G hx ⟨kG,o1,o2,o3,rfl⟩;obtain⟨hlt,rfl⟩:=lT hx;unfold b6;dsimp only;refine ax λM hM=>?_;nofun;refine⟨_,rfl,λp G1 D1 k1 hp=>?_⟩;rw[hM];clear hM M;refine ax λM hM=>?_;nofun;refine⟨p,_,rfl,D1,by decide,λrs pa G2 hrl hrs pr D2 k2=>?_⟩
   rw[hM];clear hM M;nofun;refine⟨p,_,rfl,D2,by decide,λbk b G3 D3 k3 hb hB=>?_⟩
   nofun;refine⟨p,pa,b,_,bk,rs,rfl,D3,by decide,pr.keep k3 D2.nt,hb,hB,hrl,hrs,λG4 k4=>?_⟩
   exists Bool.not_true;rw[JA (by decide)]
   exact⟨λu o e _=>(k2.trans (k3.trans k4)) _ _ (k1.n (kG.n e)) (by simpa using aq (kG.n e) hp),_,_,_,rfl,rfl,rfl⟩
  ·rintro σ G ⟨kG,o1,o2,o3,rfl⟩;nofun;exact q _
local macro_rules | `(tactic| walk_at "b1") => `(tactic| (intro _ _ _ _ _ _ us hl; obtain ⟨_, e⟩ := L2.Y.vQ hl; subst e; rfl))
theorem eV{x:Str}{st:Stmt}{ps:List Str}{oc:Value}{od an:Option Addr}{osl:Array (Option Value)}{kV doc pm cdv ct:Value}(X:K.In h)(G:h.Ns mainGlobals mg)(a:W.nsIn K mainGlobals x=some (some (.ref f)))
  (l:K.lookup f=some ⟨oc,od,.func (W.fnOf x x (bY st) (aU st) (af st) .none kV doc pm an cdv ct),osl⟩) (c:W.codeIn K cdv x=true) (k:W.keepIn K (.ref f)=true)
  (hb:∀(kV doc pm:Value) (an:Option Addr) (cdv ct:Value) (us:List Value),us.length=ps.length->bindArgs (W.fnOf x x (bY st) (aU st) (af st) .none kV doc pm an cdv ct) ⟨us,[]⟩=pure (ps.zip us)):HasFn K mg x st ps:=
 ⟨f,_,cB l c k,(cB l c k).binds hb,L8 X G a⟩
set_option autoImplicit true in
theorem all_mk{l:W.OpenLaw}{w:World}{fa:Addr}(X:K.In h)(G:h.Ns mainGlobals mg)(hfa:mg "law"=some (.ref fa))
  (F0:HasFn K mg "can_be" lO ["lengths"])
  (a1:W.nsIn K mainGlobals "code_of"=some (some (.ref f1))) (l1:K.lookup f1=some ⟨oc1,od1,.func (W.fnOf "code_of" "code_of" (bY dm) (aU dm) (af dm) .none kV1 dc1 pm1 an1 cd1 ct1),zzs⟩) (c1:W.codeIn K cd1 "code_of"=true) (k1:W.keepIn K (.ref f1)=true)
  (F2:HasFn K mg "word_behind" eM ["ahead","length"])
  (F3:HasFn K mg "thing_at" hZ ["code","bits","place"])
  (F4:HasFn K mg "goal_of" ja ["row"])
  (F5:HasFn K mg "with_goal" gy ["row","goal"])
  (F6:HasFn K mg "least_widths" e9 ["sizes","goals"])
  (F7:HasFn K mg "raised_till_good" cR ["sizes","goals"])
  (F8:HasFn K mg "narrowest" eG ["goals"])
  (F9:HasFn K mg "first_too_narrow" cQ ["sizes","goals","widths"])
  (F10:HasFn K mg "fits" rj ["starts","goals","widths","row"])
  (F11:HasFn K mg "distance_of" eU ["starts","goals","row"])
  (F12:HasFn K mg "row_starts" fv ["sizes","widths"])
  (F13:HasFn K mg "own_part" hW ["width"])
  (F14:HasFn K mg "coded_things" dR ["row"])
  (F15:HasFn K mg "codes_of" fH ["book"])
  (F16:HasFn K mg "pack_rows" cT ["program","book"])
  (F17:HasFn K mg "bits_ahead_of_goal" bT ["row","codes"])
  (F18:HasFn K mg "figures_behind_first" cf ["number"])
  (F19:HasFn K mg "jump_written" dO ["width","distance"])
  (F20:HasFn K mg "last_figures" dX ["number","many"])
  (F21:HasFn K mg "run_rows" fF ["program","given","most"])
  (F22:HasFn K mg "read_rows" d8 ["bits","book"])
  (F23:HasFn K mg "goal_numbered" dB ["row","start","numbers"])
  (F24:HasFn K mg "row_at" lE ["codes","bits","place"])
  (F25:HasFn K mg "coded_at" ig ["code","bits","place"])
  (F26:HasFn K mg "part_at" jk ["kind","codes","bits","place"])
  (F27:HasFn K mg "number_at" fY ["code","bits","place"])
  (F28:HasFn K mg "goal_at" jo ["bits","place"])
  (F29:HasFn K mg "run_bits" hU ["bits","book","given","most"])
  (F30:HasFn K mg "_law_seed" fX ["cell"])
  (F31:HasFn K mg "_law_draw" gF ["seed","most"])
  (F32:HasFn K mg "_law_cells" fG ["script","many"])
  (F33:HasFn K mg "_law_box" ip ["seed"])
  (F34:HasFn K mg "_law_number" eQ ["seed"])
  (F35:HasFn K mg "_law_row" hJ ["seed","many"])
  (F36:HasFn K mg "_law_program" cW ["seed"])
  (F37:HasFn K mg "_law_lengths" cz ["seed","many","most"])
  (F38:HasFn K mg "_law_book" gc ["seed"])
  (F39:HasFn K mg "_law_class" fw ["number"])
  (F40:HasFn K mg "_law_bare" fV ["row","book"])
  (F41:HasFn K mg "_law_sizes" cF ["program","book"])
  (F42:HasFn K mg "_law_right" cI ["seed","program","book"])
  (a43:W.nsIn K mainGlobals "law"=some (some (.ref f43))) (l43:K.lookup f43=some ⟨oc43,od43,.func (W.fnOf "law" "law" (bY iM) (aU iM) (af iM) .none kV43 dc43 pm43 an43 cd43 ct43),sl43⟩) (c43:W.codeIn K cd43 "law"=true) (k43:W.keepIn K (.ref f43)=true)
  (z0:W.nsIn K mainGlobals "bool"=some none)
  (z1:W.nsIn K mainGlobals "dict"=some none)
  (z2:W.nsIn K mainGlobals "enumerate"=some none)
  (z3:W.nsIn K mainGlobals "int"=some none)
  (z4:W.nsIn K mainGlobals "isinstance"=some none)
  (z5:W.nsIn K mainGlobals "len"=some none)
  (z6:W.nsIn K mainGlobals "list"=some none)
  (z7:W.nsIn K mainGlobals "max"=some none)
  (z8:W.nsIn K mainGlobals "min"=some none)
  (z9:W.nsIn K mainGlobals "range"=some none)
  (z10:W.nsIn K mainGlobals "sorted"=some none)
  (z11:W.nsIn K mainGlobals "str"=some none)
  (z12:W.nsIn K mainGlobals "sum"=some none)
  (z13:W.nsIn K mainGlobals "tuple"=some none)
  (z14:W.nsIn K mainGlobals "zip"=some none)
  (g0:W.nsIn K mainGlobals "BOXES"=some (some (.ref q0))) (m0:K.lookup q0=some ⟨.type "tuple",none,.seq #[.str "a" w0_0,.str "b" w0_1,.str "c" w0_2,.str "d" w0_3,.str "e" w0_4,.str "f" w0_5,.str "g" w0_6,.str "h" w0_7] qn0,qs0⟩)
  (g1:W.nsIn K mainGlobals "HALVES"=some (some (.ref q1))) (m1:K.lookup q1=some ⟨.type "tuple",qd1,.seq #[.int 8 w1_0,.int 128 w1_1,.int 32768 w1_2] qn1,qs1⟩)
  (g2:W.nsIn K mainGlobals "HEADS"=some (some (.ref q2))) (m2:K.lookup q2=some ⟨.type "tuple",qd2,.seq #[.str "0" w2_0,.str "10" w2_1,.str "11" w2_2] qn2,qs2⟩)
  (g3:W.nsIn K mainGlobals "OF_BOXES"=some (some (.int 2 w3_0)))
  (g4:W.nsIn K mainGlobals "OF_CLASSES"=some (some (.int 1 w4_0)))
  (g5:W.nsIn K mainGlobals "OF_WORDS"=some (some (.int 0 w5_0)))
  (g6:W.nsIn K mainGlobals "WHOLE"=some (some (.int 65536 w6_0)))
  (g7:W.nsIn K mainGlobals "WIDEST"=some (some (.int 2 w7_0)))
  (g8:W.nsIn K mainGlobals "WIDTHS"=some (some (.ref q8))) (m8:K.lookup q8=some ⟨.type "tuple",qd8,.seq #[.int 4 w8_0,.int 8 w8_1,.int 16 w8_2] qn8,qs8⟩)
  (dg0:W.nsIn K mainGlobals "SHAPES"=some (some (.ref dd0))) (dz0:(dd0 == sysModules)=false) (dl0:K.lookup dd0=some ⟨.type "dict",none,.dict #[⟨dh0_0,.str "put" dt0_0,.ref dp0_0⟩,⟨dh0_1,.str "add" dt0_1,.ref dp0_1⟩,⟨dh0_2,.str "sub" dt0_2,.ref dp0_2⟩,⟨dh0_3,.str "copy" dt0_3,.ref dp0_3⟩,⟨dh0_4,.str "tell" dt0_4,.ref dp0_4⟩,⟨dh0_5,.str "hear" dt0_5,.ref dp0_5⟩,⟨dh0_6,.str "jump" dt0_6,.ref dp0_6⟩,⟨dh0_7,.str "zero" dt0_7,.ref dp0_7⟩,⟨dh0_8,.str "halt" dt0_8,.ref dp0_8⟩] dh0_ep,#[]⟩)
  (dm0_0:K.lookup dp0_0=some ⟨.type "tuple",do0_0,.seq #[.str "box" dw0_0_0,.str "number" dw0_0_1] dn0_0,ds0_0⟩)
  (dm0_1:K.lookup dp0_1=some ⟨.type "tuple",do0_1,.seq #[.str "box" dw0_1_0,.str "box" dw0_1_1] dn0_1,ds0_1⟩)
  (dm0_2:K.lookup dp0_2=some ⟨.type "tuple",do0_2,.seq #[.str "box" dw0_2_0,.str "box" dw0_2_1] dn0_2,ds0_2⟩)
  (dm0_3:K.lookup dp0_3=some ⟨.type "tuple",do0_3,.seq #[.str "box" dw0_3_0,.str "box" dw0_3_1] dn0_3,ds0_3⟩)
  (dm0_4:K.lookup dp0_4=some ⟨.type "tuple",do0_4,.seq #[.str "box" dw0_4_0] dn0_4,ds0_4⟩)
  (dm0_5:K.lookup dp0_5=some ⟨.type "tuple",do0_5,.seq #[.str "box" dw0_5_0] dn0_5,ds0_5⟩)
  (dm0_6:K.lookup dp0_6=some ⟨.type "tuple",do0_6,.seq #[.str "goal" dw0_6_0] dn0_6,ds0_6⟩)
  (dm0_7:K.lookup dp0_7=some ⟨.type "tuple",do0_7,.seq #[.str "box" dw0_7_0,.str "goal" dw0_7_1] dn0_7,ds0_7⟩)
  (dm0_8:K.lookup dp0_8=some ⟨.type "tuple",do0_8,.seq #[] dn0_8,ds0_8⟩)
  (mq0:W.nsIn K mainGlobals "Machine"=some (some (.ref mC)))
  (mq1:W.plainGet K mC Str.empty=true)
  (mq2:W.hasDictIn K mC=true)
  (mq3:W.plainOver K mC=true)
  (mq4:W.findIn K (.ref mC) "__setattr__"=some (some (.builtin "object.__setattr__")))
  (mq5:W.findIn K (.ref mC) "given"=some none)
  (mq6:W.findIn K (.ref mC) "heard"=some none)
  (mq7:W.findIn K (.ref mC) "told"=some none)
  (mq8:W.findIn K (.ref mC) "boxes"=some none)
  (mq9:W.findIn K (.ref mC) "__init__"=some (some (.ref mf0)))
  (mq10:W.isFn K (.ref mf0)=true)
  (mq11:W.keepIn K (.ref mf0)=true)
  (mq12:K.lookup mf0=some ⟨moc0,mod0,.func (W.fnOf "__init__" "Machine.__init__" (bY aL) (aU aL) (af aL) .none mkV0 mdc0 mpm0 man0 mcd0 mct0),msl0⟩)
  (mq13:W.codeIn K mcd0 "Machine.__init__"=true)
  (mq14:W.makesIn K mC=true)
  (mq15:W.keepIn K (.ref mC)=true)
  (mq16:W.findIn K (.ref mC) "place_next"=some (some (.ref mf1)))
  (mq17:W.isFn K (.ref mf1)=true)
  (mq18:W.keepIn K (.ref mf1)=true)
  (mq19:K.lookup mf1=some ⟨moc1,mod1,.func (W.fnOf "place_next" "Machine.place_next" (bY aJ) (aU aJ) (af aJ) .none mkV1 mdc1 mpm1 man1 mcd1 mct1),msl1⟩)
  (mq20:W.codeIn K mcd1 "Machine.place_next"=true)
  (mq21:W.findIn K (.ref mC) "carry_out"=some (some (.ref mf2)))
  (mq22:W.isFn K (.ref mf2)=true)
  (mq23:W.keepIn K (.ref mf2)=true)
  (mq24:K.lookup mf2=some ⟨moc2,mod2,.func (W.fnOf "carry_out" "Machine.carry_out" (bY aN) (aU aN) (af aN) .none mkV2 mdc2 mpm2 man2 mcd2 mct2),msl2⟩)
  (mq25:W.codeIn K mcd2 "Machine.carry_out"=true)
  (mq26:W.findIn K (.ref mC) "number_for"=some (some (.ref mf3)))
  (mq27:W.isFn K (.ref mf3)=true)
  (mq28:W.keepIn K (.ref mf3)=true)
  (mq29:K.lookup mf3=some ⟨moc3,mod3,.func (W.fnOf "number_for" "Machine.number_for" (bY aK) (aU aK) (af aK) .none mkV3 mdc3 mpm3 man3 mcd3 mct3),msl3⟩)
  (mq30:W.codeIn K mcd3 "Machine.number_for"=true)
  (mq31:W.findIn K (.ref mC) "heard_number"=some (some (.ref mf4)))
  (mq32:W.isFn K (.ref mf4)=true)
  (mq33:W.keepIn K (.ref mf4)=true)
  (mq34:K.lookup mf4=some ⟨moc4,mod4,.func (W.fnOf "heard_number" "Machine.heard_number" (bY aI) (aU aI) (af aI) .none mkV4 mdc4 mpm4 man4 mcd4 mct4),msl4⟩)
  (mq35:W.codeIn K mcd4 "Machine.heard_number"=true)
  (mq36:W.findIn K (.ref mC) "told_numbers"=some (some (.ref mf5)))
  (mq37:W.isFn K (.ref mf5)=true)
  (mq38:W.keepIn K (.ref mf5)=true)
  (mq39:K.lookup mf5=some ⟨moc5,mod5,.func (W.fnOf "told_numbers" "Machine.told_numbers" (bY aH) (aU aH) (af aH) .none mkV5 mdc5 mpm5 man5 mcd5 mct5),msl5⟩)
  (mq40:W.codeIn K mcd5 "Machine.told_numbers"=true)
  (mq41:W.findIn K (.ref mC) "box_numbers"=some (some (.ref mf6)))
  (mq42:W.isFn K (.ref mf6)=true)
  (mq43:W.keepIn K (.ref mf6)=true)
  (mq44:K.lookup mf6=some ⟨moc6,mod6,.func (W.fnOf "box_numbers" "Machine.box_numbers" (bY aF) (aU aF) (af aF) .none mkV6 mdc6 mpm6 man6 mcd6 mct6),msl6⟩)
  (mq45:W.codeIn K mcd6 "Machine.box_numbers"=true)
  (le_code_of:cd1=.ref lc_code_of) (lk_code_of:K.lookup lc_code_of=some ⟨lO_code_of,lD_code_of,.fields lv_code_of,lS_code_of⟩) (lw_code_of:lv_code_of[11]?=some (.ref lp_code_of))
  : ∃fd:FuncData,(∀(s:Shared) (v:Value),BindsTo s fd ⟨[v],[]⟩ [("script",v)])/\∀base:Heap,K.In base->base.Ns mainGlobals mg->cN l.prog w K mg base aY 30 fa fd ["script"] (qr K):=by
 have e:=hfa.symm.trans (L8 X G a43);cases e
 have T:Txt K mg:=⟨K3 X G z0,K3 X G z1,K3 X G z2,K3 X G z3,K3 X G z4,K3 X G z5,K3 X G z6,K3 X G z7,K3 X G z8,K3 X G z9,K3 X G z10,K3 X G z11,K3 X G z12,K3 X G z13,K3 X G z14,⟨q0,L8 X G g0,λH=>.inr ⟨_,_,_,m0,rfl,rfl,(by show 8<=sizeLine;decide),(.cons ⟨w0_0,rfl⟩ (.cons ⟨w0_1,rfl⟩ (.cons ⟨w0_2,rfl⟩ (.cons ⟨w0_3,rfl⟩ (.cons ⟨w0_4,rfl⟩ (.cons ⟨w0_5,rfl⟩ (.cons ⟨w0_6,rfl⟩ (.cons ⟨w0_7,rfl⟩ .nil))))))))⟩⟩,⟨q1,L8 X G g1,λH=>.inr ⟨_,_,_,m1,rfl,rfl,(by show 3<=sizeLine;decide),(.cons ⟨w1_0,rfl⟩ (.cons ⟨w1_1,rfl⟩ (.cons ⟨w1_2,rfl⟩ .nil)))⟩⟩,⟨q2,L8 X G g2,λH=>.inr ⟨_,_,_,m2,rfl,rfl,(by show 3<=sizeLine;decide),(.cons ⟨w2_0,rfl⟩ (.cons ⟨w2_1,rfl⟩ (.cons ⟨w2_2,rfl⟩ .nil)))⟩⟩,⟨_,L8 X G g3,⟨_,rfl⟩⟩,⟨_,L8 X G g4,⟨_,rfl⟩⟩,⟨_,L8 X G g5,⟨_,rfl⟩⟩,⟨_,L8 X G g6,⟨_,rfl⟩⟩,⟨_,L8 X G g7,⟨_,rfl⟩⟩,⟨q8,L8 X G g8,λH=>.inr ⟨_,_,_,m8,rfl,rfl,(by show 3<=sizeLine;decide),(.cons ⟨w8_0,rfl⟩ (.cons ⟨w8_1,rfl⟩ (.cons ⟨w8_2,rfl⟩ .nil)))⟩⟩,⟨q0,_,L8 X G g0,m0,rfl⟩,⟨dd0,L8 X G dg0,dz0,_,_,_,dl0,⟨rfl,rfl,rfl⟩,rfl,(.cons rfl ⟨dp0_0,rfl,⟨_,_,_,dm0_0,rfl,rfl,(by show 2<=sizeLine;decide),(.cons ⟨dw0_0_0,rfl⟩ (.cons ⟨dw0_0_1,rfl⟩ .nil))⟩⟩ (.cons rfl ⟨dp0_1,rfl,⟨_,_,_,dm0_1,rfl,rfl,(by show 2<=sizeLine;decide),(.cons ⟨dw0_1_0,rfl⟩ (.cons ⟨dw0_1_1,rfl⟩ .nil))⟩⟩ (.cons rfl ⟨dp0_2,rfl,⟨_,_,_,dm0_2,rfl,rfl,(by show 2<=sizeLine;decide),(.cons ⟨dw0_2_0,rfl⟩ (.cons ⟨dw0_2_1,rfl⟩ .nil))⟩⟩ (.cons rfl ⟨dp0_3,rfl,⟨_,_,_,dm0_3,rfl,rfl,(by show 2<=sizeLine;decide),(.cons ⟨dw0_3_0,rfl⟩ (.cons ⟨dw0_3_1,rfl⟩ .nil))⟩⟩ (.cons rfl ⟨dp0_4,rfl,⟨_,_,_,dm0_4,rfl,rfl,(by show 1<=sizeLine;decide),(.cons ⟨dw0_4_0,rfl⟩ .nil)⟩⟩ (.cons rfl ⟨dp0_5,rfl,⟨_,_,_,dm0_5,rfl,rfl,(by show 1<=sizeLine;decide),(.cons ⟨dw0_5_0,rfl⟩ .nil)⟩⟩ (.cons rfl ⟨dp0_6,rfl,⟨_,_,_,dm0_6,rfl,rfl,(by show 1<=sizeLine;decide),(.cons ⟨dw0_6_0,rfl⟩ .nil)⟩⟩ (.cons rfl ⟨dp0_7,rfl,⟨_,_,_,dm0_7,rfl,rfl,(by show 2<=sizeLine;decide),(.cons ⟨dw0_7_0,rfl⟩ (.cons ⟨dw0_7_1,rfl⟩ .nil))⟩⟩ (.cons rfl ⟨dp0_8,rfl,⟨_,_,_,dm0_8,rfl,rfl,(by show 0<=sizeLine;decide),.nil⟩⟩ .nil)))))))))⟩,⟨_,_,_,_,_,_,_,_,_,_,_,_,_,_,_,L8 X G mq0,⟨mq1,mq2,mq3,mq4⟩,mq5,mq6,mq7,mq8,⟨mq14,mq9,mq10,mq15⟩,cB (st:=aL) mq12 mq13 mq11,(cB (st:=aL) mq12 mq13 mq11).binds (ps:=["self","given"]) (λ_ _ _ _ _ _ us hl=>by obtain⟨_,_,rfl⟩:=Y.xZ hl;rfl),⟨mq16,mq17,mq18⟩,cB (st:=aJ) mq19 mq20 mq18,(cB (st:=aJ) mq19 mq20 mq18).binds (ps:=["self","row","behind","end"]) (λ_ _ _ _ _ _ us hl=>by obtain⟨_,_,_,_,rfl⟩:=Y.Hn hl;rfl),⟨mq21,mq22,mq23⟩,cB (st:=aN) mq24 mq25 mq23,(cB (st:=aN) mq24 mq25 mq23).binds (ps:=["self","row"]) (λ_ _ _ _ _ _ us hl=>by obtain⟨_,_,rfl⟩:=Y.xZ hl;rfl),⟨mq26,mq27,mq28⟩,cB (st:=aK) mq29 mq30 mq28,(cB (st:=aK) mq29 mq30 mq28).binds (ps:=["self","row"]) (λ_ _ _ _ _ _ us hl=>by obtain⟨_,_,rfl⟩:=Y.xZ hl;rfl),⟨mq31,mq32,mq33⟩,cB (st:=aI) mq34 mq35 mq33,(cB (st:=aI) mq34 mq35 mq33).binds (ps:=["self"]) (λ_ _ _ _ _ _ us hl=>by obtain⟨_,rfl⟩:=Y.vQ hl;rfl),⟨mq36,mq37,mq38⟩,cB (st:=aH) mq39 mq40 mq38,(cB (st:=aH) mq39 mq40 mq38).binds (ps:=["self"]) (λ_ _ _ _ _ _ us hl=>by obtain⟨_,rfl⟩:=Y.vQ hl;rfl),⟨mq41,mq42,mq43⟩,cB (st:=aF) mq44 mq45 mq43,(cB (st:=aF) mq44 mq45 mq43).binds (ps:=["self"]) (λ_ _ _ _ _ _ us hl=>by obtain⟨_,rfl⟩:=Y.vQ hl;rfl)⟩,tJ.mk' X G (qC a1 l1 le_code_of lk_code_of lw_code_of)⟩
 have F1:HasFn K mg "code_of" dm ["lengths"]:=eV X G a1 l1 c1 k1 (by walk_at "b1")
 refine⟨W.fnOf "law" "law" (bY iM) (aU iM) (af iM) .none kV43 dc43 pm43 an43 cd43 ct43,λs v=>.of_eq rfl,λbase _ _=>(show cN l.prog w K mg base aY 9 _ _ ["script"] (qr K) from ?_).mono (by decide)⟩
 have dr:=zw (P:=l.prog) (w:=w) (base:=base) T F31;have nu:=B2 T F34 dr;have ca:=y9 (P:=l.prog) (w:=w) (base:=base) T F25 (yk T F3);have cs:=zg T F15 (AL (P:=l.prog) (w:=w) (base:=base) T F1 (E8 T F0) (vS T F2));have go:=xt (P:=l.prog) (w:=w) (base:=base) T F4;have fg:=EX (P:=l.prog) (w:=w) (base:=base) T F20;have st:=vO (P:=l.prog) (w:=w) (base:=base) T F12 (FC T F13);have di:=BZ (P:=l.prog) (w:=w) (base:=base) T F11;have lw:=vd T F6 (vH T F7 (vq T F8) (zO T F9 st (C5 T F10 di)));have pk:=Bl T F16 cs (wK T F17 (wq T F14) (sk T F18 fg)) go lw st (yM T F19 fg) di;have ra:=xI T F24 ca (vM T F26 ca (xv T F27 ca) (wc T F28 ca));have rd:=y0 T F22 cs ra (AJ T F23 go (Bb T F5));exact Fu T (cB (st:=iM) l43 c43 k43) (wm T F32) (B3 T F30) (zP T F36 dr (BP T F35 dr (AE T F33 dr) nu)) (zu T F38 dr (zD T F37 dr)) (wk T F42 dr nu (zC T F41 (BE T F40 (xm T F39)) lw) pk rd (Bq T go F21) (Bz T go cs ra F29))
theorem walk{l:W.OpenLaw}{q:Program}{loose:List Str}{XP:(Str->Option Value)->Heap->Prop}{YP:World->Heap->Prop}{d:DefRec}{K:Params->W.Frag}(hn:l.most=some 63)(hdf:d.params.defaults=[])
  (hY:∀(w:World) (h:Heap),YP w h->(K w.params).In h)
  (F:∀(w:World) (mg:Str->Option Value) (fa:Addr) (h:Heap),(K w.params).In h->h.Ns mainGlobals mg->mg d.name=some (.ref fa)->∃fd:FuncData,(∀(s:Shared) (u:Value),BindsTo s fd ⟨[u],[]⟩ [("script",u)])/\∀base:Heap,(K w.params).In base->base.Ns mainGlobals mg->cN l.prog w (K w.params) mg base aY 30 fa fd ["script"] (qr (K w.params))) (hL:∀(w:World) (h:Heap),(K w.params).In h->iy q (K w.params)) :
  W.WalkO q loose XP YP l.row.toRowW d [] (λf vs=>PySem.call f vs):=
 L2.BI (n:=63) (k:=30) (x:="script") (CX:=λ_=>aY) (sp:=λw=>qr (K w.params)) hn (by decide) hdf ⟨rfl,by decide,by decide,rfl⟩ hY F (λ_ _ a ns hl _ hS=>⟨a,ns,rfl,hS,hl,λ_=>rfl⟩) (λ_ _ _ _ _ z=>z) hL
theorem Fn{q:Program}(_:K.In h){la_code_of lc_code_of lp_code_of:Addr}{lo_code_of lO_code_of:Value}{ld_code_of lD_code_of:Option Addr}{lfd_code_of:FuncData}{lv_code_of:Array Value}{ls_code_of lS_code_of:Array (Option Value)}(nt:W.noTabs K=true)
  (ma_by_worth:W.nsIn K mainGlobals "by_worth"=some none)
  (ma_by_weight:W.nsIn K mainGlobals "by_weight"=some none)
  (ma_code_of:W.nsIn K mainGlobals "code_of"=some (some (.ref la_code_of))) (ml_code_of:K.lookup la_code_of=some ⟨lo_code_of,ld_code_of,.func lfd_code_of,ls_code_of⟩) (mc_code_of:lfd_code_of.code=.ref lc_code_of) (mk_code_of:K.lookup lc_code_of=some ⟨lO_code_of,lD_code_of,.fields lv_code_of,lS_code_of⟩) (mw_code_of:lv_code_of[11]?=some (.ref lp_code_of)) (mr_code_of:((recsOf q).find? (λe=>e.name ==("code_of":Str))).isSome=true)
  : iy q K:=iy.of nt (kH ma_by_worth) (kH ma_by_weight) (qC ma_code_of ml_code_of mc_code_of mk_code_of mw_code_of) (by first|exact mn|simp) (.inl rfl) (.inl rfl) (.inr mr_code_of)
end
end G
open PySem PySem.W PyProof.Rows
local macro_rules | `(tactic| walk_at "b1") => `(tactic| (intro _ _ _ _ _ _ us hl; obtain ⟨_, e⟩ := L2.Y.vQ hl; subst e; rfl))
local macro_rules | `(tactic| walk_at "b2") => `(tactic| (intro _ _ _ _ _ _ us hl; obtain ⟨_, _, e⟩ := L2.Y.xZ hl; subst e; rfl))
local macro_rules | `(tactic| walk_at "b3") => `(tactic| (intro _ _ _ _ _ _ us hl; obtain ⟨_, _, _, e⟩ := L2.Y.zd hl; subst e; rfl))
local macro_rules | `(tactic| walk_at "b4") => `(tactic| (intro _ _ _ _ _ _ us hl; obtain ⟨_, _, _, _, e⟩ := L2.Y.Hn hl; subst e; rfl))
set_option maxRecDepth 100000 in
set_option maxHeartbeats 0 in
theorem PySem.Challenge.cw_shortrows_k47_whole_packed_read_and_run_holds : PySem.Challenge.rw_shortrows_k47_whole_packed_read_and_run.Holds := by
 w_on;o_law;k_head;(case hw=>w_witness2)
 k_fill
 refine G.walk (l:=PySem.Challenge.rw_shortrows_k47_whole_packed_read_and_run) rfl rfl (λw h Y=>by first|exact W.kIn_of Y|exact W.km_in_of Y) ?F ?L
 case F =>
  intro w mg fa h KX GN hmg
  refine' G.all_mk KX GN hmg (G.eV KX GN ?a0 ?l0 ?c0 ?k0 (by walk_at "b1")) ?a1 ?l1 ?c1 ?k1 (G.eV KX GN ?a2 ?l2 ?c2 ?k2 (by walk_at "b2")) (G.eV KX GN ?a3 ?l3 ?c3 ?k3 (by walk_at "b3")) (G.eV KX GN ?a4 ?l4 ?c4 ?k4 (by walk_at "b1")) (G.eV KX GN ?a5 ?l5 ?c5 ?k5 (by walk_at "b2")) (G.eV KX GN ?a6 ?l6 ?c6 ?k6 (by walk_at "b2")) (G.eV KX GN ?a7 ?l7 ?c7 ?k7 (by walk_at "b2")) (G.eV KX GN ?a8 ?l8 ?c8 ?k8 (by walk_at "b1")) (G.eV KX GN ?a9 ?l9 ?c9 ?k9 (by walk_at "b3")) (G.eV KX GN ?a10 ?l10 ?c10 ?k10 (by walk_at "b4")) (G.eV KX GN ?a11 ?l11 ?c11 ?k11 (by walk_at "b3")) (G.eV KX GN ?a12 ?l12 ?c12 ?k12 (by walk_at "b2")) (G.eV KX GN ?a13 ?l13 ?c13 ?k13 (by walk_at "b1")) (G.eV KX GN ?a14 ?l14 ?c14 ?k14 (by walk_at "b1")) (G.eV KX GN ?a15 ?l15 ?c15 ?k15 (by walk_at "b1")) (G.eV KX GN ?a16 ?l16 ?c16 ?k16 (by walk_at "b2")) (G.eV KX GN ?a17 ?l17 ?c17 ?k17 (by walk_at "b2")) (G.eV KX GN ?a18 ?l18 ?c18 ?k18 (by walk_at "b1")) (G.eV KX GN ?a19 ?l19 ?c19 ?k19 (by walk_at "b2")) (G.eV KX GN ?a20 ?l20 ?c20 ?k20 (by walk_at "b2")) (G.eV KX GN ?a21 ?l21 ?c21 ?k21 (by walk_at "b3")) (G.eV KX GN ?a22 ?l22 ?c22 ?k22 (by walk_at "b2")) (G.eV KX GN ?a23 ?l23 ?c23 ?k23 (by walk_at "b3")) (G.eV KX GN ?a24 ?l24 ?c24 ?k24 (by walk_at "b3")) (G.eV KX GN ?a25 ?l25 ?c25 ?k25 (by walk_at "b3")) (G.eV KX GN ?a26 ?l26 ?c26 ?k26 (by walk_at "b4")) (G.eV KX GN ?a27 ?l27 ?c27 ?k27 (by walk_at "b3")) (G.eV KX GN ?a28 ?l28 ?c28 ?k28 (by walk_at "b2")) (G.eV KX GN ?a29 ?l29 ?c29 ?k29 (by walk_at "b4")) (G.eV KX GN ?a30 ?l30 ?c30 ?k30 (by walk_at "b1")) (G.eV KX GN ?a31 ?l31 ?c31 ?k31 (by walk_at "b2")) (G.eV KX GN ?a32 ?l32 ?c32 ?k32 (by walk_at "b2")) (G.eV KX GN ?a33 ?l33 ?c33 ?k33 (by walk_at "b1")) (G.eV KX GN ?a34 ?l34 ?c34 ?k34 (by walk_at "b1")) (G.eV KX GN ?a35 ?l35 ?c35 ?k35 (by walk_at "b2")) (G.eV KX GN ?a36 ?l36 ?c36 ?k36 (by walk_at "b1")) (G.eV KX GN ?a37 ?l37 ?c37 ?k37 (by walk_at "b3")) (G.eV KX GN ?a38 ?l38 ?c38 ?k38 (by walk_at "b1")) (G.eV KX GN ?a39 ?l39 ?c39 ?k39 (by walk_at "b1")) (G.eV KX GN ?a40 ?l40 ?c40 ?k40 (by walk_at "b2")) (G.eV KX GN ?a41 ?l41 ?c41 ?k41 (by walk_at "b2")) (G.eV KX GN ?a42 ?l42 ?c42 ?k42 (by walk_at "b3")) ?a43 ?l43 ?c43 ?k43 ?z0 ?z1 ?z2 ?z3 ?z4 ?z5 ?z6 ?z7 ?z8 ?z9 ?z10 ?z11 ?z12 ?z13 ?z14 ?gq0 ?mq0 ?gq1 ?mq1 ?gq2 ?mq2 ?gq3 ?gq4 ?gq5 ?gq6 ?gq7 ?gq8 ?mq8 ?dg0 ?dz0 ?dl0 ?dm0_0 ?dm0_1 ?dm0_2 ?dm0_3 ?dm0_4 ?dm0_5 ?dm0_6 ?dm0_7 ?dm0_8 ?mq_0 ?mq_1 ?mq_2 ?mq_3 ?mq_4 ?mq_5 ?mq_6 ?mq_7 ?mq_8 ?mq_9 ?mq_10 ?mq_11 ?mq_12 ?mq_13 ?mq_14 ?mq_15 ?mq_16 ?mq_17 ?mq_18 ?mq_19 ?mq_20 ?mq_21 ?mq_22 ?mq_23 ?mq_24 ?mq_25 ?mq_26 ?mq_27 ?mq_28 ?mq_29 ?mq_30 ?mq_31 ?mq_32 ?mq_33 ?mq_34 ?mq_35 ?mq_36 ?mq_37 ?mq_38 ?mq_39 ?mq_40 ?mq_41 ?mq_42 ?mq_43 ?mq_44 ?mq_45 ?le_code_of ?lk_code_of ?lw_code_of
  (case a0|l0|c0|k0|a1|l1|c1|k1|a2|l2|c2|k2|a3|l3|c3|k3|a4|l4|c4|k4|a5|l5|c5|k5|a6|l6|c6|k6|a7|l7|c7|k7|a8|l8|c8|k8|a9|l9|c9|k9|a10|l10|c10|k10|a11|l11|c11|k11|a12|l12|c12|k12|a13|l13|c13|k13|a14|l14|c14|k14|a15|l15|c15|k15|a16|l16|c16|k16|a17|l17|c17|k17|a18|l18|c18|k18|a19|l19|c19|k19|a20|l20|c20|k20|a21|l21|c21|k21|a22|l22|c22|k22|a23|l23|c23|k23|a24|l24|c24|k24|a25|l25|c25|k25|a26|l26|c26|k26|a27|l27|c27|k27|a28|l28|c28|k28|a29|l29|c29|k29|a30|l30|c30|k30|a31|l31|c31|k31|a32|l32|c32|k32|a33|l33|c33|k33|a34|l34|c34|k34|a35|l35|c35|k35|a36|l36|c36|k36|a37|l37|c37|k37|a38|l38|c38|k38|a39|l39|c39|k39|a40|l40|c40|k40|a41|l41|c41|k41|a42|l42|c42|k42|a43|l43|c43|k43|z0|z1|z2|z3|z4|z5|z6|z7|z8|z9|z10|z11|z12|z13|z14|gq0|mq0|gq1|mq1|gq2|mq2|gq3|gq4|gq5|gq6|gq7|gq8|mq8|dg0|dl0|dm0_0|dm0_1|dm0_2|dm0_3|dm0_4|dm0_5|dm0_6|dm0_7|dm0_8=>k_is)
  (case dz0=>rfl)
  (case mq_0|mq_1|mq_2|mq_3|mq_4|mq_5|mq_6|mq_7|mq_8|mq_9|mq_10|mq_11|mq_12|mq_13|mq_14|mq_15|mq_16|mq_17|mq_18|mq_19|mq_20|mq_21|mq_22|mq_23|mq_24|mq_25|mq_26|mq_27|mq_28|mq_29|mq_30|mq_31|mq_32|mq_33|mq_34|mq_35|mq_36|mq_37|mq_38|mq_39|mq_40|mq_41|mq_42|mq_43|mq_44|mq_45=>k_is)
  (case le_code_of=>exact rfl)
  (case lk_code_of=>k_is)
  (case lw_code_of=>exact rfl)
 case L =>
  intro w h KX
  refine' G.Fn KX (by kernel_rfl) ?ma_by_worth ?ma_by_weight ?ma_code_of ?ml_code_of ?mc_code_of ?mk_code_of ?mw_code_of ?mr_code_of
  (case ma_by_worth|ma_by_weight|ma_code_of|ml_code_of=>k_is)
  (case mc_code_of=>exact rfl)
  (case mk_code_of=>k_is)
  (case mw_code_of=>exact rfl)
  (case mr_code_of=>exact rfl)
end
