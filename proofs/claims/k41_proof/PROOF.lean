import PyProof.Rows.All
import Wide.All
import OpenK.AllK
import Wide.FinOn
import Lean
import PyProof.EqAt
import PyProof.EqKinds
import PyProof.TupleCall
import KE.KSortKey
import KE.KLam
import PySem.Challenge.RW_shortrows_k41_whole_rows_that_do_nothing
namespace PySem.W.Fast
def tw3655318346508409264:=0
def tw11178146785804018450:=0
def tw2452700282775488129:=0
def tw13264089368077236752:=0
noncomputable def tw10419472235886613903:=0
noncomputable def tw5578482606579613532:=0
noncomputable def tw3131656142361637238:=0
noncomputable def tw16228653150149876694:=0
noncomputable def tw8882480998384219370:=0
noncomputable def tw6084094952884217202:=0
noncomputable def tw14072254024962305728:=0
noncomputable def tw16058726836063751609:=0
noncomputable def tw12807088194860293948:=0
noncomputable def tw16182513448940988376:=0
noncomputable def tw7863144013123050424:=0
noncomputable def tw12748722884020558948:=0
noncomputable def tw4492502904621230845:=0
noncomputable def tw8000451923799985071:=0
noncomputable def tw6228897467131502069:=0
noncomputable def tw8252698822702882617:=0
noncomputable def tw3501512338139008086:=0
noncomputable def tw7103289518855059717:=0
noncomputable def tw5739101528710846279:=0
noncomputable def tw17612958965756954885:=0
noncomputable def tw13551336914712807939:=0
noncomputable def tw14351914015623753609:=0
noncomputable def tw14217197457224150764:=0
noncomputable def tw12098994978141956126:=0
noncomputable def tw14908276509267921427:=0
noncomputable def tw6588148630292024600:=0
noncomputable def tw8946183158458841256:=0
noncomputable def tw228165228628086105:=0
noncomputable def tw359558064818013739:=0
noncomputable def tw2037319934925659042:=0
noncomputable def tw8254834163984480579:=0
noncomputable def tw9718638112662815147:=0
noncomputable def tw15082559882919790380:=0
noncomputable def tw7718782609908017407:=0
noncomputable def tw1384124575302662397:=0
noncomputable def tw14971656484494750331:=0
noncomputable def tw7139289949891333164:=0
noncomputable def tw11179737576094528476:=0
noncomputable def tw15857093495344143335:=0
noncomputable def tw10556020748575341983:=0
noncomputable def tw13785893512649869314:=0
noncomputable def tw17729459537906732720:=0
noncomputable def tw17719005528427393647:=0
noncomputable def tw15870138390960106182:=0
noncomputable def tw9965139474416904755:=0
noncomputable def tw8343443534225733903:=0
noncomputable def tw6733244896485454386:=0
noncomputable def tw5686427908805244519:=0
noncomputable def tw17465840216231068550:=0
noncomputable def tw18202475925604472054:=0
noncomputable def tw9890906173181358846:=0
noncomputable def tw14715994563359640224:=0
noncomputable def tw10572263805223530662:=0
noncomputable def tw16393873545775508422:=0
noncomputable def tw2753733937160478941:=0
noncomputable def tw7529011976893596325:=0
noncomputable def tw1452049899824877264:=0
noncomputable def tw1551857307771378217:=0
noncomputable def tw2401378431002855469:=0
noncomputable def tw3356283197765903580:=0
noncomputable def tw16188258201259645850:=0
noncomputable def tw15134519432525550990:=0
noncomputable def tw8107918414522891527:=0
noncomputable def tw1878538648300311270:=0
noncomputable def tw7102684016107984448:=0
noncomputable def tw8761287263837655556:=0
noncomputable def tw1944312004244844010:=0
noncomputable def tw6963924642835004727:=0
noncomputable def tw4965813082683678054:=0
noncomputable def tw18284598535269712415:=0
noncomputable def tw479925795184745137:=0
noncomputable def tw15518459230109861724:=0
noncomputable def tw15931300191789601209:=0
noncomputable def tw12120978584791756237:=0
noncomputable def tw10566856421239012005:=0
noncomputable def tw8679036424887304468:=0
noncomputable def tw6086212621217913594:=0
noncomputable def tw13412910899628479745:=0
noncomputable def tw13715703318154068469:=0
noncomputable def tw3824500296704786093:=0
noncomputable def tw500785319424040379:=0
noncomputable def tw7906708184211809383:=0
noncomputable def tw15644190311614893132:=0
noncomputable def tw17909038900020058095:=0
noncomputable def tw10354812277970826287:=0
noncomputable def tw10354662293650164165:=0
noncomputable def tw17380827633035839764:=0
noncomputable def tw11696148956275231587:=0
noncomputable def tw7717679748204258722:=0
noncomputable def tw1545370071093927588:=0
noncomputable def tw1440820804187656156:=0
noncomputable def tw2621688840467427208:=0
noncomputable def tw6597216304633037994:=0
noncomputable def tw3986239919592654358:=0
noncomputable def tw16574222237882310949:=0
noncomputable def tw16517122596582305430:=0
noncomputable def tw1007674319274576860:=0
noncomputable def tw15536960743908560851:=0
noncomputable def tw6493921633248879186:=0
noncomputable def tw9551568247992571390:=0
noncomputable def tw13025408234883297081:=0
noncomputable def tw1846509146869741073:=0
noncomputable def tw13744648611946359598:=0
noncomputable def tw15830939341363999204:=0
noncomputable def tw11422288067230736207:=0
noncomputable def tw5699909971977426595:=0
noncomputable def tw15196042712473915340:=0
noncomputable def tw1571685629282847182:=0
noncomputable def tw6468494846760153123:=0
noncomputable def tw15672221774065344397:=0
noncomputable def tw5441850262756909972:=0
noncomputable def tw16634463729771781978:=0
noncomputable def tw16778151651411116903:=0
noncomputable def tw16826992961074427929:=0
noncomputable def tw2519777290601905928:=0
noncomputable def tw5995932827512494536:=0
noncomputable def tw2006857997167873846:=0
noncomputable def tw8922136879929907220:=0
noncomputable def tw5897395156296688101:=0
noncomputable def tw12187689639034019136:=0
noncomputable def tw3465669055080259987:=0
noncomputable def tw2314117977176769709:=0
noncomputable def tw8448605348978132989:=0
noncomputable def tw6487523098213969637:=0
noncomputable def tw2132223334475282782:=0
noncomputable def tw17767604352153366865:=0
noncomputable def tw5750129013457854154:=0
noncomputable def tw10548406721947647255:=0
noncomputable def tw6708123329365072029:=0
noncomputable def tw3078564586317337909:=0
noncomputable def tw16313800643060074133:=0
noncomputable def tw9760233929686670832:=0
noncomputable def tw16160727641926425716:=0
noncomputable def tw1009059754522410664:=0
noncomputable def tw10255097948823996800:=0
noncomputable def tw5778563808254037643:=0
noncomputable def tw5455726720059004807:=0
noncomputable def tw6240002828950790766:=0
noncomputable def tw1988629756576069853:=0
end PySem.W.Fast
set_option Elab.async false
set_option linter.all false
set_option maxRecDepth 100000
set_option maxHeartbeats 4000000
noncomputable section
set_option compiler.extract_closed false
theorem ℜz0(_:True:=by rfl):True:=⟨⟩
def ℜ0:Lean.Syntax:=ℜz0._auto_1
theorem ℜz1(_:True:=by decide):True:=⟨⟩
def ℜ1:Lean.Syntax:=ℜz1._auto_1
theorem ℜz2(_:True:=by first|exact .inl rfl|exact .inr rfl|assumption):True:=⟨⟩
def ℜ2:Lean.Syntax:=ℜz2._auto_1
theorem ℜz3(_:True:=by intro _;rfl):True:=⟨⟩
def ℜ3:Lean.Syntax:=ℜz3._auto_1
theorem ℜz4(_:True:=by first|exact Or.inl rfl|exact Or.inr (Or.inl rfl)|exact Or.inr (Or.inr rfl)):True:=⟨⟩
def ℜ4:Lean.Syntax:=ℜz4._auto_1
theorem ℜz5(_:True:=by with_unfolding_all rfl):True:=⟨⟩
def ℜ5:Lean.Syntax:=ℜz5._auto_1
theorem ℜz6(_:True:=by decide +kernel):True:=⟨⟩
def ℜ6:Lean.Syntax:=ℜz6._auto_1
namespace L2
open PySem PySem.Spec PyProof.Rows
variable{us:List Value}{x:Str}{u:Value}{C a b:Addr}{base h:Heap}{items:Array Value}{P:Program}{w:World}{K:W.Frag}{g':Array GenState}{ch fp:List Addr}{e tg:Expr}{N:List Str}{i j k:Nat}{M:Model}{E Q:Value->Shared->Prop}{s':Shared}{pins:List (Addr×Obj)}{f:Value->Value->Sem Value}{es:List Expr}{g:Int->Int->Int}{body:List Stmt}{pl:Sem Bool}{mA mg:Str->Option Value}{kw:List (Str×Value)}{fd:FuncData}{outer:List Env}{kindOf:Str->Option NameKind}{scope:Scope}
noncomputable def JI:=@List.getElem?_eq_getElem
noncomputable def JJ:=@PySem.wpAny_bind
noncomputable def JK:=@List.length_map
noncomputable def JL:=@List.length_append
noncomputable def JM:=@PySem.Heap.get?_push_of_some
noncomputable def JN:=@if_neg
noncomputable def JO:=@List.getElem?_eq_some_iff
noncomputable def JP:=@List.size_toArray
noncomputable def JQ:=@if_pos
noncomputable def JR:=@List.mem_cons
noncomputable def JS:=@Nat.le_refl
noncomputable def JT:=@List.mem_cons_of_mem
noncomputable def JU:=@List.mem_cons_self
noncomputable def JV:=@PySem.wpAny_pure
noncomputable def JW:=@List.getElem?_map
noncomputable def JX:=@Nat.le_trans
noncomputable def JY:=@List.getD_eq_getElem?_getD
noncomputable def JZ:=@Bool.false_ne_true
noncomputable def J_:=@List.length_cons
noncomputable def Ka:=@List.mem_singleton
noncomputable def Kb:=@List.length_replicate
noncomputable def Kc:=@PySem.Heap.get?_push_size
noncomputable def Ke:=@PySem.Heap.lt_size
noncomputable def Kf:=@List.getElem_mem
noncomputable def Kg:=@List.map_append
noncomputable def Kh:=@Nat.zero_le
noncomputable def Ki:=@List.length_take
noncomputable def Kj:=@List.append_assoc
noncomputable def Kk:=@List.getElem?_append_right
noncomputable def Kl:=@List.mem_append_right
noncomputable def Km:=@Option.map_eq_some_iff
noncomputable def Kn:=@Nat.ne_of_lt
noncomputable def Ko:=@decide_eq_false
noncomputable def Kp:=@Nat.lt_of_lt_of_le
noncomputable def Kq:=@List.length_drop
noncomputable def Ks:=@List.getElem?_append_left
noncomputable def Kt:=@List.not_mem_nil
noncomputable def Ku:=@List.map_cons
noncomputable def Kv:=@beq_eq_false_iff_ne
noncomputable def Kw:=@decide_eq_true
noncomputable def Kx:=@Array.getElem?_toList
noncomputable def Ky:=@Int.toNat_natCast
noncomputable def Kz:=@List.pairwise_cons
noncomputable def K0:=@Array.length_toList
noncomputable def K1:=@PySem.PassesOwn.never
noncomputable def K2:=@List.mem_map
noncomputable def K4:=@List.replicate_succ
noncomputable def K6:=@List.append_nil
noncomputable def K7:=@congrArg
noncomputable def K8:=@List.mem_append
noncomputable def K9:=@List.lookup_cons
noncomputable def KA:=@List.mem_or_eq_of_mem_set
noncomputable def KC:=@List.take_of_length_le
noncomputable def KD:=@List.length_set
noncomputable def KG:=@Nat.lt_or_ge
noncomputable def KH:=@List.take_length
noncomputable def KI:=@Nat.le_succ
noncomputable def KJ:=@PySem.wpAny_callSpecial?_slot
noncomputable def KL:=@List.length_nil
noncomputable def KN:=@Nat.lt_of_le_of_lt
noncomputable def KO:=@Bool.and_eq_true
noncomputable def KP:=@PySem.wpAny_mono
noncomputable def KQ:=@List.getElem?_toArray
noncomputable def KR:=@List.getElem?_drop
noncomputable def KU:=@List.mem_replicate
noncomputable def KW:=@List.mem_of_getElem?
noncomputable def KY:=@beq_self_eq_true
noncomputable def KZ:=@PySem.wpAny_call_entry
noncomputable def K_:=@List.pairwise_append
noncomputable def La:=@or_false
noncomputable def Lb:=@PySem.wpAny_holding
noncomputable def Lc:=@PySem.W.mg_none_of
noncomputable def Ld:=@List.drop_zero
noncomputable def Le:=@of_decide_eq_true
noncomputable def Lf:=@PySem.Heap.SameBut.update
noncomputable def Lg:=@List.drop_eq_getElem_cons
noncomputable def Lh:=@List.take_append_drop
noncomputable def Li:=@Nat.sub_self
noncomputable def Lj:=@List.cons_append
noncomputable def Lk:=@Nat.lt_irrefl
noncomputable def Ll:=@Ne.symm
noncomputable def Lm:=@PySem.Heap.size_push
noncomputable def Ln:=@PySem.wpAny_newObj_type
noncomputable def Lo:=@List.length_range
noncomputable def Lp:=@PyProof.Rows.callWith_type1
noncomputable def Lq:=@List.nodup_cons
noncomputable def Lr:=@List.nil_append
noncomputable def Ls:=@Nat.ne_of_gt
noncomputable def Lu:=@PySem.sizeLine_eq
noncomputable def Lv:=@List.all_eq_true
noncomputable def Lw:=@List.range'_succ
noncomputable def Ly:=@List.getElem?_take
noncomputable def Lz:=@List.take_succ
noncomputable def L0:=@List.getElem?_eq_none_iff
noncomputable def L1:=@PyProof.Rows.slot_tuple_getitem
noncomputable def L3:=@List.mem_append_left
noncomputable def L4:=@List.find?_cons
noncomputable def L5:=@List.map_map
noncomputable def L6:=@Nat.le_succ_of_le
noncomputable def L7:=@List.all_cons
noncomputable def L8:=@PySem.wpAny_typeNameOfWhole_keyiter
noncomputable def L9:=@List.mem_map_of_mem
noncomputable def LA:=@List.mem_reverse
noncomputable def LC:=@Nat.le_of_lt
noncomputable def LD:=@Nat.min_self
noncomputable def LF:=@Int.emod_lt_of_pos
noncomputable def LG:=@PySem.wpAny_passesOwn
noncomputable def LH:=@Nat.not_lt_zero
noncomputable def LI:=@Int.emod_nonneg
noncomputable def LJ:=@PySem.W.mg_of
noncomputable def LK:=@PySem.F.slot_tuple_iterator_next
noncomputable def LL:=@Array.getElem?_eq_some_iff
noncomputable def LM:=@List.pairwise_iff_getElem
noncomputable def LN:=@List.mem_range
noncomputable def LO:=@PySem.F.slot_list_getattribute
noncomputable def LP:=@PySem.wpAny_typeNameOf_keyiter
noncomputable def LQ:=@List.length_reverse
noncomputable def LR:=@Array.toList_append
noncomputable def LS:=@List.prefix_of_prefix_length_le
noncomputable def LU:=@List.eraseIdx_eq_take_drop_succ
noncomputable def LV:=@PySem.wpAny_getItem_str_slice
noncomputable def LW:=@List.length_eq_zero_iff
noncomputable def LX:=@Option.bind_eq_some_iff
noncomputable def LY:=@List.map_take
noncomputable def LZ:=@Bool.eq_iff_iff
noncomputable def L_:=@PySem.wpAny_Call_Name_kw
noncomputable def Ma:=@PySem.call_meets
noncomputable def Mb:=@List.forIn_cons
noncomputable def Mc:=@PySem.wpAny_pyIter_tuple
noncomputable def Md:=@PySem.codeAny_builtin
noncomputable def Me:=@List.getElem?_set_self
noncomputable def Mf:=@PySem.wpAny_field
noncomputable def Mg:=@List.sum_replicate_nat
noncomputable def Mh:=@List.flatten_cons
noncomputable def Mi:=@decide_eq_true_eq
noncomputable def Mj:=@Int.emod_eq_of_lt
noncomputable def Ml:=@List.map_nil
noncomputable def Mm:=@PySem.Heap.get?_update_self
noncomputable def Mn:=@if_true
noncomputable def Mo:=@List.length_singleton
noncomputable def Mp:=@Nat.lt_trans
noncomputable def Mq:=@PySem.wpAny_seqItems
noncomputable def Mr:=@Nat.sub_zero
noncomputable def Ms:=@beq_iff_eq
noncomputable def Mt:=@Nat.lt_succ_self
noncomputable def Mv:=@if_false
noncomputable def Mw:=@PySem.Around.under_plainId
noncomputable def Mx:=@List.getElem?_append
noncomputable def My:=@List.reverse_reverse
noncomputable def Mz:=@List.ext_getElem
noncomputable def M0:=@Array.toArray_toList
noncomputable def M7:=@List.drop_length
noncomputable def M8:=@Option.bind_some
noncomputable def M9:=@Nat.mul_assoc
noncomputable def MB:=@List.map_drop
noncomputable def MC:=@List.dropWhile_cons
noncomputable def MD:=@PySem.W.KasT.kasWp_bind
noncomputable def ME:=@List.mem_filterMap
noncomputable def MG:=@Nat.succ_mul
noncomputable def MH:=@Bool.false_eq_true
noncomputable def MI:=@PySem.Obj.data_mapFields
noncomputable def MJ:=@Nat.zero_add
noncomputable def MK:=@PySem.wpAny_setField_rec
noncomputable def ML:=@Nat.add_sub_cancel
noncomputable def MM:=@Nat.eq_zero_or_pos
noncomputable def MN:=@List.map_set
noncomputable def MO:=@List.prefix_append
noncomputable def MP:=@List.take_left
noncomputable def MQ:=@PySem.wpAny_pyIter_enum
noncomputable def MR:=@PySem.wpAny_pyIter_list
noncomputable def MT:=@PySem.wpAny_dictEntries
noncomputable def MU:=@List.dropWhile_sublist
noncomputable def MV:=@List.getElem_cons_zero
noncomputable def MW:=@List.any_cons
noncomputable def MX:=@Bool.and_true
noncomputable def MY:=@PySem.wpAny_attempt
noncomputable def MZ:=@Nat.add_assoc
noncomputable def M_:=@List.sum_cons
noncomputable def Na:=@List.take_succ_eq_append_getElem
noncomputable def Nb:=@List.pairwise_reverse
noncomputable def Nc:=@List.mem_iff_getElem?
noncomputable def Nd:=@PySem.wpAny_isOneOf_keyiter
noncomputable def Nf:=@List.getElem?_eq_none
noncomputable def Ng:=@List.getElem?_set_ne
noncomputable def Nh:=@PySem.wpAny_execs_nil
noncomputable def Ni:=@List.foldl_cons
noncomputable def Nj:=@PySem.wpAny_loadPart'
noncomputable def Nk:=@PySem.wpAny_typeOf
noncomputable def Nl:=@PyProof.Rows.get?_update_seq
noncomputable def Nm:=@PySem.post_val_or_str
noncomputable def Nn:=@List.range_eq_range'
noncomputable def Np:=@List.mem_of_mem_take
noncomputable def Nq:=@Nat.pow_succ
noncomputable def Nr:=@Nat.pow_le_pow_right
noncomputable def Nt:=@Nat.min_eq_left
noncomputable def Nu:=@List.take_append_of_le_length
noncomputable def Nv:=@List.drop_append_of_le_length
noncomputable def Nw:=@List.filterMap_cons
noncomputable def Nx:=@List.takeWhile_cons
noncomputable def Ny:=@List.reverse_append
noncomputable def Nz:=@List.toList_toArray
noncomputable def N0:=@List.length_pos_iff
noncomputable def N1:=@Bool.false_and
noncomputable def N2:=@PySem.F.args_tuple_iterator_next_1
noncomputable def N3:=@PySem.wpAny_setField
noncomputable def N4:=@List.drop_left
noncomputable def N5:=@PySem.wpAny_fieldsOf
noncomputable def N6:=@PySem.wpAny_ite_true
noncomputable def N7:=@Array.append_empty
noncomputable def N8:=@PySem.F.entry_tuple_iterator_next
noncomputable def N9:=@PySem.SeqAt.EqAt.of_refs
noncomputable def NA:=@Array.getD_eq_getD_getElem?
noncomputable def NB:=@List.set_cons_zero
noncomputable def NC:=@Int.natAbs_natCast
noncomputable def ND:=@PySem.Calls.Name_function_global
noncomputable def NF:=@PySem.wpAny_standAt
noncomputable def NG:=@PySem.wpAny_letOwnedTupleGo_enum
noncomputable def NH:=@PySem.SeqAt.RcNeAt.lists_lengths
noncomputable def NI:=@PySem.wpAny_newList
noncomputable def NJ:=@Array.getElem?_eq_none_iff
noncomputable def NK:=@PySem.wpAny_truthy_bool
noncomputable def NL:=@Nat.lt_succ_of_lt
noncomputable def NM:=@List.ext_getElem?
noncomputable def NN:=@List.pairwise_map
noncomputable def NO:=@PySem.typeIs_int
noncomputable def NP:=@PySem.wpAny_binaryOp_repeat_ref
noncomputable def NQ:=@PySem.wpAny_rule
noncomputable def NR:=@bne_iff_ne
noncomputable def NS:=@List.extract_eq_take_drop
noncomputable def NU:=@List.exists_mem_of_ne_nil
noncomputable def NV:=@Array.getElem?_eq_getElem
noncomputable def NW:=@List.mem_of_find?_eq_some
noncomputable def NX:=@PySem.wpAny_eqBool_str
noncomputable def NY:=@Nat.le_of_eq
noncomputable def NZ:=@Option.isSome_iff_exists
noncomputable def N_:=@List.getElem?_take_of_lt
noncomputable def Oa:=@Nat.succ_le_succ
noncomputable def Ob:=@PySem.wpAny_comprehension_free
noncomputable def Oc:=@decide_eq_decide
noncomputable def Od:=@PyProof.Rows.listItems_at
noncomputable def Oe:=@List.Pairwise.imp_of_mem
noncomputable def Of:=@List.perm_middle
noncomputable def Og:=@List.zipIdx_cons
noncomputable def Oh:=@List.getElem?_replicate
noncomputable def Oi:=@PySem.wpAny_pyNext_enum_itemD
noncomputable def Oj:=@PySem.SeqAt.eq_list_lengthsAt
noncomputable def Ol:=@List.pairwise_singleton
noncomputable def Om:=@Nat.add_sub_cancel_left
noncomputable def Oo:=@List.of_mem_zip
noncomputable def Oq:=@List.range_succ
noncomputable def Ot:=@List.length_zip
noncomputable def Ou:=@PySem.wpAny_dictEpoch
noncomputable def Ov:=@PySem.wpAny_pyNext_list_item
noncomputable def Ox:=@PySem.Heap.get?_update_other
noncomputable def Oy:=@PySem.Calls.callWith_builtin
noncomputable def Oz:=@PySem.wpAny_pyNext_enum_endD
noncomputable def O0:=@Int.le_refl
noncomputable def O1:=@List.length_eq_one_iff
noncomputable def O2:=@List.pairwise_lt_range
noncomputable def O3:=@Int.le_ediv_iff_mul_le
noncomputable def O4:=@Array.getElem?_eq_none
noncomputable def O5:=@Int.pow_pos
noncomputable def O6:=@Int.sub_mul
noncomputable def O7:=@Nat.pow_add
noncomputable def O9:=@PySem.fitsIndex_both
noncomputable def OB:=@Bool.and_false
noncomputable def OD:=@List.eq_nil_or_concat
noncomputable def OE:=@List.set_append_right
noncomputable def OF:=@List.singleton_append
noncomputable def OG:=@List.dropLast_eq_take
noncomputable def OH:=@Int.emod_add_mul_ediv
noncomputable def OI:=@PySem.typeIs_str
noncomputable def OJ:=@Nat.not_lt
noncomputable def OK:=@PySem.W.plainGet_of
noncomputable def OL:=@Bool.true_and
noncomputable def OO:=@PySem.plainId_quiet
noncomputable def OP:=@Bool.not_true
noncomputable def OQ:=@PySem.codeAny_mono
noncomputable def OR:=@PySem.W.callWith_K
noncomputable def OS:=@PySem.seqIndex_neg
noncomputable def OT:=@PySem.callType_new
noncomputable def OU:=@Nat.mul_zero
abbrev Key:=Sum Int Str
noncomputable def iz:Key->Value->Bool
 |.inl k,v=>Value.isInt k v
 |.inr x,v=>Value.isStrOf x v
noncomputable def IG(w:World):Key->Int
 |.inl k=>hashInt k
 |.inr x=>hashStr w x
theorem bU:∀{k:Key} {v:Value},iz k v=true->(∃i t,k=Sum.inl i/\v=Value.int i t)\/(∃x t,k=Sum.inr x/\v=Value.str x t)
 |.inl i,v,h=>by
  obtain⟨t,e⟩:=Value.isInt_shape (k:=i) (v:=v) h;exact .inl ⟨i,t,rfl,e⟩
 |.inr x,v,h=>by
  obtain⟨t,e⟩:=Value.isStrOf_shape (x:=x) (v:=v) h;exact .inr ⟨x,t,rfl,e⟩
theorem uU(i:Int)(t:Tok):iz (.inl i) (.int i t)=true:=by simp[iz,Value.isInt]
theorem vS(x:Str)(t:Tok):iz (.inr x) (.str x t)=true:=by simp[iz,Value.isStrOf]
theorem E9(a b:Int):decide ((Sum.inl a:Key)=Sum.inl b)=(a == b):=by
 by_cases e:a=b
 ·subst e;simp
 ·have h:¬ (Sum.inl a:Key)=Sum.inl b:=λq=>e (Sum.inl.inj q);rw[Ko h];exact (Kv.mpr e).symm
theorem Fb(a b:Str):decide ((Sum.inr a:Key)=Sum.inr b)=decide (a=b):=by
 by_cases e:a=b
 ·subst e;simp
 ·have h:¬ (Sum.inr a:Key)=Sum.inr b:=λq=>e (Sum.inr.inj q);rw[Ko h,Ko e]
theorem Ec(a:Int)(b:Str):decide ((Sum.inl a:Key)=Sum.inr b)=false:=Ko (λq=>nomatch q)
theorem FW(a:Str)(b:Int):decide ((Sum.inr a:Key)=Sum.inl b)=false:=Ko (λq=>nomatch q)
noncomputable def cy(prog:Program)(w:World):PySem.KeyKind prog w Key where
 is:=iz
 hash:=IG w
 inj:=λv a b ha hb=>by
  rcases bU ha with ⟨i,t,rfl,rfl⟩|⟨x,t,rfl,rfl⟩
  ·rcases bU hb with ⟨j,u,rfl,e⟩|⟨y,u,rfl,e⟩
   ·injection e with e1 _;rw[e1]
   ·exact nomatch e
  ·rcases bU hb with ⟨j,u,rfl,e⟩|⟨y,u,rfl,e⟩
   ·exact nomatch e
   ·injection e with e1 _;rw[e1]
 byValue:=λk v h=>by
  rcases bU h with ⟨i,t,rfl,rfl⟩|⟨x,t,rfl,rfl⟩<;>rfl
 pyHash:=λhv h=>by
  rcases bU hv with ⟨i,t,rfl,rfl⟩|⟨x,t,rfl,rfl⟩
  ·exact wpAny_pyHash_int h
  ·exact wpAny_pyHash_str h
 eqBool:=λhu hv h=>by
  rcases bU hu with ⟨i,t,rfl,rfl⟩|⟨x,t,rfl,rfl⟩
  ·rcases bU hv with ⟨j,u,rfl,rfl⟩|⟨y,u,rfl,rfl⟩
   ·rw[E9] at h;exact wpAny_eqBool_int h
   ·rw[Ec] at h;exact SeqAt.EqAt.int_str i t y u _ _ _ _ h
  ·rcases bU hv with ⟨j,u,rfl,rfl⟩|⟨y,u,rfl,rfl⟩
   ·rw[FW] at h;exact SeqAt.EqAt.str_int x t j u _ _ _ _ h
   ·rw[Fb] at h;exact NX h
 «strs»:=λk x t v h=>by
  rcases bU h with ⟨i,u,rfl,e⟩|⟨y,u,rfl,e⟩
  ·exact nomatch e
  ·injection e with e1 _
   subst e1
   cases v<;>rfl
theorem pM(prog:Program)(w:World)(i:Int)(t:Tok):(cy prog w).is (.inl i) (.int i t)=true:=uU i t
theorem oZ(prog:Program)(w:World)(x:Str)(t:Tok):(cy prog w).is (.inr x) (.str x t)=true:=vS x t
inductive V where
 |aU|bl (b:Bool)|int (i:Int)|str (x:Str)|qK (b:Array UInt8)|ID (b:UInt64)|ref (a:Addr)|ty (n:String)
 deriving DecidableEq
variable{xs:List V}
noncomputable def RelV:V->Value->Prop
 |.aU,u=>u=Value.none
 |.bl b,u=>u=Value.bool b
 |.int i,u=>∃t,u=Value.int i t
 |.str x,u=>∃t,u=Value.str x t
 |.qK b,u=>∃t,u=Value.bytes b t
 |.ID b,u=>∃t,u=Value.float b t
 |.ref a,u=>u=Value.ref a
 |.ty n,u=>u=Value.type n
abbrev Vals:List V->List Value->Prop:=Paired RelV
theorem Vals.length(r:Vals xs us):xs.length=us.length:=Paired.length r
theorem Vals.get:∀{xs:List V} {us:List Value} {i:Nat} {x:V},Vals xs us->xs[i]?=some x->∃u,us[i]?=some u/\RelV x u
 |_,_,_,_,.nil,e=>by simp at e
 |_,_,0,_,.cons r _,e=>by simp at e;subst e;exact⟨_,rfl,r⟩
 |_,_,i+1,x,.cons _ t,e=>by
  obtain⟨u,h1,h2⟩:=Vals.get (i:=i) (x:=x) t (by simpa using e)
  exact⟨u,by simpa using h1,h2⟩
theorem Vals.set{x:V}(r:RelV x u):∀{xs:List V} {us:List Value} (i:Nat),Vals xs us->Vals (xs.set i x) (us.set i u)
 |_,_,_,.nil=>.nil
 |_,_,0,.cons _ t=>.cons r t
 |_,_,i+1,.cons q t=>.cons q (Vals.set r i t)
theorem Vals.append:∀{xs ys:List V} {us ws:List Value},Vals xs us->Vals ys ws->Vals (xs++ys) (us++ws)
 |_,_,_,_,.nil,s=>s
 |_,_,_,_,.cons r t,s=>.cons r (Vals.append t s)
theorem Vals.take:∀{xs:List V} {us:List Value} (n:Nat),Vals xs us->Vals (xs.take n) (us.take n)
 |_,_,0,_=>.nil
 |_,_,_+1,.nil=>.nil
 |_,_,n+1,.cons r t=>.cons r (Vals.take n t)
theorem Vals.drop:∀{xs:List V} {us:List Value} (n:Nat),Vals xs us->Vals (xs.drop n) (us.drop n)
 |_,_,0,r=>r
 |_,_,_+1,.nil=>.nil
 |_,_,n+1,.cons _ t=>Vals.drop n t
noncomputable def gZ:Option V->Option Value->Prop
 |some v,some u=>RelV v u
 |none,none=>True
 |_,_=>False
noncomputable def KV{κ:Type}:List (κ×V)->List (κ×Value)->Prop:=Paired λ(p:κ×V) (q:κ×Value)=>p.1=q.1/\RelV p.2 q.2
noncomputable def kV:Key->V
 |.inl i=>.int i
 |.inr x=>.str x
inductive HO where
 |lst (xs:List V)
 |tup (xs:List V)
 |dK (kvs:List (Key×V))|dT (kvs:List (List Key×V))
 |set (S:Int->Bool) (n:Nat)
 |ins (C dx:Addr) (fs:List (Str×V))
 |own (x:Addr)
 |xd (fs:List (Str×V))
 |met (f x:Addr)
 |my (lo hi:Int)
 |jS (o:Obj) (u:HO)
 |xT (ps:Array Value)
 |ext (φ:Heap->Prop)
variable{o:HO}
abbrev Hp:=Addr->Option HO
variable{H:Hp}
noncomputable def upd(H:Hp)(a:Addr)(o:HO):Hp:=λb=>if b=a then some o else H b
theorem ae:upd H a o a=some o:=by unfold upd;rw[JQ rfl]
theorem ao(h:b≠a):upd H a o b=H b:=by unfold upd;rw[JN h]
theorem nI{u:HO}:upd (upd H a o) a u=upd H a u:=by
 funext b;unfold upd;split<;>rfl
theorem HB{u:HO}(h:H a=some o)(h':H b=some u)(d:o≠u):a≠b:=by
 intro e;subst e;rw[h] at h';exact d (Option.some.inj h')
theorem au(h:H a=some o)(h':H b=none):a≠b:=by
 intro e;subst e;rw[h] at h';cases h'
noncomputable def IL:List Value->Str
 |.str q _::_=>q
 |_=>Str.ofString ""
noncomputable def xp(ps:Array Value):Str:=IL ps.toList
noncomputable def Df(H:Hp)(q:Str)(cv:Value):Prop:=∃(c:Addr) (oc:Obj) (vs:Array Value) (t:Tok),cv=.ref c/\H c=some (.jS oc (.own c))/\oc.data=.fields vs/\vs[1]?=some (.str q t)
noncomputable def eB(h:Heap)(a:Addr)(items:Array Value):Prop:=∃o:Obj,h.get? a=some o/\o.cls=.type "tuple"/\∃n,o.data=.seq items n/\o.dict=none
theorem eB.to(x:eB h a items):IsTup h a items:=let ⟨o,e,c,n,d,_⟩:=x;⟨o,e,c,n,d⟩
theorem eB.new(h:Heap)(items:Array Value):eB (h.push {cls:=.type "tuple",data:=.seq items}) h.objs.size items:=⟨_,Kc h rfl,rfl,_,rfl,rfl⟩
theorem eB.lt(x:eB h a items):a<h.objs.size:=x.to.lt
section
variable (P:Program) (w:World)
noncomputable def bS(H:Hp)(h:Heap)(a:Addr):HO->Prop
 |.lst xs=>xs.length<=sizeLine/\∃(its:List Value) (n:Nat),Vals xs its/\h.get? a=some {cls:=.type "list",data:=.seq its.toArray n}
 |.tup xs=>xs.length<=sizeLine/\∃its:List Value,Vals xs its/\eB h a its.toArray
 |.dK kvs=>kvs.length<=sizeLine/\(a == sysModules)=false/\∃vs,KV kvs vs/\h.DictOf (cy P w) a vs
 |.dT kvs=>kvs.length<=sizeLine/\(a == sysModules)=false/\∃xs:List (List Key×Addr×Value),
   Paired (λ(p:List Key×V) (q:List Key×Addr×Value)=>p.1=q.1/\H q.2.1=some (.tup (p.1.map kV))/\RelV p.2 q.2.2) kvs xs /\
   ∃o es ep,h.get? a=some o/\o.ExactDict/\o.data=.dict es ep/\es.toList=xs.map (entryOfKey (tupleKind (cy P w)))/\(xs.map (·.1)).Nodup
 |.set S n=>h.SetOf (intKind P w) a S n
 |.ins C dx fs=>H dx=some (.own a)/\fs.length<=1000/\dx≠a/\h.get? a=some (W.instObj C dx) /\
   ∃mA,h.Ns1 dx mA/\(∀f,gZ (fs.lookup f) (mA f))/\PySem.Within mA (fs.map (·.1))
 |.own _=>∃o,h.get? a=some o
 |.xd fs=>∃mA,h.Ns1 a mA/\∀f,gZ (fs.lookup f) (mA f)
 |.my lo hi=>∃t u v,h.get? a=some {cls:=.type "range",data:=.fields #[.int lo t,.int hi u,.int 1 v]}
 |.jS o u=>h.get? a=some o/\bS H h a u
 |.xT ps=>∃qs:Array Value,h.get? a=some {cls:=.none,data:=.fields qs}/\TriplesOk qs.toList/\∀pos cv,codeAmong pos qs.toList=some cv->Df H (xp ps) cv
 |.met f x=>h.get? a=some (W.methodObj (.ref f) (.ref x))
 |.ext φ=>φ h/\(∃o,h.get? a=some o)/\∀h1 h2:Heap,φ h1->(∀o,h1.get? a=some o->h2.get? a=some o)->φ h2
noncomputable def iy(H:Hp)(h:Heap):Prop:=∀a o,H a=some o->bS P w H h a o
end
section
variable {P:Program} {w:World} {H H':Hp} {h h':Heap} {a:Addr} {o:HO}
theorem bS.lt(x:bS P w H h a o):a<h.objs.size:=by
 cases o with
 |lst xs=>obtain⟨_,_,_,_,e⟩:=x;exact Ke e
 |tup xs=>obtain⟨_,_,_,p⟩:=x;exact p.lt
 |dK kvs=>obtain⟨_,_,_,_,o,_,_,e,_⟩:=x;exact Ke e
 |dT kvs=>obtain⟨_,_,_,_,o,_,_,e,_⟩:=x;exact Ke e
 |set S n=>obtain⟨o,_,_,_,e,_⟩:=x;exact Ke e
 |ins C dx fs=>obtain⟨_,_,_,e,_⟩:=x;exact Ke e
 |own y=>obtain⟨_,e⟩:=x;exact Ke e
 |xd fs=>obtain⟨_,⟨_,_,_,e,_⟩,_⟩:=x;exact Ke e
 |my lo hi=>obtain⟨_,_,_,e⟩:=x;exact Ke e
 |jS ob u=>obtain⟨e,_⟩:=x;exact Ke e
 |xT ps=>obtain⟨_,e,_⟩:=x;exact Ke e
 |met f y=>exact Ke (show h.get? a=some _ from x)
 |ext φ=>obtain⟨_,⟨_,e⟩,_⟩:=x;exact Ke e
theorem Paired.Ew{α β:Type}{F G:α->β->Prop}:∀{l₁:List α} {l₂:List β},Paired F l₁ l₂->(∀a b,F a b->G a b)->Paired G l₁ l₂
 |_,_,.nil,_=>.nil
 |_,_,.cons r t,f=>.cons (f _ _ r) (Paired.Ew t f)
theorem bS.nc(x:bS P w H h a o)(k:∀b u,(b=a\/H b=some (.own a))->h.get? b=some u->h'.get? b=some u)
  (ho:∀b,H b=some (.own a)->H' b=some (.own a)) (ht:∀b xs,H b=some (.tup xs)->H' b=some (.tup xs)) (hz:∀b o u,H b=some (.jS o u)->H' b=some (.jS o u)):bS P w H' h' a o:=by
 induction o with
 |lst xs=>obtain⟨z,its,n,r,e⟩:=x;exact⟨z,its,n,r,k _ _ (.inl rfl) e⟩
 |tup xs=>obtain⟨z,its,r,ob,e,c⟩:=x;exact⟨z,its,r,ob,k _ _ (.inl rfl) e,c⟩
 |dK kvs=>obtain⟨z,y,vs,r,ob,es,ep,e,c⟩:=x;exact⟨z,y,vs,r,ob,es,ep,k _ _ (.inl rfl) e,c⟩
 |dT kvs =>
  obtain⟨z,y,xs,r,ob,es,ep,e,c⟩:=x;exact⟨z,y,xs,Paired.Ew r λp q z=>⟨z.1,ht _ _ z.2.1,z.2.2⟩,ob,es,ep,k _ _ (.inl rfl) e,c⟩
 |set S n=>obtain⟨ob,es,ep,t,e,c⟩:=x;exact⟨ob,es,ep,t,k _ _ (.inl rfl) e,c⟩
 |ins C dx fs =>
  obtain⟨d,z,ne,e,mA,⟨od,es,ep,e2,c⟩,r⟩:=x;exact⟨ho _ d,z,ne,k _ _ (.inl rfl) e,mA,⟨od,es,ep,k _ _ (.inr d) e2,c⟩,r⟩
 |own y=>obtain⟨ob,e⟩:=x;exact⟨ob,k _ _ (.inl rfl) e⟩
 |xd fs=>obtain⟨mA,⟨od,es,ep,e,c⟩,r⟩:=x;exact⟨mA,⟨od,es,ep,k _ _ (.inl rfl) e,c⟩,r⟩
 |my lo hi=>obtain⟨t,u,v,e⟩:=x;exact⟨t,u,v,k _ _ (.inl rfl) e⟩
 |jS ob u ih=>obtain⟨e,q⟩:=x;exact⟨k _ _ (.inl rfl) e,ih q⟩
 |xT ps =>
  obtain⟨qs,e,t,f⟩:=x;exact⟨qs,k a _ (.inl rfl) e,t,λpos cv q=>let ⟨c,oc,vs,t',e1,e2,e3⟩:=f pos cv q;⟨c,oc,vs,t',e1,hz _ _ _ e2,e3⟩⟩
 |met f y =>
  have e:h.get? a=some (W.methodObj (.ref f) (.ref y)):=x;show h'.get? a=some (W.methodObj (.ref f) (.ref y));exact k a _ (.inl rfl) e
 |ext φ=>obtain⟨p,⟨o,e⟩,st⟩:=x;exact⟨st _ _ p λo q=>k _ _ (.inl rfl) q,⟨o,k _ _ (.inl rfl) e⟩,st⟩
theorem iy.lt(x:iy P w H h)(e:H a=some o):a<h.objs.size:=(x a o e).lt
theorem iy.fresh(x:iy P w H h)(e:h.objs.size<=a):H a=none:=by
 cases q:H a with
 |none=>rfl
 |some u=>exact absurd (Kp (x.lt q) e) (Lk _)
theorem iy.kept(x:iy P w H h)(k:∀b u,h.get? b=some u->h'.get? b=some u):iy P w H h':=λa o e =>
 (x a o e).nc (λb u _ q=>k b u q) (λ_ q=>q) (λ_ _ q=>q) λ_ _ _ q=>q
theorem iy.laid(x:iy P w H h)(k:∀b u,h.get? b=some u->h'.get? b=some u)(hp:h.objs.size<=a)(new:bS P w (upd H a o) h' a o):iy P w (upd H a o) h':=λb u e=>by
 have hn:=x.fresh hp;by_cases hb:b=a
 ·subst hb;rw[ae] at e;cases e;exact new
 ·rw[ao hb] at e;exact (x b u e).nc (λc v _ q=>k c v q) (λc q=>by rw[ao (au q hn)];exact q) (λc xs q=>by rw[ao (au q hn)];exact q) λc _ _ q=>by rw[ao (au q hn)];exact q
end
noncomputable def Rd(H:Hp)(a:Addr)(u:HO):Prop:=H a=some u\/∃o,H a=some (.jS o u)
theorem Rd.ok{u:HO}(r:Rd H a u)(x:iy P w H h):bS P w H h a u:=by
 rcases r with r|⟨o,r⟩
 ·exact x a u r
 ·obtain⟨_,q⟩:=x a _ r;exact q
noncomputable def GB:Option HO->Prop
 |some (.lst _)=>True
 |some (.dK _)=>True
 |some (.dT _)=>True
 |some (.set _ _)=>True
 |some (.ins _ _ _)=>True
 |some (.ext _)=>True
 |_=>False
section
variable {P:Program} {w:World} {H:Hp} {h h':Heap} {x e:Addr} {o':HO}
theorem iy.write(ok:iy P w H h)(mu:GB (H x))(he:e=x\/H e=some (.own x))(k:∀b u,b≠e->h.get? b=some u->h'.get? b=some u)(heo:∃u,h'.get? e=some u)
  (new:bS P w (upd H x o') h' x o'):iy P w (upd H x o') h':=λb u q=>by
 have nown:∀c y,H c=some (.own y)->c≠x:=λc y r z=>by subst z;rw[r] at mu;exact mu
 have ntup:∀c xs,H c=some (.tup xs)->c≠x:=λc xs r z=>by subst z;rw[r] at mu;exact mu
 have nfrz:∀c o1 u1,H c=some (.jS o1 u1)->c≠x:=λc _ _ r z=>by subst z;rw[r] at mu;exact mu
 by_cases hb:b=x
 ·subst hb;rw[ae] at q;cases q;exact new
 ·rw[ao hb] at q;by_cases hbe:b=e
  ·have q':H b=some (.own x):=by
    rcases he with z|z
    ·exact absurd (hbe.trans z) hb
    ·rw[hbe];exact z
   rw[q] at q';cases q';obtain⟨v,hv⟩:=heo;exact⟨v,by rw[hbe];exact hv⟩
  ·refine (ok b u q).nc (λc v hc r=>k c v ?_ r) (λc r=>by rw[ao (nown c b r)];exact r) (λc xs r=>by rw[ao (ntup c xs r)];exact r) λc _ _ r=>by rw[ao (nfrz c _ _ r)];exact r
   rcases hc with rfl|hc
   ·exact hbe
   ·rintro rfl;rcases he with z|z
    ·exact nown c b hc z
    ·rw[hc] at z;cases z;exact hb rfl
end
structure Un (fs ex:List Addr) (H H':Hp) (h h':Heap):Prop where
 keep:∀b o,h.get? b=some o->H b=none->b∉fs->b∉ex->h'.get? b=some o
 slot:∀b o,h.get? b=some o->H b=none->b∈fs->b∉ex->∃sl,h'.get? b=some {o with slots:=sl}
 free:∀b o,h.get? b=some o->H b=none->b∉ex->H' b=none
 there:∀b o,h.get? b=some o->b∉ex->∃o',h'.get? b=some o'
 o_:∀b xs,H b=some (.tup xs)->H' b=some (.tup xs)
 nY:∀b o u,H b=some (.jS o u)->H' b=some (.jS o u)
 mm:∀b ps,H b=some (.xT ps)->∃more,H' b=some (.xT (ps++more))
section
variable {fs fs' ex ex':List Addr} {H H1 H2:Hp} {h h1 h2 h':Heap} {a x e:Addr} {o:HO}
theorem Un.any(u:Un fs ex H H1 h h1){ob:Obj}(q:h.get? b=some ob)(n:H b=none)(hx:b∉ex):∃sl,h1.get? b=some {ob with slots:=sl}:=by
 by_cases hb:b∈fs
 ·exact u.slot b ob q n hb hx
 ·exact⟨ob.slots,u.keep b ob q n hb hx⟩
theorem Un.kept(k:∀b u,h.get? b=some u->h'.get? b=some u):Un fs ex H H h h':=
 ⟨λb ob q _ _ _=>k b ob q,λb ob q _ _ _=>⟨ob.slots,k b ob q⟩,λ_ _ _ n _=>n,λb ob q _=>⟨ob,k b ob q⟩,λ_ _ q=>q,λ_ _ _ q=>q,λ_ ps q=>⟨#[],by rw[q];simp⟩⟩
theorem Un.refl:Un fs ex H H h h:=Un.kept λ_ _ q=>q
theorem Un.laid(k:∀b u,h.get? b=some u->h'.get? b=some u)(hp:h.objs.size<=a)(hn:H a=none):Un fs ex H (upd H a o) h h' where
 keep:=λb u q _ _ _=>k b u q
 slot:=λb u q _ _ _=>⟨u.slots,k b u q⟩
 free:=λb u q n _=>by rw[ao (Kn (Kp (Ke q) hp))];exact n
 there:=λb u q _=>⟨u,k b u q⟩
 o_:=λb xs q=>by rw[ao (au q hn)];exact q
 nY:=λb u xs q=>by rw[ao (au q hn)];exact q
 mm:=λb ps q=>⟨#[],by rw[ao (au q hn),q];simp⟩
theorem Un.write(mu:GB (H x))(he:e=x\/H e=some (.own x))(k:∀b u,b≠e->h.get? b=some u->h'.get? b=some u)(heo:∃u,h'.get? e=some u):Un fs ex H (upd H x o) h h':=by
 have hx:∀b,H b=none->b≠x:=λb n z=>by subst z;rw[n] at mu;exact mu
 have hb:∀b,H b=none->b≠e:=λb n z=>by
  subst z;rcases he with r|r
  ·exact hx b n r
  ·rw[n] at r;cases r
 have hm:∀b u,H b=some u->¬ GB (some u)->b≠x:=λb u q nm z=>by subst z;rw[q] at mu;exact nm mu
 refine⟨λb u q n _ _=>k b u (hb b n) q,λb u q n _ _=>⟨u.slots,k b u (hb b n) q⟩,λb u q n _=>by rw[ao (hx b n)];exact n,λb u q _=>?_,
  λb xs q=>by rw[ao (hm b _ q λz=>z)];exact q,λb u xs q=>by rw[ao (hm b _ q λz=>z)];exact q,λb ps q=>⟨#[],by rw[ao (hm b _ q λz=>z),q];simp⟩⟩
 by_cases hbe:b=e
 ·subst hbe;exact heo
 ·exact⟨u,k b u hbe q⟩
end
noncomputable def HM(h:Heap)(H:Hp):List Addr:=(List.range h.objs.size).filter λa=>(H a).isSome
noncomputable def ma(h:Heap)(H:Hp):Heap:=W.hideAll h (HM h H)
theorem vG(h:Heap)(H:Hp):(ma h H).objs.size=h.objs.size:=W.hideAll_size _ _
theorem iF{o:Obj}(e:h.get? b=some o)(n:H b=none):(ma h H).get? b=some o:=
 W.hideAll_get _ e λhm=>by
  have q:(H b).isSome=true:=(List.mem_filter.mp hm).2;rw[n] at q;simp at q
theorem Bm{o:Obj}(e:(ma h H).get? b=some o):h.get? b=some o/\H b=none:=by
 have e':h.get? b=some o:=W.of_hideAll (HM h H) e;refine⟨e',?_⟩
 cases q:H b with
 |none=>rfl
 |some x =>
  have hm:b∈HM h H:=List.mem_filter.mpr ⟨LN.mpr (Ke e'),by simp[q]⟩
  have z:(ma h H).get? b=none:=W.hideAll_none (HM h H) hm;rw[z] at e;cases e
noncomputable def C7(g h:Heap)(L:Addr):List (Addr×Obj):=(List.range h.objs.size).filterMap λa=>if a=L\/(g.get? a).isSome=true then none else (h.get? a).map λo=>(a,o)
noncomputable def rest(g h:Heap)(L d:Addr):List (Addr×Obj):=(C7 g h L).filter λp=>decide (p.1≠d)
noncomputable def dR:List Str:=["by_worth","by_weight","code_of"]
noncomputable def cx(K:W.Frag):List (Addr×Addr×Str):=dR.filterMap λx=>(W.tabIn K x).map λp=>(p.1,p.2,(x++".<locals>.")++"<lambda>")
noncomputable def TabsOk(K:W.Frag)(H:Hp):Prop:=∀t∈cx K,∃more,H t.2.1=some (.xT (#[.str t.2.2 0]++more))
theorem TabsOk.un{fs ex:List Addr}{H1:Hp}{h1:Heap}(x:TabsOk K H)(u:Un fs ex H H1 h h1):TabsOk K H1:=λt ht=>by
 obtain⟨m,e⟩:=x t ht;obtain⟨m2,e2⟩:=u.mm _ _ e;exact⟨m++m2,by rw[e2,Array.append_assoc]⟩
noncomputable def Fz(mg:Str->Option Value)(h:Heap):Prop:=∃bm ob,mg "__builtins__"=some (.ref bm)/\bm≠builtinsNs/\h.get? bm=some ob/\ob.cls=.type "module"/\ob.dict=some builtinsNs/\ob.data=.plain
structure Mod (K:W.Frag) (mg:Str->Option Value) (base:Heap):Prop where
 H_:K.In base
 glob:base.Ns mainGlobals mg
 blt:∃mb,base.Ns builtinsNs mb/\∀x:Str,x≠"__name__"->mb x=bootBuiltins x
 nolimit:base.NoLimit
 codes:∀t∈cx K,W.CodeHd base t.1 t.2.1
 bm:Fz mg base
structure Cx where
 prog:Program
 w:World
 K:W.Frag
 mg:Str->Option Value
 base:Heap
 A:Around
 N:List Str
 s₀:Shared
 H₀:Hp
 env:Env
 outer:List Env
 stack:List Env
 ex:List Addr
 fn:Str->Bool
 calm:Bool
 pn:List (Addr×Obj)
 xe:Value->Shared->Prop
variable{X:Cx}
noncomputable def zd(l:List Env):List Addr:=l.filterMap (·.frame)
abbrev Cx.fs(X:Cx):List Addr:=zd X.outer
noncomputable def HN(sc:Scope)(x:Str):Prop:=sc.names.lookup x=some .local\/sc.names.lookup x=some .cell\/sc.names.lookup x=some .free
noncomputable def Loc(sc:Scope)(x:Str):Prop:=sc.names.lookup x=some .local\/sc.names.lookup x=some .cell
noncomputable def Look(env:Env)(h:Heap)(m:Str->Option Value)(x:Str)(u:Value):Prop:=
 (env.kindOf x=some .local/\m x=some u)\/((env.kindOf x=some .cell\/env.kindOf x=some .free)/\∃c,env.cells.lookup x=some c/\h.IsCell c (some u))
structure Cx.Ok (X:Cx):Prop where
 mod:Mod X.K X.mg X.base
 kind:X.env.scope.kind=.function
 glob:X.env.globals=mainGlobals
 blt:X.env.builtins=builtinsNs
 above:X.s₀.heap.objs.size<=X.env.locals
 inj:∀x y c,X.env.cells.lookup x=some c->X.env.cells.lookup y=some c->x=y
 has:∀x,(X.env.kindOf x=some .cell\/X.env.kindOf x=some .free)->∃c,X.env.cells.lookup x=some c
 HS:∀x c,X.fn x=true->X.env.cells.lookup x=some c->X.s₀.heap.objs.size<=c
 hd:X.calm=true->X.A.handled=none
 frames:X.A.frames=some X.stack
 Iz:X.stack=X.outer\/(X.stack=X.env::X.outer/\X.env.frame=some X.env.locals)
 Jq:∀b∈X.ex,b≠X.env.locals/\∀x c,X.env.cells.lookup x=some c->c≠b
 bs:∀b o,X.base.get? b=some o->X.s₀.heap.get? b=some o/\X.H₀ b=none
 A0:X.base.objs.size<=X.s₀.heap.objs.size
 xB:∀b o,X.base.get? b=some o->b∉X.ex
 CJ:∀b∈X.ex,b∉X.fs
 jB:X.s₀.heap.FunFrames X.base X.outer
 Fd:∀b∈X.fs,X.H₀ b=none
 tabs:TabsOk X.K X.H₀
structure Inv (X:Cx) (pins:List (Addr×Obj)) (σ:List (Option V)) (H:Hp) (s:Shared):Prop where
 ok:X.Ok
 os:s.os=X.s₀.os
 bare:AllBare s.gens
 base:Un X.fs X.ex X.H₀ H X.s₀.heap s.heap
 loc:∃m,s.heap.Ns X.env.locals m/\∀(i:Nat) (x:Str) (v:V),X.N[i]?=some x->σ[i]?=some (some v)->HN X.env.scope x->∃u,RelV v u/\Look X.env s.heap m x u
 cell:∀x c,X.env.cells.lookup x=some c->∃v,s.heap.IsCell c v
 free:H X.env.locals=none
 fY:∀x c,X.env.cells.lookup x=some c->H c=none
 pin:∀p∈X.pn++pins,s.heap.get? p.1=some p.2/\H p.1=none/\p.1≠X.env.locals/\p.1∉X.fs/\∀v,p.2.data≠.cell v
 bc:iy X.prog X.w H s.heap
 len:σ.length=X.N.length
section
variable {X:Cx} {pins:List (Addr×Obj)} {σ:List (Option V)} {H H':Hp} {s:Shared} {h':Heap}
theorem Cx.Ok.II(ok:X.Ok){o:Obj}(e:X.base.get? b=some o):b∉X.fs:=λhb=>by
 have:=(ok.jB.mem hb).1;rw[e] at this;cases this
theorem Inv.bs(I:Inv X pins σ H s):∀b o,X.base.get? b=some o->s.heap.get? b=some o/\H b=none:=λb o e =>
 ⟨I.base.keep b o (I.ok.bs b o e).1 (I.ok.bs b o e).2 (I.ok.II e) (I.ok.xB b o e),I.base.free b o (I.ok.bs b o e).1 (I.ok.bs b o e).2 (I.ok.xB b o e)⟩
theorem Inv.bk(I:Inv X pins σ H s):∀b o,X.base.get? b=some o->s.heap.get? b=some o:=λb o e=>(I.bs b o e).1
theorem Inv.mod(I:Inv X pins σ H s):Mod X.K X.mg X.base:=I.ok.mod
theorem Inv.pJ(I:Inv X pins σ H s):X.K.In s.heap:=I.ok.mod.H_.keeps I.bk
theorem Inv.nolimit(I:Inv X pins σ H s):s.heap.NoLimit:=I.ok.mod.nolimit.keeps I.bk
theorem Inv.lt(I:Inv X pins σ H s):X.env.locals<s.heap.objs.size:=let ⟨_,hn,_⟩:=I.loc;hn.lt
theorem Inv.sz(I:Inv X pins σ H s):X.s₀.heap.objs.size<=s.heap.objs.size:=JX I.ok.above (LC I.lt)
theorem Inv.Ig(I:Inv X pins σ H s)(h:s.heap.objs.size<=a):a∉X.fs:=λhb=>by
 obtain⟨_,o,ho,_⟩:=I.ok.jB.mem hb;exact absurd (Kp (Ke ho) (JX I.sz h)) (Lk _)
theorem Inv.Em(I:Inv X pins σ H s):∀x c,X.env.cells.lookup x=some c->c≠X.env.locals:=λx c e z=>by
 obtain⟨v,o,ho,hd⟩:=I.cell x c e;obtain⟨m,⟨o',es,ep,ho',hd',_⟩,_⟩:=I.loc;rw[z,ho'] at ho;cases ho;rw[hd'] at hd;cases hd
theorem Inv.jB(I:Inv X pins σ H s):s.heap.FunFrames X.base X.outer:=by
 have all:∀(l:List Env),(∀b∈zd l,b∈X.fs)->X.s₀.heap.FunFrames X.base l->s.heap.FunFrames X.base l:=by
  intro l
  induction l with
  |nil=>intro _ _;trivial
  |cons env r ih =>
   intro hs hl;obtain⟨hk,⟨L,o,hf,hn,ho,hd⟩,hr⟩:=hl;have hL:L∈X.fs:=hs L (by unfold zd;rw[Nw,hf];exact JU)
   obtain⟨sl,e⟩:=I.base.slot L o ho (I.ok.Fd L hL) hL λz=>I.ok.CJ L z hL;exact⟨hk,⟨L,_,hf,hn,e,hd⟩,ih (λb hb=>hs b (by unfold zd;rw[Nw,hf];exact JT _ hb)) hr⟩
 exact all X.outer (λ_ hb=>hb) I.ok.jB
theorem Inv.stack(I:Inv X pins σ H s):s.heap.FunFrames X.base X.stack:=by
 rcases I.ok.Iz with e|⟨e,hf⟩
 ·rw[e];exact I.jB
 ·rw[e];obtain⟨m,hn,_⟩:=I.loc;refine .cons (by rw[I.ok.kind];decide) hf hn ?_ I.jB
  exact Heap.get?_none_of_le (JX I.ok.A0 I.ok.above)
theorem Inv.nB(I:Inv X pins σ H s):∀b∈zd X.stack,b∈X.env.locals::X.fs:=λb hb=>by
 rcases I.ok.Iz with e|⟨e,hf⟩
 ·rw[e] at hb;exact JT _ hb
 ·rw[e] at hb;unfold zd at hb;rw[Nw,hf] at hb;exact hb
theorem Inv.nO(I:Inv X pins σ H s):∀b∈zd X.stack,H b=none:=λb hb=>by
 rcases JR.mp (I.nB b hb) with e|hb
 ·rw[e];exact I.free
 ·obtain⟨_,o,ho,_⟩:=I.ok.jB.mem hb;exact I.base.free b o ho (I.ok.Fd b hb) λz=>I.ok.CJ b z hb
theorem Inv.step{t':Nat}{d':Drawn}(I:Inv X pins σ H s)
  (hch:∀b∈ch,(b∈X.ex\/X.s₀.heap.objs.size<=b)/\b≠X.env.locals/\(∀x c,X.env.cells.lookup x=some c->c≠b)/\∀p∈X.pn++pins,p.1≠b)
  (keep:∀b o,b≠X.env.locals->b∉X.fs->b∉ch->s.heap.get? b=some o->H b=none->h'.get? b=some o)
  (slot:∀b o,b≠X.env.locals->b∈X.fs->b∉ch->s.heap.get? b=some o->H b=none->∃sl,h'.get? b=some {o with slots:=sl}) (free:∀b o,b∉ch->s.heap.get? b=some o->H b=none->H' b=none)
  (there:∀b o,b∉ch->s.heap.get? b=some o->∃o',h'.get? b=some o')
  (o_:∀b xs,H b=some (.tup xs)->H' b=some (.tup xs)) (nY:∀b o u,H b=some (.jS o u)->H' b=some (.jS o u)) (mm:∀b ps,H b=some (.xT ps)->∃more,H' b=some (.xT (ps++more)))
  (ns:∀m,s.heap.Ns X.env.locals m->h'.Ns X.env.locals m) (bc:iy X.prog X.w H' h') (hg:AllBare g') :
  Inv X pins σ H' {s with heap:=h',gens:=g',drawn:=d',toks:=t'}:=by
 have neL:∀b o,X.s₀.heap.get? b=some o->b≠X.env.locals:=λb o e=>Kn (Kp (Ke e) I.ok.above);have neC:∀b o,X.s₀.heap.get? b=some o->b∉X.ex->b∉ch:=λb o e hx hb=>by
  rcases (hch b hb).1 with z|z
  ·exact hx z
  ·exact absurd (Kp (Ke e) z) (Lk _)
 have cellK:∀x c,X.env.cells.lookup x=some c->∀v,s.heap.IsCell c v->h'.IsCell c v:=λx c e v ⟨o,ho,hd⟩=>by
  have nch:c∉ch:=λz=>(hch c z).2.2.1 x c e rfl;by_cases hc:c∈X.fs
  ·obtain⟨sl,q⟩:=slot c o (I.Em x c e) hc nch ho (I.fY x c e);exact⟨_,q,hd⟩
  ·exact⟨o,keep c o (I.Em x c e) hc nch ho (I.fY x c e),hd⟩
 refine⟨I.ok,I.os,hg,⟨λb o e n hb hx=>?_,λb o e n hb hx=>?_,λb o e n hx=>?_,λb o e hx=>?_,λb xs e=>o_ b xs (I.base.o_ b xs e),λb o xs e=>nY b o xs (I.base.nY b o xs e),λb ps e=>?_⟩,?_,λx c e=>?_,?_,λx c e=>?_,λp hp=>?_,bc,I.len⟩
 ·exact keep b o (neL b o e) hb (neC b o e hx) (I.base.keep b o e n hb hx) (I.base.free b o e n hx)
 ·obtain⟨sl,e1⟩:=I.base.slot b o e n hb hx;obtain⟨sl',e2⟩:=slot b _ (neL b o e) hb (neC b o e hx) e1 (I.base.free b o e n hx);exact⟨sl',e2⟩
 ·obtain⟨o',e1⟩:=I.base.there b o e hx;exact free b o' (neC b o e hx) e1 (I.base.free b o e n hx)
 ·obtain⟨o',e1⟩:=I.base.there b o e hx;exact there b o' (neC b o e hx) e1
 ·obtain⟨m1,e1⟩:=I.base.mm b ps e;obtain⟨m2,e2⟩:=mm b _ e1;exact⟨m1++m2,by rw[e2,Array.append_assoc]⟩
 ·obtain⟨m,hn,hl⟩:=I.loc;refine⟨m,ns m hn,λi x v e1 e2 e3=>?_⟩;obtain⟨u,r,l⟩:=hl i x v e1 e2 e3;refine⟨u,r,?_⟩;rcases l with l|⟨k,c,e,z⟩
  ·exact .inl l
  ·exact .inr ⟨k,c,e,cellK x c e _ z⟩
 ·obtain⟨v,z⟩:=I.cell x c e;exact⟨v,cellK x c e v z⟩
 ·obtain⟨m,⟨o,_,_,ho,_⟩,_⟩:=I.loc;exact free _ o (λz=>(hch _ z).2.1 rfl) ho I.free
 ·obtain⟨v,o,ho,hd⟩:=I.cell x c e;exact free c o (λz=>(hch c z).2.2.1 x c e rfl) ho (I.fY x c e)
 ·obtain⟨e,n,ne,nf,d⟩:=I.pin p hp;have nch:p.1∉ch:=λz=>(hch p.1 z).2.2.2 p hp rfl;exact⟨keep p.1 p.2 ne nf nch e n,free p.1 p.2 nch e n,ne,nf,d⟩
theorem Inv.un{t':Nat}(I:Inv X pins σ H s)(u:Un X.fs [] H H' s.heap h')(bc:iy X.prog X.w H' h'):Inv X pins σ H' {s with heap:=h',toks:=t'}:=by
 obtain⟨m,⟨o,es,ep,ho,r⟩,_⟩:=id I.loc;obtain⟨sl,hL⟩:=u.any ho I.free (by simp)
 exact I.step (g':=s.gens) (d':=s.drawn) (ch:=[]) (λ_ z=>nomatch z) (λb o _ hb _ e n=>u.keep b o e n hb (by simp)) (λb o _ hb _ e n=>u.slot b o e n hb (by simp)) (λb o _ e n=>u.free b o e n (by simp)) (λb o _ e=>u.there b o e (by simp)) u.o_ u.nY u.mm (λm' hm=>by
  obtain⟨o',es',ep',ho',r'⟩:=hm;rw[ho] at ho';cases ho';exact⟨_,es',ep',hL,r'⟩) bc I.bare
theorem Inv.call{t':Nat}{d':Drawn}{ch:List Addr}(I:Inv X pins σ H s)(u:Un (zd X.stack) ch H H' s.heap h')(bc:iy X.prog X.w H' h')(hg:AllBare g')
  (hch:∀b∈ch,(b∈X.ex\/X.s₀.heap.objs.size<=b)/\b≠X.env.locals/\(∀x c,X.env.cells.lookup x=some c->c≠b)/\∀p∈X.pn++pins,p.1≠b) :
  Inv X pins σ H' {s with heap:=h',gens:=g',drawn:=d',toks:=t'}:=by
 obtain⟨m,⟨o,es,ep,ho,r⟩,_⟩:=id I.loc;obtain⟨sl,hL⟩:=u.any ho I.free λz=>(hch _ z).2.1 rfl;exact I.step (ch:=ch) hch (λb o hL hb hc e n=>u.keep b o e n (λz=>(JR.mp (I.nB b z)).elim hL hb) hc) (λb o _ _ hc e n=>u.any e n hc) (λb o hc e n=>u.free b o e n hc) (λb o hc e=>u.there b o e hc) u.o_ u.nY u.mm (λm' hm=>by
  obtain⟨o',es',ep',ho',r'⟩:=hm;rw[ho] at ho';cases ho';exact⟨_,es',ep',hL,r'⟩) bc hg
theorem Inv.turned{t':Nat}{it:Addr}(I:Inv X pins σ H s)(k:∀b o,b≠it->s.heap.get? b=some o->h'.get? b=some o)(hn:H it=none)(hL:it≠X.env.locals)
  (h1:it∈X.ex\/X.s₀.heap.objs.size<=it) (h2:∀x c,X.env.cells.lookup x=some c->c≠it) (h3:∀p∈X.pn++pins,p.1≠it):Inv X pins σ H {s with heap:=h',toks:=t'}:=by
 have nit:∀b u,H b=some u->b≠it:=λb u e z=>by rw[z,hn] at e;cases e
 refine I.step (g':=s.gens) (d':=s.drawn) (ch:=[it]) (λb hb=>?_) (λb o _ _ hc e _=>k b o (λz=>hc (by simp[z])) e) (λb o _ _ hc e _=>⟨o.slots,k b o (λz=>hc (by simp[z])) e⟩) (λ_ _ _ _ n=>n)
  (λb o hc e=>⟨o,k b o (λz=>hc (by simp[z])) e⟩) (λ_ _ e=>e) (λ_ _ _ e=>e) (λb ps e=>⟨#[],by rw[e];simp⟩) (λm hm=>?_) (λb u e=>?_) I.bare
 ·have e:b=it:=by simpa using hb
  subst e;exact⟨h1,hL,h2,h3⟩
 ·obtain⟨o,es,ep,ho,r⟩:=hm;exact⟨o,es,ep,k _ o (Ll hL) ho,r⟩
 ·refine (I.bc b u e).nc (λc v hc q=>k c v ?_ q) (λ_ q=>q) (λ_ _ q=>q) λ_ _ _ q=>q;rcases hc with z|z
  ·rw[z];exact nit b u e
  ·exact nit c _ z
theorem Inv.tok(I:Inv X pins σ H s)(t:Nat):Inv X pins σ H {s with toks:=t}:=I.un (h':=s.heap) (t':=t) Un.refl I.bc
theorem Inv.kept{t':Nat}(I:Inv X pins σ H s)(k:∀b u,s.heap.get? b=some u->h'.get? b=some u):Inv X pins σ H {s with heap:=h',toks:=t'}:=I.un (Un.kept k) (I.bc.kept k)
theorem Inv.laid{t':Nat}(I:Inv X pins σ H s)(k:∀b u,s.heap.get? b=some u->h'.get? b=some u)(hp:s.heap.objs.size<=a)(new:bS X.prog X.w (upd H a o) h' a o):
  Inv X pins σ (upd H a o) {s with heap:=h',toks:=t'}:=I.un (Un.laid k hp (I.bc.fresh hp)) (I.bc.laid k hp new)
theorem Inv.write{x e:Addr}{t':Nat}(I:Inv X pins σ H s)(mu:GB (H x))(he:e=x\/H e=some (.own x))(k:∀b u,b≠e->s.heap.get? b=some u->h'.get? b=some u)(heo:∃u,h'.get? e=some u)
  (new:bS X.prog X.w (upd H x o) h' x o):Inv X pins σ (upd H x o) {s with heap:=h',toks:=t'}:=I.un (Un.write mu he k heo) (I.bc.write mu he k heo new)
theorem Inv.nu{pins':List (Addr×Obj)}(I:Inv X pins σ H s)(h:∀p∈pins',s.heap.get? p.1=some p.2/\H p.1=none/\p.1≠X.env.locals/\p.1∉X.fs/\∀v,p.2.data≠.cell v):Inv X pins' σ H s:=
 ⟨I.ok,I.os,I.bare,I.base,I.loc,I.cell,I.free,I.fY,λp hp=>(K8.mp hp).elim (λz=>I.pin p (L3 _ z)) (h p),I.bc,I.len⟩
theorem qk(hN:N.Nodup)(a:N[i]?=some x)(b:N[j]?=some x):i=j:=by
 obtain⟨h1,e1⟩:=JO.mp a;obtain⟨h2,e2⟩:=JO.mp b;exact (List.getElem_inj hN).mp (e1.trans e2.symm)
theorem mL{A:Around}{v:V}{Q:Unit->Shared->Prop}(I:Inv X pins σ H s)(hN:X.N.Nodup)(hi:X.N[i]?=some x)(hx:Loc X.env.scope x)(r:RelV v u)
  (h:∀s',Inv X pins (σ.set i (some v)) H s'->(∃a,Heap.SameBut a s.heap s'.heap/\(a=X.env.locals\/X.env.cells.lookup x=some a))->Q () s') (hf:autoParam (X.fn x=true\/X.env.scope.names.lookup x=some .local) ℜ2):wpAny M A (storeName X.env x u) Q E s:=by
 obtain⟨m,hn,hl⟩:=id I.loc;have hcls:(X.env.scope.kind == .class || (X.env.scope.kind == .module && X.env.locals != X.env.globals))=false:=by rw[I.ok.kind];rfl
 have hiσ:i<σ.length:=by rw[I.len];exact (JO.mp hi).1
 have Em:=I.Em;have tracked:∀{a:Addr} {h':Heap},(∃o,s.heap.get? a=some o/\H a=none)->Heap.SameBut a s.heap h'->iy X.prog X.w H h':=λ{a h'} ha hs b ob e=>by
  obtain⟨_,_,hfree⟩:=ha;refine (I.bc b ob e).nc (λc w' hc q=>(hs.2 c ?_).trans q) (λ_ q=>q) (λ_ _ q=>q) λ_ _ _ q=>q;rintro rfl;rcases hc with rfl|hc
  ·rw[hfree] at e;cases e
  ·rw[hfree] at hc;cases hc
 rcases hx with hk|hk
 ·refine wpAny_storeName_local hk hn (λh' hn' hs=>?_) hcls;obtain⟨oL,_,_,hoL,_⟩:=id hn;refine h _ ⟨I.ok,I.os,I.bare,⟨λb o e n hb hx=>?_,λb o e n hb hx=>?_,I.base.free,λb o e hx=>?_,I.base.o_,I.base.nY,I.base.mm⟩,⟨_,hn',λj y v' e1 e2 e3=>?_⟩,λy c e=>?_,I.free,I.fY,λp hp=>?_,tracked ⟨oL,hoL,I.free⟩ hs,by simpa using I.len⟩ ⟨_,hs,.inl rfl⟩
  ·exact (hs.2 b (Kn (Kp (Ke e) I.ok.above))).trans (I.base.keep b o e n hb hx)
  ·obtain⟨sl,e1⟩:=I.base.slot b o e n hb hx;exact⟨sl,(hs.2 b (Kn (Kp (Ke e) I.ok.above))).trans e1⟩
  ·obtain⟨o',e1⟩:=I.base.there b o e hx;exact⟨o',(hs.2 b (Kn (Kp (Ke e) I.ok.above))).trans e1⟩
  ·by_cases hj:j=i
   ·subst hj;rw[hi] at e1;cases e1;rw[Me hiσ] at e2;cases e2;exact⟨u,r,.inl ⟨hk,by simp⟩⟩
   ·rw[Ng (Ll hj)] at e2;obtain⟨u',r',q⟩:=hl j y v' e1 e2 e3;refine⟨u',r',?_⟩;rcases q with ⟨k,e⟩|⟨k,c,e,z⟩
    ·refine .inl ⟨k,?_⟩;have:y≠x:=λe=>hj (qk hN e1 (e ▸ hi));simp[this,e]
    ·exact .inr ⟨k,c,e,z.sameBut hs (Em y c e)⟩
  ·obtain⟨w',z⟩:=I.cell y c e;exact⟨w',z.sameBut hs (Em y c e)⟩
  ·obtain⟨e,n,ne,nf,d⟩:=I.pin p hp;exact⟨(hs.2 p.1 ne).trans e,n,ne,nf,d⟩
 ·have hfn:X.fn x=true:=by
   rcases hf with z|z
   ·exact z
   ·rw[z] at hk;cases hk
  obtain⟨c,hc⟩:=I.ok.has x (.inl hk);obtain⟨w',z⟩:=I.cell x c hc;refine wpAny_storeName_cell I.ok.kind hk hc z (λh' hc' hs=>?_);obtain⟨oc,hoc,hocd⟩:=id z;refine h {s with heap:=h'} ⟨I.ok,I.os,I.bare,⟨λb o e n hb hx=>?_,λb o e n hb hx=>?_,I.base.free,λb o e hx=>?_,I.base.o_,I.base.nY,I.base.mm⟩,⟨m,hn.sameBut hs (Ll (Em x c hc)),λj y v' e1 e2 e3=>?_⟩,λy c' e=>?_,I.free,I.fY,λp hp=>?_,tracked ⟨oc,hoc,I.fY x c hc⟩ hs,by simpa using I.len⟩ ⟨c,hs,.inr hc⟩
  ·exact (hs.2 b (Kn (Kp (Ke e) (I.ok.HS x c hfn hc)))).trans (I.base.keep b o e n hb hx)
  ·obtain⟨sl,e1⟩:=I.base.slot b o e n hb hx;exact⟨sl,(hs.2 b (Kn (Kp (Ke e) (I.ok.HS x c hfn hc)))).trans e1⟩
  ·obtain⟨o',e1⟩:=I.base.there b o e hx;exact⟨o',(hs.2 b (Kn (Kp (Ke e) (I.ok.HS x c hfn hc)))).trans e1⟩
  ·by_cases hj:j=i
   ·subst hj;rw[hi] at e1;cases e1;rw[Me hiσ] at e2;cases e2;exact⟨u,r,.inr ⟨.inl hk,c,hc,hc'⟩⟩
   ·rw[Ng (Ll hj)] at e2;obtain⟨u',r',q⟩:=hl j y v' e1 e2 e3;refine⟨u',r',?_⟩;rcases q with q|⟨k,c',e,z'⟩
    ·exact .inl q
    ·refine .inr ⟨k,c',e,z'.sameBut hs ?_⟩;rintro rfl;exact hj (qk hN e1 (I.ok.inj _ _ _ e hc ▸ hi))
  ·by_cases hcc:c'=c
   ·subst hcc;exact⟨_,hc'⟩
   ·obtain⟨w2,z2⟩:=I.cell y c' e;exact⟨w2,z2.sameBut hs hcc⟩
  ·obtain⟨e,n,ne,nf,d⟩:=I.pin p hp;refine⟨(hs.2 p.1 ?_).trans e,n,ne,nf,d⟩;intro q;rw[q,hoc] at e;have q':oc=p.2:=Option.some.inj e;exact d w' (by rw[<- q'];exact hocd)
theorem qG{A:Around}{v:V}{Q:Unit->Shared->Prop}(I:Inv X pins σ H s)(hN:X.N.Nodup)(hi:X.N[i]?=some x)(hx:Loc X.env.scope x)(r:RelV v u)
  (h:∀s',Inv X pins (σ.set i (some v)) H s'->Q () s') (hf:autoParam (X.fn x=true\/X.env.scope.names.lookup x=some .local) ℜ2):wpAny M A (storeName X.env x u) Q E s:=
 mL I hN hi hx r (λs' I' _=>h s' I') hf
theorem Inv.HU(I:Inv X pins σ H s)(ho:s'.os=s.os)(u:Un (zd X.stack) ch H H' s.heap s'.heap)(bc:iy X.prog X.w H' s'.heap)(hg:AllBare s'.gens)
  (hch:∀b∈ch,(b∈X.ex\/X.s₀.heap.objs.size<=b)/\b≠X.env.locals/\(∀x c,X.env.cells.lookup x=some c->c≠b)/\∀p∈X.pn++pins,p.1≠b):Inv X pins σ H' s':=by
 obtain⟨h',g',d',t',o'⟩:=s';have e:o'=s.os:=ho;subst e;exact I.call (g':=g') (t':=t') (d':=d') u bc hg hch
end
abbrev XK:=Value->Option Addr->Hp->Prop
abbrev St:=List (Option V)
variable{σ:St}
abbrev VK:=V->Hp->Prop
abbrev TE:=St->Hp->VK->Prop
abbrev TT:=St->Hp->(Bool->Hp->Prop)->Prop
abbrev TA:=St->Hp->(List V->Hp->Prop)->Prop
structure Ends where
 nx:St->Hp->Prop
 rt:VK
 bk:St->Hp->Prop:=λ_ _=>False
 ct:St->Hp->Prop:=λ_ _=>False
variable{D:Ends}
abbrev TS:=Ends->St->Hp->Prop
variable{tb:TS}
noncomputable def EP(X:Cx)(pins:List (Addr×Obj))(σ:St)(Q:VK)(u:Value)(s':Shared):Prop:=∃v H',Inv X pins σ H' s'/\RelV v u/\Q v H'
noncomputable def TP(X:Cx)(pins:List (Addr×Obj))(σ:St)(Q:Bool->Hp->Prop)(b:Bool)(s':Shared):Prop:=∃H',Inv X pins σ H' s'/\Q b H'
noncomputable def AP(X:Cx)(pins:List (Addr×Obj))(σ:St)(Q:List V->Hp->Prop)(us:List Value)(s':Shared):Prop:=∃vs H',Inv X pins σ H' s'/\Vals vs us/\Q vs H'
noncomputable def SP(X:Cx)(pins:List (Addr×Obj))(D:Ends)(f:Flow)(s':Shared):Prop:=
 match f with
 |.next=>∃σ' H',Inv X pins σ' H' s'/\D.nx σ' H'
 |.brk=>∃σ' H',Inv X pins σ' H' s'/\D.bk σ' H'
 |.cont=>∃σ' H',Inv X pins σ' H' s'/\D.ct σ' H'
 |.ret u=>∃v σ' H',Inv X pins σ' H' s'/\RelV v u/\D.rt v H'
noncomputable def PE(X:Cx)(e:Expr)(t:TE):Prop:=
 ∀(pins:List (Addr×Obj)) (s:Shared) (σ:St) (H:Hp) (Q:VK),Inv X pins σ H s->t σ H Q->wpAny (model X.prog X.w) X.A (eval e X.env) (EP X pins σ Q) X.xe s
noncomputable def PT(X:Cx)(e:Expr)(t:TT):Prop:=
 ∀(pins:List (Addr×Obj)) (s:Shared) (σ:St) (H:Hp) (Q:Bool->Hp->Prop),Inv X pins σ H s->t σ H Q->wpAny (model X.prog X.w) X.A (isTrue e X.env (eval e X.env)) (TP X pins σ Q) X.xe s
noncomputable def PW(X:Cx)(e:Expr)(t:TT):Prop:=
 ∀(whole:Sem Value) (pins:List (Addr×Obj)) (s:Shared) (σ:St) (H:Hp) (Q:Bool->Hp->Prop),Inv X pins σ H s->t σ H Q->wpAny (model X.prog X.w) X.A (isTrue e X.env whole) (TP X pins σ Q) X.xe s
theorem PW.pt{t:TT}(h:PW X e t):PT X e t:=h _
noncomputable def PA(X:Cx)(es:List Expr)(t:TA):Prop:=
 ∀(pos:Pos) (pins:List (Addr×Obj)) (s:Shared) (σ:St) (H:Hp) (Q:List V->Hp->Prop),Inv X pins σ H s->t σ H Q->wpAny (model X.prog X.w) X.A (spliced (backTo pos (starEach es X.env))) (AP X pins σ Q) X.xe s
noncomputable def PS(X:Cx)(st:Stmt)(t:TS):Prop:=
 ∀(pins:List (Addr×Obj)) (s:Shared) (σ:St) (H:Hp) (D:Ends),Inv X pins σ H s->t D σ H->wpAny (model X.prog X.w) X.A (exec st X.env) (SP X pins D) X.xe s
noncomputable def qX(X:Cx)(st:List Stmt)(t:TS):Prop:=
 ∀(pins:List (Addr×Obj)) (s:Shared) (σ:St) (H:Hp) (D:Ends),Inv X pins σ H s->t D σ H->wpAny (model X.prog X.w) X.A (execs st X.env) (SP X pins D) X.xe s
theorem cz{α:Type}{t:Sem α}{Q Q':α->Shared->Prop}{A:Around}{s:Shared}(h:wpAny M A t Q E s)(hQ:∀a s,Q a s->Q' a s):wpAny M A t Q' E s:=KP h hQ λ_ _ x=>x
section
variable {X:Cx}
noncomputable def vj(i:Nat):TE:=λσ H Q=>∃v,σ[i]?=some (some v)/\Q v H
noncomputable def tC(v:V):TE:=λ_ H Q=>Q v H
theorem E_{pos:Pos}(hN:X.N[i]?=some x)(hv:HN X.env.scope x)(hd:autoParam ((x ==("__debug__":Str))=false) ℜ1)(fX:autoParam ((x ==("__classdict__":Str))=false) ℜ1):PE X (.Name x pos) (vj i):=by
 intro pins s σ H Q I h;obtain⟨v,e,h⟩:=h;obtain⟨m,hn,hl⟩:=I.loc;obtain⟨u,r,l⟩:=hl i x v hN e hv;have fin:EP X pins σ Q u s:=⟨v,H,I,r,h⟩;rcases l with ⟨hk,hm⟩|⟨hk,c,hc,hcell⟩
 ·exact wpAny_Name (wpAny_loadName_local I.ok.kind hk hn hm fin) hd
 ·rcases hk with hk|hk
  ·exact wpAny_Name (wpAny_loadName_cell I.ok.kind hk hc hcell fin) hd
  ·exact wpAny_Name (wpAny_loadName_free I.ok.kind hk hc hcell fin fX) hd
theorem xP{i j pos}:PE X (.Constant (.int i) j pos) (tC (.int i)):=λ_ _ _ H _ I h=>wpAny_Constant_int ⟨.int i,H,I.tok _,⟨_,rfl⟩,h⟩
theorem Ds{b j pos}:PE X (.Constant (.bool b) j pos) (tC (.bl b)):=λ_ _ _ H _ I h=>Constant_bool ⟨.bl b,H,I,rfl,h⟩
theorem zi{j pos}:PE X (.Constant .none j pos) (tC .aU):=λ_ _ _ H _ I h=>Constant_none ⟨.aU,H,I,rfl,h⟩
theorem yV{x j pos}:PE X (.Constant (.str x) j pos) (tC (.str x)):=λ_ _ _ H _ I h=>Calls.Constant_str ⟨.str x,H,I.tok _,⟨_,rfl⟩,h⟩
noncomputable def Gl(X:Cx)(x:Str):Prop:=X.env.kindOf x=some .globalImplicit
theorem nL{s:Shared}{pos:Pos}(I:Inv X pins σ H s)(hg:Gl X x)(hm:X.mg x=some u)(h:Q u s)
  (hd:autoParam ((x ==("__debug__":Str))=false) ℜ1):wpAny (model X.prog X.w) X.A (eval (.Name x pos) X.env) Q E s:=
 ND I.ok.kind hg (Calls.loadGlobal_global (by rw[I.ok.glob];exact I.mod.glob.keeps I.bk) hm h) hd
theorem ik{s:Shared}{pos:Pos}(I:Inv X pins σ H s)(hg:Gl X x)(hm:X.mg x=none)(hv:bootBuiltins x=some u)(h:Q u s)
  (hn:autoParam (x≠"__name__") ℜ1) (hd:autoParam ((x ==("__debug__":Str))=false) ℜ1):wpAny (model X.prog X.w) X.A (eval (.Name x pos) X.env) Q E s:=by
 obtain⟨mb,h1,h2⟩:=I.mod.blt;exact ND I.ok.kind hg (Calls.loadGlobal_builtin (by rw[I.ok.glob];exact I.mod.glob.keeps I.bk) hm (by rw[I.ok.blt];exact h1.keeps I.bk) ((h2 x hn).trans hv) h) hd
theorem uw{v:V}{pos:Pos}(hg:Gl X x)(hm:X.mg x=some u)(r:RelV v u)(hd:autoParam ((x ==("__debug__":Str))=false) ℜ1):PE X (.Name x pos) (tC v):=
 λ_ _ _ H _ I h=>nL I hg hm ⟨v,H,I,r,h⟩ hd
variable {a b:Expr} {ta tb:TE} {pos:Pos}
variable {tA tB':TT} {rest:List Expr}
noncomputable def yQ(t u:TT):TT:=λσ H Q=>t σ H λc H1=>if c=true then u σ H1 Q else Q false H1
noncomputable def Hv(t u:TT):TT:=λσ H Q=>t σ H λc H1=>if c=true then Q true H1 else u σ H1 Q
noncomputable def z_(t:TT):TT:=λσ H Q=>t σ H λc H1=>Q (!c) H1
theorem BM(ha:PT X a tA):PW X (.BoolOp .And [a] pos) tA:=by
 intro wh pins s σ H Q I h;refine isTrue_and (cz (ha pins s σ H Q I h) λc s1 e=>?_)
 cases c with
 |true=>exact isTrue_and_nil e
 |false=>exact e
theorem EU(ha:PT X a tA):PW X (.BoolOp .Or [a] pos) tA:=by
 intro wh pins s σ H Q I h;refine isTrue_or (cz (ha pins s σ H Q I h) λc s1 e=>?_)
 cases c with
 |false=>exact isTrue_or_nil e
 |true=>exact e
theorem Eb(ha:PT X a tA)(hb:PW X (.BoolOp .And (b::rest) pos) tB'):PW X (.BoolOp .And (a::b::rest) pos) (yQ tA tB'):=by
 intro wh pins s σ H Q I h;refine isTrue_and (cz (ha pins s σ H _ I h) λc s1 hq7=>?_);obtain⟨H1,I1,q1⟩:=hq7
 cases c with
 |true=>exact hb wh pins s1 σ H1 Q I1 q1
 |false=>exact⟨H1,I1,q1⟩
theorem GJ(ha:PT X a tA)(hb:PW X (.BoolOp .Or (b::rest) pos) tB'):PW X (.BoolOp .Or (a::b::rest) pos) (Hv tA tB'):=by
 intro wh pins s σ H Q I h;refine isTrue_or (cz (ha pins s σ H _ I h) λc s1 hq8=>?_);obtain⟨H1,I1,q1⟩:=hq8
 cases c with
 |true=>exact⟨H1,I1,q1⟩
 |false=>exact hb wh pins s1 σ H1 Q I1 q1
theorem ES(ha:PT X a tA):PT X (.UnaryOp .Not a pos) (z_ tA):=by
 intro pins s σ H Q I h;exact isTrue_not (ha pins s σ H (λc H1=>Q (!c) H1) I h)
noncomputable def GS(t:TT)(ta tb:TE):TE:=λσ H Q=>t σ H λc H1=>if c=true then ta σ H1 Q else tb σ H1 Q
theorem yi{c:Expr}(hc:PT X c tA)(ha:PE X a ta)(hb:PE X b tb):PE X (.IfExp c a b pos) (GS tA ta tb):=by
 intro pins s σ H Q I h;refine wpAny_IfExp (cz (hc pins s σ H _ I h) λd s1 hq12=>?_);obtain⟨H1,I1,q1⟩:=hq12
 cases d with
 |true=>exact ha pins s1 σ H1 Q I1 q1
 |false=>exact hb pins s1 σ H1 Q I1 q1
end
noncomputable def cf(K:W.Frag)(H:Hp)(a:Addr)(xs:List V):Prop:=
 Rd H a (.lst xs) \/
  ∃(o:Obj) (its:Array Value) (n:Nat),K.lookup a=some o/\o.cls=.type "list"/\o.dict=none/\o.data=.seq its n/\its.size<=sizeLine/\Vals xs its.toList
noncomputable def bB(K:W.Frag)(H:Hp)(a:Addr)(xs:List V):Prop:=
 Rd H a (.tup xs) \/
  ∃(o:Obj) (its:Array Value) (n:Nat),K.lookup a=some o/\o.cls=.type "tuple"/\o.data=.seq its n/\its.size<=sizeLine/\Vals xs its.toList
noncomputable def IZ:Value->Option V
 |.none=>some .aU
 |.bool b=>some (.bl b)
 |.int i _=>some (.int i)
 |.str x _=>some (.str x)
 |.bytes b _=>some (.qK b)
 |.float b _=>some (.ID b)
 |.ref a=>some (.ref a)
 |.type n=>some (.ty n)
 |_=>none
theorem RelV.abs{x:V}(r:RelV x u):IZ u=some x:=by
 cases x with
 |aU=>cases r;rfl
 |bl _=>cases r;rfl
 |int _=>obtain⟨t,rfl⟩:=r;rfl
 |str _=>obtain⟨t,rfl⟩:=r;rfl
 |qK _=>obtain⟨t,rfl⟩:=r;rfl
 |ID _=>obtain⟨t,rfl⟩:=r;rfl
 |ref _=>cases r;rfl
 |ty _=>cases r;rfl
theorem RelV.inj{x y:V}(r:RelV x u)(q:RelV y u):x=y:=Option.some.inj (r.abs.symm.trans q.abs)
theorem Vals.inj:∀{xs ys:List V} {us:List Value},Vals xs us->Vals ys us->xs=ys
 |_,_,_,.nil,.nil=>rfl
 |_,_,_,.cons r t,.cons r' t'=>by rw[r.inj r',Vals.inj t t']
section
variable {X:Cx} {pins:List (Addr×Obj)} {σ:St} {H:Hp} {s:Shared} {a:Addr} {xs ys:List V}
theorem cf.of(h:H a=some (.lst xs)):cf K H a xs:=.inl (.inl h)
theorem bB.of(h:H a=some (.tup xs)):bB K H a xs:=.inl (.inl h)
theorem Inv.list(I:Inv X pins σ H s)(h:cf X.K H a xs):∃its:List Value,Vals xs its/\PlainL s.heap a its.toArray/\xs.length<=sizeLine:=by
 rcases h with h|⟨o,its,n,hk,hc,hd,hs,hz,r⟩
 ·obtain⟨z,its,n,r,e⟩:=h.ok I.bc;exact⟨its,r,⟨_,n,e,rfl,rfl,rfl⟩,z⟩
 ·refine⟨its.toList,r,⟨o,n,I.pJ a o hk,hc,hd,by simpa using hs⟩,?_⟩
  have e:=r.length;simp only[K0] at e;lia
theorem Inv.tuple(I:Inv X pins σ H s)(h:bB X.K H a xs):∃its:List Value,Vals xs its/\IsTup s.heap a its.toArray/\xs.length<=sizeLine:=by
 rcases h with h|⟨o,its,n,hk,hc,hs,hz,r⟩
 ·obtain⟨z,its,r,p⟩:=h.ok I.bc;exact⟨its,r,p.to,z⟩
 ·refine⟨its.toList,r,⟨o,I.pJ a o hk,hc,n,by simpa using hs⟩,?_⟩
  have e:=r.length;simp only[K0] at e;lia
theorem Inv.jZ(I:Inv X pins σ H s)(h:cf X.K H a xs)(h':cf X.K H a ys):xs=ys:=by
 obtain⟨its,r,⟨o,n,e,_,_,d⟩,_⟩:=I.list h;obtain⟨its',r',⟨o',n',e',_,_,d'⟩,_⟩:=I.list h';rw[e] at e';cases e';rw[d] at d'
 injection d' with d1 _
 have:its=its':=by simpa using K7 Array.toList d1
 subst this;exact r.inj r'
theorem Inv.iY(I:Inv X pins σ H s)(h:bB X.K H a xs)(h':bB X.K H a ys):xs=ys:=by
 obtain⟨its,r,⟨o,e,_,n,d⟩,_⟩:=I.tuple h;obtain⟨its',r',⟨o',e',_,n',d'⟩,_⟩:=I.tuple h';rw[e] at e';cases e';rw[d] at d'
 injection d' with d1 _
 have:its=its':=by simpa using K7 Array.toList d1
 subst this;exact r.inj r'
end
abbrev Cx.mj(X:Cx)(E:Value->Shared->Prop):Cx:={X with xe:=E}
abbrev Cx.lW(X:Cx):Cx:=X.mj λ_ _=>False
theorem Cx.Ok.mj(ok:X.Ok)(E:Value->Shared->Prop):(X.mj E).Ok:=
 ⟨ok.mod,ok.kind,ok.glob,ok.blt,ok.above,ok.inj,ok.has,ok.HS,ok.hd,ok.frames,ok.Iz,ok.Jq,ok.bs,ok.A0,ok.xB,ok.CJ,ok.jB,ok.Fd,ok.tabs⟩
theorem Cx.Ok.gz(ok:(X.mj E).Ok):X.Ok:=
 ⟨ok.mod,ok.kind,ok.glob,ok.blt,ok.above,ok.inj,ok.has,ok.HS,ok.hd,ok.frames,ok.Iz,ok.Jq,ok.bs,ok.A0,ok.xB,ok.CJ,ok.jB,ok.Fd,ok.tabs⟩
section
variable {X:Cx} {pins:List (Addr×Obj)} {σ:St} {H:Hp} {s:Shared} {E:Value->Shared->Prop}
theorem Inv.mj(I:Inv X pins σ H s)(E:Value->Shared->Prop):Inv (X.mj E) pins σ H s:=⟨I.ok.mj E,I.os,I.bare,I.base,I.loc,I.cell,I.free,I.fY,I.pin,I.bc,I.len⟩
theorem Inv.gz(I:Inv (X.mj E) pins σ H s):Inv X pins σ H s:=⟨I.ok.gz,I.os,I.bare,I.base,I.loc,I.cell,I.free,I.fY,I.pin,I.bc,I.len⟩
theorem SP.gz{f:Flow}(h:SP (X.mj E) pins D f s'):SP X pins D f s':=by
 cases f with
 |next=>obtain⟨σ',H',I,q⟩:=h;exact⟨σ',H',I.gz,q⟩
 |brk=>obtain⟨σ',H',I,q⟩:=h;exact⟨σ',H',I.gz,q⟩
 |cont=>obtain⟨σ',H',I,q⟩:=h;exact⟨σ',H',I.gz,q⟩
 |ret u=>obtain⟨v,σ',H',I,r,q⟩:=h;exact⟨v,σ',H',I.gz,r,q⟩
theorem qX.lW{st:List Stmt}{t:TS}(h:qX X.lW st t):qX X st t:=λpins s σ H D I hw =>
 KP (h pins s σ H D (I.mj _) hw) (λ_ _ q=>q.gz) λ_ _ z=>False.elim z
end
section
variable {X:Cx} {st:Stmt} {rest:List Stmt} {t u:TS} {e:Expr} {te:TE} {pos:Pos}
noncomputable def pX:TS:=λD σ H=>D.nx σ H
noncomputable def vQ(t u:TS):TS:=λD σ H=>t {D with nx:=u D} σ H
theorem BJ:qX X [] pX:=λ_ _ σ H _ I h=>Nh ⟨σ,H,I,h⟩
theorem yj(h1:PS X st t)(h2:qX X rest u):qX X (st::rest) (vQ t u):=by
 intro pins s σ H D I h;refine wpAny_execs_cons (cz (h1 pins s σ H {D with nx:=u D} I h) λf s1 q=>?_)
 cases f with
 |next =>
  obtain⟨σ',H',I',q⟩:=q;exact h2 pins s1 σ' H' D I' q
 |ret v=>exact q
 |brk=>exact q
 |cont=>exact q
theorem C2(h1:PS X st t):qX X [st] t:=by
 intro pins s σ H D I h;refine wpAny_execs_cons (cz (h1 pins s σ H D I h) λf s1 q=>?_)
 cases f with
 |next=>exact Nh q
 |ret v=>exact q
 |brk=>exact q
 |cont=>exact q
theorem Inv.quiet{s:Shared}(I:Inv X pins σ H s):interactive X.env=false:=by simp[interactive,I.ok.kind]
noncomputable def pP(te:TE):TS:=λD σ H=>te σ H λ_ H1=>D.nx σ H1
theorem B_(he:PE X e te)(hs:autoParam (swapsWith e none pos.line X.env=pure false) ℜ0):PS X (.Expr e pos) (pP te):=by
 intro pins s σ H D I h;exact wpAny_Expr_any (cz (he pins s σ H _ I h) λv s1 ⟨x,H1,I1,r1,q1⟩=>⟨σ,H1,I1,q1⟩) I.quiet hs
noncomputable def zS(te:TE):TS:=λD σ H=>te σ H D.rt
theorem FT(he:PE X e te):PS X (.Return (some e) pos) (zS te):=by
 intro pins s σ H D I h;exact wpAny_Return_some (cz (he pins s σ H _ I h) λv s1 ⟨x,H1,I1,r1,q1⟩=>⟨x,σ,H1,I1,r1,q1⟩)
noncomputable def wo(c:TT)(t u:TS):TS:=λD σ H=>c σ H λb H1=>if b=true then t D σ H1 else u D σ H1
theorem GU{c:Expr}{a b:List Stmt}{tc:TT}(hc:PT X c tc)(ha:qX X a t)(hb:qX X b u):PS X (.If c a b pos) (wo tc t u):=by
 intro pins s σ H D I h;refine wpAny_If (cz (hc pins s σ H _ I h) λd s1 hq13=>?_);obtain⟨H1,I1,q1⟩:=hq13
 cases d with
 |true=>exact ha pins s1 σ H1 D I1 q1
 |false=>exact hb pins s1 σ H1 D I1 q1
end
abbrev TG:=V->St->Hp->(St->Hp->Prop)->Prop
abbrev wL:=List V->St->Hp->(St->Hp->Prop)->Prop
noncomputable def PG(X:Cx)(target:Expr)(t:TG):Prop:=
 ∀(pins:List (Addr×Obj)) (s:Shared) (σ:St) (H:Hp) (v:V) (u:Value) (Q:St->Hp->Prop),Inv X pins σ H s->RelV v u->t v σ H Q ->
  wpAny (model X.prog X.w) X.A (assign target X.env u) (λ_ s'=>∃σ' H',Inv X pins σ' H' s'/\Q σ' H') X.xe s
noncomputable def HX(X:Cx)(ts:List Expr)(t:wL):Prop:=
 ∀(pins:List (Addr×Obj)) (s:Shared) (σ:St) (H:Hp) (vs:List V) (us:List Value) (Q:St->Hp->Prop),Inv X pins σ H s->Vals vs us->t vs σ H Q ->
  wpAny (model X.prog X.w) X.A (assignInOrder ((assignEach ts X.env).map (·.2)) us) (λ_ s'=>∃σ' H',Inv X pins σ' H' s'/\Q σ' H') X.xe s
abbrev CK:=V->V->V->Hp->(Hp->Prop)->Prop
noncomputable def FC(X:Cx)(t:CK):Prop:=
 ∀(pins:List (Addr×Obj)) (s:Shared) (σ:St) (H:Hp) (o i v:V) (ov iv u:Value) (Q:Hp->Prop),Inv X pins σ H s->RelV o ov->RelV i iv->RelV v u->t o i v H Q ->
  wpAny (model X.prog X.w) X.A (setItem ov iv u) (λ_ s'=>∃H',Inv X pins σ H' s'/\Q H') X.xe s
section
variable {X:Cx} {pos:Pos}
noncomputable def bT(i:Nat):TG:=λv σ H Q=>Q (σ.set i (some v)) H
theorem Cq(hN:X.N.Nodup)(hi:X.N[i]?=some x)(hx:Loc X.env.scope x)(hf:autoParam (X.fn x=true\/X.env.scope.names.lookup x=some .local) ℜ2):PG X (.Name x pos) (bT i):=by
 intro pins s σ H v u Q I r h;exact wpAny_assign_Name (qG I hN hi hx r (λs' I'=>⟨_,H,I',h⟩) hf)
noncomputable def wj:wL:=λvs σ H Q=>vs=[]/\Q σ H
noncomputable def kA(t:TG)(u:wL):wL:=λvs σ H Q=>∃v r,vs=v::r/\t v σ H λσ' H'=>u r σ' H' Q
theorem AQ:HX X [] wj:=by
 intro pins s σ H vs us Q I r h;obtain⟨e,h⟩:=h;subst e;cases r;exact assignInOrder_nil ⟨σ,H,I,h⟩
theorem xQ{t:TG}{u:wL}(h1:PG X e t)(h2:HX X es u)
  (hs:autoParam ((assignEach (e::es) X.env).map (·.2)=assign e X.env::(assignEach es X.env).map (·.2)) ℜ0):HX X (e::es) (kA t u):=by
 intro pins s σ H vs us Q I r h;obtain⟨v,vr,e1,h⟩:=h;subst e1
 cases r with
 |cons r rr =>
  rw[hs];refine assignInOrder_cons (cz (h1 pins s σ H _ _ _ I r h) λ_ s1 hq14=>?_);obtain⟨σ1,H1,I1,q1⟩:=hq14;exact h2 pins s1 σ1 H1 _ _ Q I1 rr q1
noncomputable def vT(K:W.Frag)(n:Nat)(t:wL):TG:=λv σ H Q=>∃a xs,v=.ref a/\bB K H a xs/\xs.length=n/\t xs σ H Q
theorem Fj{t:wL}{n:Nat}(hc:X.calm=true)(h:HX X es t)
  (hn:autoParam ((assignEach es X.env).length=n) ℜ0) (hst:autoParam ((assignEach es X.env).findIdx? (·.1)=none) ℜ0):PG X (.Tuple es k pos) (vT X.K n t):=by
 intro pins s σ H v u Q I r hw;obtain⟨a,xs,e1,hq,hl,hw⟩:=hw;subst e1;cases r;obtain⟨its,rv,ht,hz⟩:=I.tuple hq;refine assign_Tuple_tuple (I.ok.hd hc) ht (by simp[hn,<- hl,rv.length]) hst λh' hx=>?_
 have I1:Inv X pins σ H {s with heap:=h'}:=I.kept (t':=s.toks) λb o e=>hx b o (Kn (Ke e)) e
 exact h pins _ σ H xs _ Q I1 (by simpa using rv) hw
noncomputable def xy(to ti:TE)(t:CK):TG:=λv σ H Q=>to σ H λo H1=>ti σ H1 λi H2=>t o i v H2 λH3=>Q σ H3
theorem EV{o i:Expr}{to ti:TE}{t:CK}(ho:PE X o to)(hi:PE X i ti)(hs:FC X t)
  (ha:autoParam (∀v,assign (.Subscript o i pos) X.env v=(do
   let ov <- holding [v] (eval o X.env)
   let iv <- holding [v,ov] (eval i X.env)
   standAt pos
   holding [v,ov,iv] (setItem ov iv v)
   release [v,ov,iv] [])) ℜ3):PG X (.Subscript o i pos) (xy to ti t):=by
 intro pins s σ H v u Q I r h;rw[ha];refine JJ (Lb (cz (ho pins s σ H _ I h) λov s1 hq15=>?_));obtain⟨x,H1,I1,r1,q1⟩:=hq15;refine JJ (Lb (cz (hi pins s1 σ H1 _ I1 q1) λiv s2 hq16=>?_));obtain⟨y,H2,I2,r2,q2⟩:=hq16;refine JJ (NF (JJ (Lb (cz (hs pins s2 σ H2 x y v ov iv u _ I2 r1 r2 r q2) λ_ s3 hq17=>?_))));obtain⟨H3,I3,q3⟩:=hq17;exact wpAny_release ⟨σ,H3,I3,q3⟩
noncomputable def kl(te:TE)(g:TG):TS:=λD σ H=>te σ H λx H1=>g x σ H1 D.nx
theorem Ga{te:TE}{g:TG}(he:PE X e te)(hg:PG X tg g)(hs:autoParam (swapsWithSole [tg] e pos.line X.env=pure false) ℜ0)(hw:autoParam (swappedStores [tg] e X.env=pure none) ℜ0)
  (h1:autoParam ((assignEach [tg] X.env).map (·.2)=[assign tg X.env]) ℜ0):PS X (.Assign [tg] e pos) (kl te g):=by
 intro pins s σ H D I h;refine wpAny_Assign_stores (cz (he pins s σ H _ I h) λv s1 hq18=>?_) hs hw;obtain⟨x,H1,I1,r1,q1⟩:=hq18;rw[h1];exact cz (hg pins s1 σ H1 x v _ I1 r1 q1) λ_ s2 q=>q
theorem FP{te:TE}{pos':Pos}(hN:X.N.Nodup)(hi:X.N[i]?=some x)(hx:Loc X.env.scope x)(he:PE X e te)(hs:autoParam (swapsWith e (some (.Name x pos')) pos.line X.env=pure false) ℜ0)(hf:autoParam (X.fn x=true\/X.env.scope.names.lookup x=some .local) ℜ2):
  PS X (.Assign [.Name x pos'] e pos) (kl te (bT i)):=by
 intro pins s σ H D I h;refine wpAny_Assign_Name (cz (he pins s σ H _ I h) λv s1 hq19=>?_) hs;obtain⟨y,H1,I1,r1,q1⟩:=hq19;exact qG I1 hN hi hx r1 (λs2 I2=>⟨_,H1,I2,q1⟩) hf
end
section
variable {X:Cx} {pos:Pos}
noncomputable def y9(c:TT)(tb:TS):TS:=λD σ H=>∃W:Nat->St->Hp->Prop,(∃m,W m σ H)/\∀m σ H,W m σ H ->
 c σ H λb H1=>if b=true then ∃N:St->Hp->Prop,(∀σ' H',N σ' H'->∃m',m'<m/\W m' σ' H')/\tb {D with nx:=N,ct:=N,bk:=D.nx} σ H1 else D.nx σ H1
theorem xg{c:Expr}{tc:TT}(hp:PassesOwn (model X.prog X.w) X.A X.env X.xe)(hc:PT X c tc)(hb:qX X body tb):PS X (.While c body [] pos) (y9 tc tb):=by
 intro pins s σ H D I h;obtain⟨W,⟨m0,w0⟩,turn⟩:=h;refine wpAny_While (codeAny_whileLoop (λn s'=>∃σ' H',Inv X pins σ' H' s'/\W n σ' H') ?_ m0 ⟨σ,H,I,w0⟩);rintro n s1 ⟨σ1,H1,I1,w1⟩;refine LG hp (cz (hc pins s1 σ1 H1 _ I1 (turn n σ1 H1 w1)) λb s2 hq28=>?_);obtain⟨H2,I2,q2⟩:=hq28
 cases b with
 |true =>
  obtain⟨N,hN,q2⟩:=q2;rw[JQ rfl];refine LG hp (cz (hb pins s2 σ1 H2 _ I2 q2) λf s3 q3=>?_)
  cases f with
  |next =>
   obtain⟨σ3,H3,I3,n3⟩:=q3;obtain⟨m',hm,w3⟩:=hN σ3 H3 n3;exact⟨m',hm,σ3,H3,I3,w3⟩
  |cont =>
   obtain⟨σ3,H3,I3,n3⟩:=q3;obtain⟨m',hm,w3⟩:=hN σ3 H3 n3;exact⟨m',hm,σ3,H3,I3,w3⟩
  |brk=>exact q3
  |ret v=>exact q3
 |false =>
  rw[JN JZ];exact Nh ⟨σ1,H2,I2,q2⟩
end
structure It where
 go:Nat->Hp->Prop
 Dy:Nat->Hp->V->Hp->Prop
 stop:Nat->Hp->Prop
noncomputable def ml(X:Cx)(pins:List (Addr×Obj))(H:Hp)(b:Addr):Prop:=
 H b=none/\b≠X.env.locals/\b∉X.fs/\(b∈X.ex\/X.s₀.heap.objs.size<=b)/\(∀x c,X.env.cells.lookup x=some c->c≠b)/\∀p∈X.pn++pins,p.1≠b
theorem Inv.oP{H':Hp}{s:Shared}(I:Inv X pins σ H s)(hb:s.heap.objs.size<=b)(hn:H' b=none):ml X pins H' b:=by
 refine⟨hn,Ls (Kp I.lt hb),I.Ig hb,.inr (JX I.sz hb),λx c e z=>?_,λp hp z=>?_⟩
 ·obtain⟨v,q⟩:=I.cell x c e;exact absurd (Kp q.lt (by rw[z];exact hb)) (Lk _)
 ·exact absurd (Kp (Ke (I.pin p hp).1) (by rw[z];exact hb)) (Lk _)
structure Turn (P:Program) (w:World) (K:W.Frag) (tg:Expr) (J:It) (fp:List Addr) (it:Addr) (tn:Nat->Heap->Prop):Prop where
 mem:it∈fp
 obj:∀i h,tn i h->∀b∈fp,∃o,h.get? b=some o/\∀v,o.data≠.cell v
 keep:∀i h h',tn i h->(∀b∈fp,∀o,h.get? b=some o->h'.get? b=some o)->tn i h'
 item:∀(X:Cx),X.prog=P->X.w=w->X.K=K->X.calm=true->∀(i:Nat) (pins:List (Addr×Obj)) (s:Shared) (σ:St) (H:Hp) (E:Value->Shared->Prop),Inv X pins σ H s->(∀b∈fp,ml X pins H b)->tn i s.heap->J.go i H ->
  wpAny (model P w) X.A (pyNext (.ref it)) (λr s1=>∃u,r=some u /\
   wpAny (model P w) X.A (letOwnedTupleGo tg (.ref it) u) (λ_ s2=>∃x H',Inv X pins σ H' s2/\RelV x u/\J.Dy i H x H'/\tn (i+1) s2.heap/\∀b∈fp,H' b=none) E s1) E s
 done:∀(X:Cx),X.prog=P->X.w=w->X.K=K->X.calm=true->∀(i:Nat) (pins:List (Addr×Obj)) (s:Shared) (σ:St) (H:Hp) (E:Value->Shared->Prop),Inv X pins σ H s->(∀b∈fp,ml X pins H b)->tn i s.heap->J.stop i H ->
  wpAny (model P w) X.A (pyNext (.ref it)) (λr s1=>r=none/\Inv X pins σ H s1) E s
 self:∀(A:Around) (i:Nat) (s:Shared) (Q:Value->Shared->Prop) (E:Value->Shared->Prop),tn i s.heap->Q (.ref it) s->wpAny (model P w) A (pyIter (.ref it)) Q E s
abbrev TI:=St->Hp->(It->Hp->Prop)->Prop
noncomputable def Jc(X:Cx)(pins:List (Addr×Obj))(σ:St)(tg:Expr)(R:It->Hp->Prop)(itv:Value)(s2:Shared):Prop:=
 ∃(it:Addr) (fp:List Addr) (tn:Nat->Heap->Prop) (J:It) (H':Hp),itv=.ref it/\Inv X pins σ H' s2/\Turn X.prog X.w X.K tg J fp it tn/\tn 0 s2.heap/\(∀b∈fp,ml X pins H' b)/\R J H'
noncomputable def PI(X:Cx)(tg iter:Expr)(wi:TI):Prop:=
 ∀(pins:List (Addr×Obj)) (s:Shared) (σ:St) (H:Hp) (R:It->Hp->Prop),Inv X pins σ H s->wi σ H R ->
  wpAny (model X.prog X.w) X.A (eval iter X.env) (λv s1=>wpAny (model X.prog X.w) X.A (pyIter v) (Jc X pins σ tg R) X.xe s1) X.xe s
theorem x_{A:Around}{s:Shared}{it:Addr}{o:Obj}{n:String}{vs:Array Value}{Q:Unit->Shared->Prop}(ho:s.heap.get? it=some o)(hc:o.cls=.type n)(hd:o.data=.fields vs)
    (hn:["enumerate","zip","dict_itemiterator","dict_reverseitemiterator","odict_iterator","itertools.zip_longest","itertools.pairwise"].contains n=false) (hQ:Q () s):wpAny M A (letOwnedTupleGo tg (.ref it) u) Q E s:=by
  unfold letOwnedTupleGo
  cases tg<;>first
    |exact JV hQ
    | (cases u<;>first
        |exact JV hQ
        | (refine JJ (wpAny_load ho ?_)
           rw[hc,hd];show wpAny M A (if (["enumerate","zip","dict_itemiterator","dict_reverseitemiterator","odict_iterator","itertools.zip_longest","itertools.pairwise"].contains n && vs[0]? == some (rawInt _))=true then _ else _) Q E s
           rw[JN (by intro h;rw[hn,N1] at h;cases h)]
           exact JV hQ))
noncomputable def wO(K:W.Frag)(a:Addr):It:=
 ⟨λi H=>∃xs x,cf K H a xs/\xs[i]?=some x,λi H x H'=>H'=H/\∀xs,cf K H a xs->xs[i]?=some x,λi H=>∃xs,cf K H a xs/\xs.length<=i⟩
noncomputable def uV(K:W.Frag)(a:Addr):It:=
 ⟨λi H=>∃xs x,bB K H a xs/\xs[i]?=some x,λi H x H'=>H'=H/\∀xs,bB K H a xs->xs[i]?=some x,λi H=>∃xs,bB K H a xs/\xs.length<=i⟩
noncomputable def CV(lo:Int)(n:Nat):It:=⟨λi _=>i<n,λi H x H'=>H'=H/\x=.int (lo+i),λi _=>n<=i⟩
theorem mB(a it:Addr):Turn P w K tg (wO K a) [it] it (λi h=>h.IsListIter it a i) where
 mem:=by simp
 obj:=λi h st b hb=>by
  have e:b=it:=by simpa using hb
  subst e;obtain⟨o,e,c,d⟩:=st;exact⟨o,e,λv z=>by rw[d] at z;cases z⟩
 keep:=λi h h' st k=>st.at λo e=>k it (by simp) o e
 item:=by
  intro X hP hw hK hc i pins s σ H E I hf st hg;subst hP hw hK;obtain⟨xs,x,hq,hx⟩:=hg;obtain⟨its,rv,p,hz⟩:=I.list hq;obtain⟨u,hu,ru⟩:=rv.get hx;obtain⟨f0,f1,f2,f3,f4,f5⟩:=hf it (by simp)
  refine Ov st p.isList (x:=u) (by simpa using hu) λh' st' sb=>?_
  have I1:Inv X pins σ H {s with heap:=h'}:=I.turned (t':=s.toks) (λb o hb e=>(sb.2 b hb).trans e) f0 f1 f3 f4 f5
  obtain⟨o,e,c,d⟩:=id st';exact⟨u,rfl,x_ (s:={s with heap:=h'}) e c d (by decide) ⟨x,H,I1,ru,⟨rfl,λys hy=>by rw[I.jZ hy hq];exact hx⟩,st',λb hb=>(hf b hb).1⟩⟩
 done:=by
  intro X hP hw hK hc i pins s σ H E I hf st hg;subst hP hw hK;obtain⟨xs,hq,hx⟩:=hg;obtain⟨its,rv,p,hz⟩:=I.list hq;obtain⟨f0,f1,f2,f3,f4,f5⟩:=hf it (by simp)
  have hl:=rv.length;exact wpAny_pyNext_list_end (I.ok.hd hc) st p.isList (by simp;lia) λh' eb=>⟨rfl,I.turned (t':=s.toks) (λb o hb e=>eb b o hb e) f0 f1 f3 f4 f5⟩
 self:=λ_ _ _ _ _ st h=>wpAny_pyIter_listiter st h
theorem kT(a it:Addr):Turn P w K tg (uV K a) [it] it (λi h=>h.IsTupleIter it a i) where
 mem:=by simp
 obj:=λi h st b hb=>by
  have e:b=it:=by simpa using hb
  subst e;obtain⟨o,e,c,d⟩:=st;exact⟨o,e,λv z=>by rw[d] at z;cases z⟩
 keep:=λi h h' st k=>st.at λo e=>k it (by simp) o e
 item:=by
  intro X hP hw hK hc i pins s σ H E I hf st hg;subst hP hw hK;obtain⟨xs,x,hq,hx⟩:=hg;obtain⟨its,rv,p,hz⟩:=I.tuple hq;obtain⟨u,hu,ru⟩:=rv.get hx;obtain⟨f0,f1,f2,f3,f4,f5⟩:=hf it (by simp)
  refine wpAny_pyNext_tuple_item st (show s.heap.IsTuple a its.toArray from p) (x:=u) (by simpa using hu) λh' st' sb=>?_
  have I1:Inv X pins σ H {s with heap:=h'}:=I.turned (t':=s.toks) (λb o hb e=>(sb.2 b hb).trans e) f0 f1 f3 f4 f5
  obtain⟨o,e,c,d⟩:=id st';exact⟨u,rfl,x_ (s:={s with heap:=h'}) e c d (by decide) ⟨x,H,I1,ru,⟨rfl,λys hy=>by rw[I.iY hy hq];exact hx⟩,st',λb hb=>(hf b hb).1⟩⟩
 done:=by
  intro X hP hw hK hc i pins s σ H E I hf st hg;subst hP hw hK;obtain⟨xs,hq,hx⟩:=hg;obtain⟨its,rv,p,hz⟩:=I.tuple hq;obtain⟨f0,f1,f2,f3,f4,f5⟩:=hf it (by simp)
  have hl:=rv.length;exact wpAny_pyNext_tuple_end (I.ok.hd hc) st (show s.heap.IsTuple a its.toArray from p) (by simp;lia) λh' eb=>⟨rfl,I.turned (t':=s.toks) (λb o hb e=>eb b o hb e) f0 f1 f3 f4 f5⟩
 self:=λ_ _ _ _ _ st h=>wpAny_pyIter_tupleiter st h
theorem qV{w:World}{K:PySem.W.Frag}(it:Addr)(lo:Int)(n:Nat):Turn P w K tg (CV lo n) [it] it (λi h=>IsRangeIter h it (lo+(i:Nat)*1) ((n:Int)-(i:Nat)) 1) where
 mem:=by simp
 obj:=λi h st b hb=>by
  have e:b=it:=by simpa using hb
  subst e;exact⟨_,st,λv z=>by
   have z':Data.fields _=Data.cell v:=z
   cases z'⟩
 keep:=λi h h' st k=>k it (by simp) _ st
 item:=by
  intro X hP hw hK hc i pins s σ H E I hf st hg;subst hP hw hK;obtain⟨f0,f1,f2,f3,f4,f5⟩:=hf it (by simp)
  have W:=Walks.range (prog:=X.prog) (w:=X.w) (I.ok.hd hc) it lo 1 n;refine W.item i s _ _ hg st λv h' tk hv st' kk=>?_;obtain⟨t,rfl⟩:=hv;have I1:Inv X pins σ H {s with heap:=h',toks:=tk}:=I.turned (λb o hb e=>kk b o (by simpa using hb) e) f0 f1 f3 f4 f5
  refine⟨_,rfl,x_ (s:={s with heap:=h',toks:=tk}) (n:="range_iterator") st' rfl rfl (by decide) ⟨.int (lo+i),H,I1,⟨t,?_⟩,⟨rfl,rfl⟩,st',λb hb=>(hf b hb).1⟩⟩
  rw[Int.mul_one]
 done:=by
  intro X hP hw hK hc i pins s σ H E I hf st hg;subst hP hw hK;obtain⟨f0,f1,f2,f3,f4,f5⟩:=hf it (by simp)
  exact wpAny_pyNext_range_end (I.ok.hd hc) st (by have:n<=i:=hg;lia) λh' eb=>⟨rfl,I.turned (t':=s.toks) (λb o hb e=>eb b o hb e) f0 f1 f3 f4 f5⟩
 self:=λ_ _ _ _ _ st h=>wpAny_pyIter_rangeiter st h
section
variable {X:Cx} {tg:Expr}
theorem zp{s:Shared}{R:It->Hp->Prop}{lo hi:Int}{t u v:Tok}{tk:Nat}(I:Inv X pins σ H s)(h1:-(2^62)<=lo)(h2:lo<2^62)(h3:-(2^62)<=hi)(h4:hi<2^62)
  (q:R (CV lo (hi-lo).toNat) H):wpAny (model X.prog X.w) X.A (pyIter (.ref s.heap.objs.size)) (Jc X pins σ tg R) E {s with heap:=s.heap.push {cls:=.type "range",data:=.fields #[.int lo t,.int hi u,.int 1 v]},toks:=tk}:=by
 refine wpAny_pyIter_range (IsRange.new ..) (small_one h1 h2 h3 h4) ?_;have I1:Inv X pins σ H {s with heap:=s.heap.push {cls:=.type "range",data:=.fields #[.int lo t,.int hi u,.int 1 v]},toks:=tk}:=I.kept λb o e=>JM _ e
 refine⟨(s.heap.push {cls:=.type "range",data:=.fields #[.int lo t,.int hi u,.int 1 v]}).objs.size,[(s.heap.push {cls:=.type "range",data:=.fields #[.int lo t,.int hi u,.int 1 v]}).objs.size],_,_,H,rfl,
  I1.kept (t':=tk) λb o e=>JM _ e,qV _ lo (hi-lo).toNat,?_,λb hb=>?_,q⟩
 ·have e1:lo+((0:Nat):Int)*1=lo:=by simp
  have e2:(((hi-lo).toNat:Nat):Int)-((0:Nat):Int)=Builtin.Range.rangeSize lo hi 1:=by rw[rangeSize_one];split<;>lia
  show IsRangeIter _ _ (lo+((0:Nat):Int)*1) ((((hi-lo).toNat:Nat):Int)-((0:Nat):Int)) 1;rw[e1,e2];exact Kc _ rfl
 ·have e:b=(s.heap.push {cls:=.type "range",data:=.fields #[.int lo t,.int hi u,.int 1 v]}).objs.size:=by simpa using hb
  subst e;exact I1.oP (JS _) (I1.bc.fresh (JS _))
noncomputable def mx(ta:TA):TI:=λσ H R=>ta σ H λvs H1=>∃j:Int,vs=[.int j]/\-(2^62)<=j/\j<2^62/\R (CV 0 j.toNat) H1
theorem vi{a:Expr}{ta:TA}{p pos:Pos}(hg:Gl X "range")(hm:X.mg "range"=none)(ha:PA X [a] ta)(hs:autoParam (starEach [a] X.env=[(false,eval a X.env)]) ℜ0):PI X tg (.Call (.Name "range" p) [a] [] pos) (mx ta):=by
 intro pins s σ H R I h;refine Call_ (ik I hg hm boot_range (Lp (cz (ha pos pins s σ H _ I h) λus s1 hq31=>?_) hs rfl));obtain⟨vs,H1,I1,r1,q1⟩:=hq31;obtain⟨j,e,q1,q2,q⟩:=q1;subst e
 cases r1 with
 |cons r rr =>
  cases rr;obtain⟨t,rfl⟩:=r;exact call_range_1 (zp I1 (by lia) (by lia) q1 q2 (by simpa using q))
noncomputable def EN(wi:TI)(g:TG)(tb:TS):TS:=λD σ H=>wi σ H λJ H1=>∃W:Nat->Nat->St->Hp->Prop,(∃m,W 0 m σ H1)/\∀i m σ H,W i m σ H ->
 (J.stop i H/\D.nx σ H)\/(J.go i H/\∃N:St->Hp->Prop,(∀σ' H',N σ' H'->∃m',m'<m/\W (i+1) m' σ' H')/\∀x H',J.Dy i H x H'->g x σ H' λσ2 H2=>tb {D with nx:=N,ct:=N,bk:=D.nx} σ2 H2)
noncomputable def i_(fp:List Addr)(h:Heap):List (Addr×Obj):=fp.filterMap λb=>(h.get? b).map λo=>(b,o)
theorem dY{o:Obj}(hb:b∈fp)(e:h.get? b=some o):(b,o)∈i_ fp h:=ME.mpr ⟨b,hb,by rw[e];rfl⟩
theorem vn{p:Addr×Obj}(hp:p∈i_ fp h):p.1∈fp/\h.get? p.1=some p.2:=by
 obtain⟨b,hb,e⟩:=ME.mp hp
 cases q:h.get? b with
 |none=>rw[q] at e;cases e
 |some o =>
  rw[q] at e;have e':(b,o)=p:=Option.some.inj e;subst e';exact⟨hb,q⟩
theorem Inv.pinned{s:Shared}(I:Inv X pins σ H s)(hf:∀b∈fp,ml X pins H b)(ho:∀b∈fp,∃o,s.heap.get? b=some o/\∀v,o.data≠.cell v):Inv X (pins++i_ fp s.heap) σ H s:=
 I.nu λp hp=>(K8.mp hp).elim (λz=>I.pin p (Kl _ z)) λz=>by
  obtain⟨hb,e⟩:=vn z;obtain⟨f0,f1,f2,_⟩:=hf p.1 hb;obtain⟨o,e',d⟩:=ho p.1 hb;rw[e] at e';cases e';exact⟨e,f0,f1,f2,d⟩
theorem Inv.gh{pl:List (Addr×Obj)}{s:Shared}(I:Inv X (pins++pl) σ H s):Inv X pins σ H s:=I.nu λp hp=>I.pin p (Kl _ (L3 _ hp))
theorem Fu{iter:Expr}{wi:TI}{g:TG}{pos:Pos}(hp:PassesOwn (model X.prog X.w) X.A X.env X.xe)(hc:X.calm=true)(hi:PI X tg iter wi)(hg:PG X tg g)(hb:qX X body tb)
  (hs:autoParam (∀x,foldedSetIterable iter X.env x=pure x) ℜ3):PS X (.For tg iter body [] pos) (EN wi g tb):=by
 intro pins s σ H D I h;refine wpAny_For (cz (hi pins s σ H _ I h) λv s1 h1=>cz h1 λitv s2 h2=>?_) hs;obtain⟨it,fp,tn,J,H2,e,I2,T,st2,f2,W,⟨m0,w0⟩,turn⟩:=h2;subst e;have stat:∀{H':Hp},(∀b∈fp,H' b=none)->∀b∈fp,ml X pins H' b:=λhn b hb=>⟨hn b hb,(f2 b hb).2⟩;refine codeAny_forLoop_any (λn s'=>∃i σ' H',Inv X pins σ' H' s'/\tn i s'.heap/\(∀b∈fp,H' b=none)/\W i n σ' H') ?_ m0 ⟨0,σ,H2,I2,st2,λb hb=>(f2 b hb).1,w0⟩;rintro n s3 ⟨i,σ3,H3,I3,st3,fr3,w3⟩;rcases turn i n σ3 H3 w3 with ⟨stop,qn⟩|⟨go,N,hN,step⟩
 ·refine LG hp (cz (T.done X rfl rfl rfl hc i pins s3 σ3 H3 X.xe I3 (stat fr3) st3 stop) λr s4 hq33=>?_);obtain⟨hr,I4⟩:=hq33;subst hr;exact Nh ⟨σ3,H3,I4,qn⟩
 ·refine LG hp (cz (T.item X rfl rfl rfl hc i pins s3 σ3 H3 X.xe I3 (stat fr3) st3 go) λr s4 hq34=>?_);obtain⟨u,hr,h4⟩:=hq34;subst hr;refine LG hp (cz h4 λ_ s5 hq35=>?_);obtain⟨x,H5,I5,r5,y5,st5,fr5⟩:=hq35;have I5':=I5.pinned (stat fr5) (T.obj _ _ st5);refine LG hp (cz (hg _ s5 σ3 H5 x u _ I5' r5 (step x H5 y5)) λ_ s6 hq36=>?_);obtain⟨σ6,H6,I6,q6⟩:=hq36;refine LG hp (cz (hb _ s6 σ6 H6 _ I6 q6) λf s7 q7=>?_);have again:∀{σ7:St} {H7:Hp},Inv X (pins++i_ fp s5.heap) σ7 H7 s7->N σ7 H7->∃m,m<n/\∃i σ' H',Inv X pins σ' H' s7/\tn i s7.heap/\(∀b∈fp,H' b=none)/\W i m σ' H':=λ{σ7 H7} I7 n7=>by
   obtain⟨m',hm,w7⟩:=hN σ7 H7 n7;refine⟨m',hm,i+1,σ7,H7,I7.gh,T.keep _ _ _ st5 λb hb o e=>(I7.pin (b,o) (Kl _ (Kl _ (dY hb e)))).1,λb hb=>?_,w7⟩;obtain⟨o,e,d⟩:=T.obj _ _ st5 b hb;exact (I7.pin (b,o) (Kl _ (Kl _ (dY hb e)))).2.1
  cases f with
  |next=>obtain⟨σ7,H7,I7,n7⟩:=q7;exact again I7 n7
  |cont=>obtain⟨σ7,H7,I7,n7⟩:=q7;exact again I7 n7
  |brk=>obtain⟨σ7,H7,I7,q7⟩:=q7;exact⟨σ7,H7,I7.gh,q7⟩
  |ret v=>obtain⟨x7,σ7,H7,I7,r7,q7⟩:=q7;exact⟨x7,σ7,H7,I7.gh,r7,q7⟩
end
theorem yq{K:PySem.W.Frag}{g:TG}(Pv:Nat->St->Hp->Prop)(h0:Pv 0 σ H)(hl:∀i σ H,i<=xs.length->Pv i σ H->cf K H a xs)
  (hs:∀i x σ H,xs[i]?=some x->Pv i σ H->g x σ H λσ2 H2=>tb {D with nx:=Pv (i+1),ct:=Pv (i+1),bk:=D.nx} σ2 H2) (hd:∀σ H,Pv xs.length σ H->D.nx σ H) :
  ∃W:Nat->Nat->St->Hp->Prop,(∃m,W 0 m σ H)/\∀i m σ H,W i m σ H ->
   ((wO K a).stop i H/\D.nx σ H)\/((wO K a).go i H/\∃N:St->Hp->Prop,(∀σ' H',N σ' H'->∃m',m'<m/\W (i+1) m' σ' H')/\∀x H',(wO K a).Dy i H x H'->g x σ H' λσ2 H2=>tb {D with nx:=N,ct:=N,bk:=D.nx} σ2 H2):=by
 refine⟨λi m σ H=>m=xs.length-i/\i<=xs.length/\Pv i σ H,⟨xs.length,by simp,Kh _,h0⟩,?_⟩
 rintro i m σ H ⟨rfl,hi,p⟩;have q:=hl i σ H hi p;by_cases hlt:i<xs.length
 ·refine .inr ⟨⟨xs,xs[i],q,by simp[hlt]⟩,Pv (i+1),λσ' H' p'=>⟨xs.length-(i+1),by lia,rfl,hlt,p'⟩,λx H' y=>?_⟩
  obtain⟨e,y⟩:=y;subst e;exact hs i x σ _ (y xs q) p
 ·have e:i=xs.length:=by lia
  subst e;exact .inl ⟨⟨xs,q,JS _⟩,hd σ H p⟩
theorem B0{K:PySem.W.Frag}{g:TG}(Pv:Nat->St->Hp->Prop)(h0:Pv 0 σ H)(hl:∀i σ H,i<=xs.length->Pv i σ H->bB K H a xs)
  (hs:∀i x σ H,xs[i]?=some x->Pv i σ H->g x σ H λσ2 H2=>tb {D with nx:=Pv (i+1),ct:=Pv (i+1),bk:=D.nx} σ2 H2) (hd:∀σ H,Pv xs.length σ H->D.nx σ H) :
  ∃W:Nat->Nat->St->Hp->Prop,(∃m,W 0 m σ H)/\∀i m σ H,W i m σ H ->
   ((uV K a).stop i H/\D.nx σ H)\/((uV K a).go i H/\∃N:St->Hp->Prop,(∀σ' H',N σ' H'->∃m',m'<m/\W (i+1) m' σ' H')/\∀x H',(uV K a).Dy i H x H'->g x σ H' λσ2 H2=>tb {D with nx:=N,ct:=N,bk:=D.nx} σ2 H2):=by
 refine⟨λi m σ H=>m=xs.length-i/\i<=xs.length/\Pv i σ H,⟨xs.length,by simp,Kh _,h0⟩,?_⟩
 rintro i m σ H ⟨rfl,hi,p⟩;have q:=hl i σ H hi p;by_cases hlt:i<xs.length
 ·refine .inr ⟨⟨xs,xs[i],q,by simp[hlt]⟩,Pv (i+1),λσ' H' p'=>⟨xs.length-(i+1),by lia,rfl,hlt,p'⟩,λx H' y=>?_⟩
  obtain⟨e,y⟩:=y;subst e;exact hs i x σ _ (y xs q) p
 ·have e:i=xs.length:=by lia
  subst e;exact .inl ⟨⟨xs,q,JS _⟩,hd σ H p⟩
theorem w8{lo:Int}{n:Nat}{g:TG}(Pv:Nat->St->Hp->Prop)(h0:Pv 0 σ H)
  (hs:∀i σ H,i<n->Pv i σ H->g (.int (lo+i)) σ H λσ2 H2=>tb {D with nx:=Pv (i+1),ct:=Pv (i+1),bk:=D.nx} σ2 H2) (hd:∀σ H,Pv n σ H->D.nx σ H) :
  ∃W:Nat->Nat->St->Hp->Prop,(∃m,W 0 m σ H)/\∀i m σ H,W i m σ H ->
   ((CV lo n).stop i H/\D.nx σ H)\/((CV lo n).go i H/\∃N:St->Hp->Prop,(∀σ' H',N σ' H'->∃m',m'<m/\W (i+1) m' σ' H')/\∀x H',(CV lo n).Dy i H x H'->g x σ H' λσ2 H2=>tb {D with nx:=N,ct:=N,bk:=D.nx} σ2 H2):=by
 refine⟨λi m σ H=>m=n-i/\i<=n/\Pv i σ H,⟨n,by simp,Kh _,h0⟩,?_⟩
 rintro i m σ H ⟨rfl,hi,p⟩;by_cases hlt:i<n
 ·refine .inr ⟨hlt,Pv (i+1),λσ' H' p'=>⟨n-(i+1),by lia,rfl,hlt,p'⟩,λx H' y=>?_⟩
  obtain⟨e,y⟩:=y;subst e y;exact hs i σ _ hlt p
 ·have e:i=n:=by lia
  subst e;exact .inl ⟨JS _,hd σ H p⟩
abbrev R2:=V->V->Hp->VK->Prop
variable{r:R2}
noncomputable def dc(X:Cx)(f:Value->Value->Sem Value)(r:R2):Prop:=
 ∀(pins:List (Addr×Obj)) (s:Shared) (σ:St) (H:Hp) (x y:V) (v u:Value) (Q:VK),Inv X pins σ H s->RelV x v->RelV y u->r x y H Q ->
  wpAny (model X.prog X.w) X.A (f v u) (EP X pins σ Q) X.xe s
noncomputable def IA(X:Cx)(f:Value->Sem Value)(r:V->Hp->VK->Prop):Prop:=
 ∀(pins:List (Addr×Obj)) (s:Shared) (σ:St) (H:Hp) (x:V) (v:Value) (Q:VK),Inv X pins σ H s->RelV x v->r x H Q ->
  wpAny (model X.prog X.w) X.A (f v) (EP X pins σ Q) X.xe s
noncomputable def bK(X:Cx)(f:Value)(r:List V->Hp->VK->Prop):Prop:=
 ∀(pins:List (Addr×Obj)) (s:Shared) (σ:St) (H:Hp) (xs:List V) (us:List Value) (Q:VK),Inv X pins σ H s->Vals xs us->r xs H Q ->
  wpAny (model X.prog X.w) X.A (call f us) (EP X pins σ Q) X.xe s
noncomputable def Ja(X:Cx)(r:V->Hp->(Bool->Hp->Prop)->Prop):Prop:=
 ∀(pins:List (Addr×Obj)) (s:Shared) (σ:St) (H:Hp) (x:V) (v:Value) (Q:Bool->Hp->Prop),Inv X pins σ H s->RelV x v->r x H Q ->
  wpAny (model X.prog X.w) X.A (truthy v) (TP X pins σ Q) X.xe s
noncomputable def xo(r:R2)(ta tb:TE):TE:=λσ H Q=>ta σ H λx H1=>tb σ H1 λy H2=>r x y H2 Q
noncomputable def GP(r:V->Hp->VK->Prop)(ta:TE):TE:=λσ H Q=>ta σ H λx H1=>r x H1 Q
noncomputable def rI(C:Int->Int->Prop)(g:Int->Int->V):R2:=λx y H Q=>∃i j,x=.int i/\y=.int j/\C i j/\Q (g i j) H
noncomputable def wu(g:Int->Int->V):R2:=λx y H Q=>∃i j,x=.int i/\y=.int j/\Q (g i j) H
noncomputable def rU(g:Int->V):V->Hp->VK->Prop:=λx H Q=>∃i,x=.int i/\Q (g i) H
section
variable {X:Cx} {a b c:Expr} {ta tb tc:TE} {pos:Pos}
theorem FK(ha:PE X a ta)(hb:PE X b tb){s:Shared}{R:V->V->Hp->Prop}(I:Inv X pins σ H s)
  (h:ta σ H λx H1=>tb σ H1 λy H2=>R x y H2)  
  (hf:∀v u s2 x y H2,Inv X pins σ H2 s2->RelV x v->RelV y u->R x y H2->wpAny (model X.prog X.w) X.A (f v u) Q X.xe s2) :
  wpAny (model X.prog X.w) X.A (eval a X.env) (λv s₁=>wpAny (model X.prog X.w) X.A (eval b X.env) (λu s₂=>wpAny (model X.prog X.w) X.A (f v u) Q X.xe s₂) X.xe s₁) X.xe s:=by
 refine cz (ha pins s σ H _ I h) λv s1 hq37=>?_;obtain⟨x,H1,I1,r1,q1⟩:=hq37;refine cz (hb pins s1 σ H1 _ I1 q1) λu s2 hq38=>?_;obtain⟨y,H2,I2,r2,q2⟩:=hq38;exact hf v u s2 x y H2 I2 r1 r2 q2
theorem Hb{op:Operator}(ho:dc X (binaryOp op) r)(ha:PE X a ta)(hb:PE X b tb):PE X (.BinOp a op b pos) (xo r ta tb):=by
 intro pins s σ H Q I h;exact wpAny_BinOp (FK ha hb I h λv u s2 x y H2 I2 rx ry q=>ho pins s2 σ H2 x y v u Q I2 rx ry q)
theorem GX{op:UnaryOp}{r:V->Hp->VK->Prop}(ho:IA X (unaryOp op) r)(ha:PE X a ta):PE X (.UnaryOp op a pos) (GP r ta):=by
 intro pins s σ H Q I h;exact UnaryOp_ (cz (ha pins s σ H _ I h) λv s1 ⟨x,H1,I1,r1,q1⟩=>ho pins s1 σ H1 x v Q I1 r1 q1)
theorem Io{C:Int->Int->Prop}
  (rule:∀(i j:Int) (t u:Tok) (s:Shared) (Q:Value->Shared->Prop) (E:Value->Shared->Prop),C i j->Q (.int (g i j) s.toks) {s with toks:=s.toks+1}->wpAny (model X.prog X.w) X.A (f (.int i t) (.int j u)) Q E s) :
  dc X f (rI C λi j=>.int (g i j)):=by
 intro pins s σ H x y v u Q I rx ry h;obtain⟨i,j,rfl,rfl,hc,q⟩:=h;obtain⟨t,rfl⟩:=rx;obtain⟨t',rfl⟩:=ry;exact rule i j t t' s _ _ hc ⟨.int (g i j),H,I.tok _,⟨_,rfl⟩,q⟩
theorem GL
  (rule:∀(i j:Int) (t u:Tok) (s:Shared) (Q:Value->Shared->Prop) (E:Value->Shared->Prop),Q (.int (g i j) s.toks) {s with toks:=s.toks+1}->wpAny (model X.prog X.w) X.A (f (.int i t) (.int j u)) Q E s) :
  dc X f (wu λi j=>.int (g i j)):=by
 intro pins s σ H x y v u Q I rx ry h;obtain⟨i,j,rfl,rfl,q⟩:=h;obtain⟨t,rfl⟩:=rx;obtain⟨t',rfl⟩:=ry;exact rule i j t t' s _ _ ⟨.int (g i j),H,I.tok _,⟨_,rfl⟩,q⟩
theorem BY{g:Int->Int->Bool}
  (rule:∀(i j:Int) (t u:Tok) (s:Shared) (Q:Value->Shared->Prop) (E:Value->Shared->Prop),Q (.bool (g i j)) s->wpAny (model X.prog X.w) X.A (f (.int i t) (.int j u)) Q E s) :
  dc X f (wu λi j=>.bl (g i j)):=by
 intro pins s σ H x y v u Q I rx ry h;obtain⟨i,j,rfl,rfl,q⟩:=h;obtain⟨t,rfl⟩:=rx;obtain⟨t',rfl⟩:=ry;exact rule i j t t' s _ _ ⟨.bl (g i j),H,I,rfl,q⟩
noncomputable def Ji(i j:Int):Prop:=0<j/\j<1073741824
noncomputable def vF(i j:Int):Prop:=0<=j/\j<=1000000/\i.natAbs<2^64
noncomputable def yb(i j:Int):Prop:=(-(2^64)<i/\i<2^64)\/(-(2^64)<j/\j<2^64)
theorem yb.ok{i j:Int}(h:yb i j):IntMulOk i j:=by
 rcases h with ⟨h1,h2⟩|⟨h1,h2⟩
 ·exact .of_left (intBits_le_64 h1 h2)
 ·exact .of_right (intBits_le_64 h1 h2)
theorem yf:dc X (binaryOp .Add) (wu λi j=>.int (i+j)):=GL λ_ _ _ _ _ _ _ q=>add_int q
theorem dI:dc X (binaryOp .Sub) (wu λi j=>.int (i-j)):=GL λ_ _ _ _ _ _ _ q=>sub_int q
theorem FJ:dc X (binaryOp .Mult) (rI yb λi j=>.int (i*j)):=Io λ_ _ _ _ _ _ _ hc q=>mul_int q hc.ok
theorem oz:dc X (binaryOp .FloorDiv) (rI Ji λi j=>.int (i / j)):=Io λi j _ _ _ _ _ hc q=>by
 have h1:(0:Int)<j:=hc.1;have h2:j<1073741824:=hc.2;exact floordiv_int (by lia) (by rw[Int.fdiv_eq_ediv_of_nonneg i (by lia)];exact q) (.inl (PyProof.noPylong_small (by lia)))
theorem cU:dc X (binaryOp .Mod) (rI (λ_ j=>0<j) λi j=>.int (i % j)):=Io λi j _ _ _ _ _ hc q=>by
 have h1:(0:Int)<j:=hc;exact mod_int' (by lia) (by rw[Int.fmod_eq_emod_of_nonneg i (by lia)];exact q)
theorem sL:dc X (binaryOp .Pow) (rI vF λi j=>.int (i^j.toNat)):=Io λ_ _ _ _ _ _ _ hc q=>pow_int_small hc.1 hc.2.1 hc.2.2 q
theorem E8:dc X (binaryOp .LShift) (rI vF λi j=>.int (i*2^j.toNat)):=Io λ_ _ _ _ _ _ _ hc q=>lshift_int_small hc.1 hc.2.1 hc.2.2 q
theorem JA{f:Value->Sem Value}{g:Int->Int}
  (rule:∀(i:Int) (t:Tok) (s:Shared) (Q:Value->Shared->Prop) (E:Value->Shared->Prop),Q (.int (g i) s.toks) {s with toks:=s.toks+1}->wpAny (model X.prog X.w) X.A (f (.int i t)) Q E s) :
  IA X f (rU λi=>.int (g i)):=by
 intro pins s σ H x v Q I rx h;obtain⟨i,rfl,q⟩:=h;obtain⟨t,rfl⟩:=rx;exact rule i t s _ _ ⟨.int (g i),H,I.tok _,⟨_,rfl⟩,q⟩
theorem fV:IA X (unaryOp .USub) (rU λi=>.int (-i)):=JA λ_ _ _ _ _ q=>neg_int q
end
noncomputable def Ht:V->V->Bool
 |.aU,.aU=>true|.aU,.int _=>true|.int _,.aU=>true|.aU,.bl _=>true|.bl _,.aU=>true|.aU,.str _=>true|.str _,.aU=>true
 |.int _,.int _=>true|.bl _,.bl _=>true|.str _,.str _=>true|.qK _,.qK _=>true
 |.int _,.str _=>true|.str _,.int _=>true|.bl _,.str _=>true|.str _,.bl _=>true
 |_,_=>false
noncomputable def Dw:R2:=λx y H Q=>Ht x y=true/\Q (.bl (decide (x=y))) H
noncomputable def Hd:R2:=λx y H Q=>Ht x y=true/\Q (.bl (!decide (x=y))) H
theorem tQ{i j:Int}:decide (V.int i=V.int j)=(i == j):=by
 rw[LZ];simp
theorem Ab{i j:Bool}:decide (V.bl i=V.bl j)=(i == j):=by
 rw[LZ];simp
theorem uM{i j:Str}:decide (V.str i=V.str j)=(i == j):=by
 rw[LZ];simp
theorem uN{i j:Array UInt8}:decide (V.qK i=V.qK j)=(i.toList == j.toList):=by
 rw[LZ];cases i;cases j;simp
section
variable {X:Cx} {a b c:Expr} {ta tb tc:TE} {pos:Pos}
theorem bj{s:Shared}{Q:VK}{k k':Bool}(I:Inv X pins σ H s)(q:Q (.bl k) H)(e:k=k'):EP X pins σ Q (.bool k') s:=by
 subst e;exact⟨.bl k,H,I,rfl,q⟩
theorem DH:dc X (compareOp .Eq) Dw:=by
 intro pins s σ H x y v u Q I rx ry h;obtain⟨hs,q⟩:=h
 cases x with
 |aU =>
  cases rx
  cases y with
  |aU=>cases ry;exact PySem.EqNone.eq_none_none (bj I q (by simp))
  |bl j=>cases ry;exact PySem.EqNone.eq_none_bool (bj I q (by simp))
  |int j=>obtain⟨t',rfl⟩:=ry;exact PySem.EqNone.eq_none_int (bj I q (by simp))
  |str j=>obtain⟨t',rfl⟩:=ry;exact PySem.EqNone.eq_none_str (bj I q (by simp))
  |_=>exact absurd (show false=true from hs) JZ
 |bl i =>
  cases rx
  cases y with
  |aU=>cases ry;exact PySem.EqNone.eq_bool_none (bj I q (by simp))
  |bl j=>cases ry;exact eq_bool (bj I q Ab)
  |str j=>obtain⟨t',rfl⟩:=ry;exact PySem.EqMixed.eq_bool_str (bj I q (by simp))
  |_=>exact absurd (show false=true from hs) JZ
 |int i =>
  obtain⟨t,rfl⟩:=rx
  cases y with
  |aU=>cases ry;exact PySem.EqNone.eq_int_none (bj I q (by simp))
  |int j=>obtain⟨t',rfl⟩:=ry;exact eq_int (bj I q tQ)
  |str j=>obtain⟨t',rfl⟩:=ry;exact PySem.EqMixed.eq_int_str (bj I q (by simp))
  |_=>exact absurd (show false=true from hs) JZ
 |str i =>
  obtain⟨t,rfl⟩:=rx
  cases y with
  |aU=>cases ry;exact PySem.EqNone.eq_str_none (bj I q (by simp))
  |bl j=>cases ry;exact PySem.EqMixed.eq_str_bool (bj I q (by simp))
  |int j=>obtain⟨t',rfl⟩:=ry;exact PySem.EqMixed.eq_str_int (bj I q (by simp))
  |str j=>obtain⟨t',rfl⟩:=ry;exact eq_str (bj I q uM)
  |_=>exact absurd (show false=true from hs) JZ
 |qK i =>
  obtain⟨t,rfl⟩:=rx
  cases y with
  |qK j=>obtain⟨t',rfl⟩:=ry;exact W.eq_bytes (bj I q uN)
  |_=>exact absurd (show false=true from hs) JZ
 |_=>cases y<;>exact absurd (show false=true from hs) JZ
theorem DF:dc X (compareOp .NotEq) Hd:=by
 intro pins s σ H x y v u Q I rx ry h;obtain⟨hs,q⟩:=h
 cases x with
 |aU =>
  cases rx
  cases y with
  |aU=>cases ry;exact PySem.EqNone.ne_none_none (bj I q (by simp))
  |bl j=>cases ry;exact PySem.EqNone.ne_none_bool (bj I q (by simp))
  |int j=>obtain⟨t',rfl⟩:=ry;exact PySem.EqNone.ne_none_int (bj I q (by simp))
  |str j=>obtain⟨t',rfl⟩:=ry;exact PySem.EqNone.ne_none_str (bj I q (by simp))
  |_=>exact absurd (show false=true from hs) JZ
 |bl i =>
  cases rx
  cases y with
  |aU=>cases ry;exact PySem.EqNone.ne_bool_none (bj I q (by simp))
  |bl j=>cases ry;exact ne_bool (bj I q (K7 not Ab))
  |str j=>obtain⟨t',rfl⟩:=ry;exact PySem.EqMixed.ne_bool_str (bj I q (by simp))
  |_=>exact absurd (show false=true from hs) JZ
 |int i =>
  obtain⟨t,rfl⟩:=rx
  cases y with
  |aU=>cases ry;exact PySem.EqNone.ne_int_none (bj I q (by simp))
  |int j=>obtain⟨t',rfl⟩:=ry;exact ne_int (bj I q (K7 not tQ))
  |str j=>obtain⟨t',rfl⟩:=ry;exact PySem.EqMixed.ne_int_str (bj I q (by simp))
  |_=>exact absurd (show false=true from hs) JZ
 |str i =>
  obtain⟨t,rfl⟩:=rx
  cases y with
  |aU=>cases ry;exact PySem.EqNone.ne_str_none (bj I q (by simp))
  |bl j=>cases ry;exact PySem.EqMixed.ne_str_bool (bj I q (by simp))
  |int j=>obtain⟨t',rfl⟩:=ry;exact PySem.EqMixed.ne_str_int (bj I q (by simp))
  |str j=>obtain⟨t',rfl⟩:=ry;exact ne_str (bj I q (K7 not uM))
  |_=>exact absurd (show false=true from hs) JZ
 |qK i =>
  obtain⟨t,rfl⟩:=rx
  cases y with
  |qK j=>obtain⟨t',rfl⟩:=ry;exact W.ne_bytes (bj I q (K7 not uN))
  |_=>exact absurd (show false=true from hs) JZ
 |_=>cases y<;>exact absurd (show false=true from hs) JZ
theorem fA:dc X (compareOp .Lt) (wu λi j=>.bl (decide (i<j))):=BY λ_ _ _ _ _ _ _ q=>lt_int q
theorem Hc:dc X (compareOp .LtE) (wu λi j=>.bl (decide (i<=j))):=BY λ_ _ _ _ _ _ _ q=>le_int q
theorem tE:dc X (compareOp .Gt) (wu λi j=>.bl (decide (j<i))):=BY λ_ _ _ _ _ _ _ q=>gt_int q
theorem sZ:dc X (compareOp .GtE) (wu λi j=>.bl (decide (j<=i))):=BY λ_ _ _ _ _ _ _ q=>ge_int q
theorem vK:dc X (compareOp .In) (λx y H Q=>∃i j,x=.str i/\y=.str j/\Q (.bl (!(Builtin.Str.occurrences j i 0 j.length 1).isEmpty)) H):=by
 intro pins s σ H x y v u Q I rx ry h;obtain⟨i,j,rfl,rfl,q⟩:=h;obtain⟨t,rfl⟩:=rx;obtain⟨t',rfl⟩:=ry;exact in_str (bj I q rfl)
theorem dH:dc X (compareOp .Is) (λx y H Q=>y=.aU/\Q (.bl (decide (x=.aU))) H):=by
 intro pins s σ H x y v u Q I rx ry h;obtain⟨rfl,q⟩:=h;cases ry;refine is_none_gen (bj I q ?_)
 cases x<;>first
  | (cases rx;rfl)
  | (obtain⟨t,rfl⟩:=rx;rfl)
theorem iN:dc X (compareOp .IsNot) (λx y H Q=>y=.aU/\Q (.bl (!decide (x=.aU))) H):=by
 intro pins s σ H x y v u Q I rx ry h;obtain⟨rfl,q⟩:=h;cases ry;refine isnot_none_gen (bj I q ?_)
 cases x<;>first
  | (cases rx;rfl)
  | (obtain⟨t,rfl⟩:=rx;rfl)
theorem dc.or{r':R2}(h:dc X f r)(h':dc X f r'):dc X f (λx y H Q=>r x y H Q\/r' x y H Q):=by
 intro pins s σ H x y v u Q I rx ry q;rcases q with q|q
 ·exact h pins s σ H x y v u Q I rx ry q
 ·exact h' pins s σ H x y v u Q I rx ry q
theorem BD{op:CmpOp}(ho:dc X (compareOp op) r)(ha:PE X a ta)(hb:PE X b tb)(hm:behindInMarks op b=false):PE X (.Compare a [op] [b] pos) (xo r ta tb):=by
 intro pins s σ H Q I h;exact wpAny_Compare1 (FK ha hb I h λv u s2 x y H2 I2 rx ry q=>ho pins s2 σ H2 x y v u Q I2 rx ry q) hm
noncomputable def qi(t:TE):TT:=λσ H Q=>t σ H λx H'=>∃k,x=.bl k/\Q k H'
theorem Bd{op:CmpOp}(ho:dc X (compareOp op) r)(ha:PE X a ta)(hb:PE X b tb)(hm:behindInMarks op b=false):PT X (.Compare a [op] [b] pos) (qi (xo r ta tb)):=by
 intro pins s σ H Q I h;refine wpAny_isTrue_Compare1 (cz (ha pins s σ H _ I h) λv s1 ⟨x,H1,I1,r1,q1⟩=>cz (hb pins s1 σ H1 _ I1 q1) λu s2 ⟨y,H2,I2,r2,q2⟩=>
  cz (ho pins s2 σ H2 x y v u _ I2 r1 r2 q2) λc s3 ⟨z,H3,I3,r3,k,e,q3⟩=>?_) hm
 subst e;cases r3;exact NK ⟨H3,I3,q3⟩
noncomputable def ka(r r':R2)(ta tb tc:TE):TE:=λσ H Q=>ta σ H λx H1=>tb σ H1 λy H2=>r x y H2 λz H3=>∃k,z=.bl k /\
 (if k=true then tc σ H3 λw' H4=>r' y w' H4 Q else Q (.bl false) H3)
theorem zo{op op':CmpOp}{r':R2}(ho:dc X (compareOp op) r)(ho':dc X (compareOp op') r')(ha:PE X a ta)(hb:PE X b tb)(hc:PE X c tc)
  (hm:autoParam (lastMarks [op,op'] [b,c]=false) ℜ5):PE X (.Compare a [op,op'] [b,c] pos) (ka r r' ta tb tc):=by
 intro pins s σ H Q I h;refine Compare_chain (cz (ha pins s σ H _ I h) λv s1 ⟨x,H1,I1,r1,q1⟩=>chain_link (cz (hb pins s1 σ H1 _ I1 q1) λu s2 ⟨y,H2,I2,r2,q2⟩=>
  cz (ho pins s2 σ H2 x y v u _ I2 r1 r2 q2) λd s3 ⟨z,H3,I3,r3,k,e,q3⟩=>?_)) hm
 subst e;cases r3;refine NK ?_
 cases k with
 |false=>exact ite_ff ⟨.bl false,H3,I3,rfl,q3⟩
 |true=>exact ite_tt (chain_last (cz (hc pins s3 σ H3 _ I3 q3) λw' s4 ⟨z',H4,I4,r4,q4⟩=>ho' pins s4 σ H4 y z' u w' Q I4 r2 r4 q4))
noncomputable def zU(K:W.Frag)(x:V)(H:Hp)(k:Bool):Prop:=
 match x with
 |.aU=>k=false
 |.bl b=>k=b
 |.int i=>k=(i != 0)
 |.str y=>y.length<=sizeLine/\k=((y.length:Int) != 0)
 |.qK y=>y.size<=sizeLine/\k=((y.size:Int) != 0)
 |.ref p=>(∃xs,cf K H p xs/\k=!xs.isEmpty)\/(∃xs,bB K H p xs/\k=!xs.isEmpty)\/∃kvs,H p=some (.dK kvs)/\k=!kvs.isEmpty
 |_=>False
theorem rB{κ:Type}{kvs:List (κ×V)}{vs:List (κ×Value)}(r:KV kvs vs):(!vs.isEmpty)=!kvs.isEmpty:=by
 cases r<;>rfl
theorem kX{its:List Value}(r:Vals xs its):(!its.toArray.isEmpty)=!xs.isEmpty:=by
 cases r<;>simp
theorem iR:(sizeLine:Nat)<2^63:=by rw[Lu];decide
theorem ED:Ja X (λx H Q=>∃k,zU X.K x H k/\Q k H):=by
 intro pins s σ H x v Q I rx h;obtain⟨k,e,q⟩:=h;have hl:=iR;have hs:sizeLine=16777216:=Lu
 cases x with
 |aU =>
  cases rx;have e':k=false:=e;subst e';exact truthy_none ⟨H,I,q⟩
 |bl b =>
  cases rx;have e':k=b:=e;subst e';exact NK ⟨H,I,q⟩
 |int i =>
  obtain⟨t,rfl⟩:=rx;have e':k=(i != 0):=e;subst e';exact PySem.P.truthy_int ⟨H,I,q⟩
 |str y =>
  obtain⟨t,rfl⟩:=rx;obtain⟨hy,e'⟩:y.length<=sizeLine/\k=((y.length:Int) != 0):=e;subst e';exact PySem.P.truthy_str (by lia) ⟨H,I.tok _,q⟩
 |qK y =>
  obtain⟨t,rfl⟩:=rx;obtain⟨hy,e'⟩:y.size<=sizeLine/\k=((y.size:Int) != 0):=e;subst e';exact W.truthy_bytes (by lia) ⟨H,I.tok _,q⟩
 |ref p =>
  cases rx;have e':(∃xs,cf X.K H p xs/\k=!xs.isEmpty)\/(∃xs,bB X.K H p xs/\k=!xs.isEmpty)\/∃kvs,H p=some (.dK kvs)/\k=!kvs.isEmpty:=e;rcases e' with ⟨xs,hx,e'⟩|⟨xs,hx,e'⟩|⟨kvs,hx,e'⟩
  ·subst e';obtain⟨its,r,pl,hz⟩:=I.list hx;have hlen:=r.length;exact wpAny_truthy_list pl.isList (by simp only[JP];lia) ⟨H,I.tok _,by rw[kX r];exact q⟩
  ·subst e';obtain⟨its,r,pl,hz⟩:=I.tuple hx;have hlen:=r.length;exact truthy_tuple pl (by simp only[JP];lia) ⟨H,I.tok _,by rw[kX r];exact q⟩
  ·subst e';obtain⟨hz,hS,vs,r,m⟩:kvs.length<=sizeLine/\(p == sysModules)=false/\∃vs,KV kvs vs/\s.heap.DictOf (cy X.prog X.w) p vs:=I.bc p _ hx;have hlen:kvs.length=vs.length:=Paired.length r;exact wpAny_truthy_dict hS m (by lia) ⟨H,I.tok _,by rw[rB r];exact q⟩
 |_=>exact (show False from e).elim
theorem yd(ha:PE X a ta)(he:∀whole,isTrue a X.env whole=(do let v <- whole;standAt a.pos;holding [v] (truthy v))):
  PT X a (λσ H Q=>ta σ H λx H'=>∃k,zU X.K x H' k/\Q k H'):=by
 intro pins s σ H Q I h;exact isTrue_plain (cz (ha pins s σ H _ I h) λv s1 ⟨x,H1,I1,r1,q1⟩=>ED pins s1 σ H1 x v Q I1 r1 q1) (he _)
theorem lB:dc X (binaryOp .Add) (λx y H Q=>∃i j,x=.str i/\y=.str j/\i.length+j.length<=sizeLine/\Q (.str (i++j)) H):=by
 intro pins s σ H x y v u Q I rx ry h;obtain⟨i,j,rfl,rfl,hz,q⟩:=h;obtain⟨t,rfl⟩:=rx;obtain⟨t',rfl⟩:=ry;exact add_str (λt' tk=>⟨.str (i++j),H,I.tok _,⟨_,rfl⟩,q⟩) hz
theorem vals1{x:V}(r:Vals [x] us):∃u,us=[u]/\RelV x u:=by
 cases r with
 |cons r1 r2=>cases r2;exact⟨_,rfl,r1⟩
theorem vals2{x y:V}(r:Vals [x,y] us):∃u w',us=[u,w']/\RelV x u/\RelV y w':=by
 cases r with
 |cons r1 r2 =>
  cases r2 with
  |cons r3 r4=>cases r4;exact⟨_,_,rfl,r1,r3⟩
theorem xZ:bK X (.builtin "abs") (λxs H Q=>∃i,xs=[.int i]/\Q (.int (if i<0 then -i else i)) H):=by
 intro pins s σ H xs us Q I r h;obtain⟨i,rfl,q⟩:=h;obtain⟨u,rfl,t,rfl⟩:=vals1 r;exact call_abs_int λu tk=>⟨.int (if i<0 then -i else i),H,I.tok _,⟨_,rfl⟩,q⟩
theorem v_(hc:X.calm=true):bK X (.builtin "min") (λxs H Q=>∃i j,xs=[.int i,.int j]/\Q (.int (if j<i then j else i)) H):=by
 intro pins s σ H xs us Q I r h;obtain⟨i,j,rfl,q⟩:=h;obtain⟨u,w',rfl,⟨t,rfl⟩,⟨t',rfl⟩⟩:=vals2 r;refine min_two_ints (I.ok.hd hc) λh' tk k=>⟨_,H,I.kept k,?_,q⟩;by_cases hj:j<i
 ·rw[JQ hj,JQ hj];exact⟨_,rfl⟩
 ·rw[JN hj,JN hj];exact⟨_,rfl⟩
theorem mG:bK X (.type "int") (λxs H Q=>(∃i,xs=[.int i]/\Q (.int i) H)\/∃k,xs=[.bl k]/\Q (.int (if k then 1 else 0)) H):=by
 intro pins s σ H xs us Q I r h;rcases h with ⟨i,rfl,q⟩|⟨k,rfl,q⟩
 ·obtain⟨u,rfl,t,rfl⟩:=vals1 r;exact call_int_int ⟨.int i,H,I,⟨_,rfl⟩,q⟩
 ·obtain⟨u,rfl,r1⟩:=vals1 r;cases r1;exact call_int_bool ⟨.int (if k then 1 else 0),H,I.tok _,⟨_,rfl⟩,q⟩
theorem nX:bK X (.type "str") (λxs H Q=>∃i,xs=[.int i]/\i.natAbs.log2<1920/\Q (.str (toString i)) H):=by
 intro pins s σ H xs us Q I r h;obtain⟨i,rfl,hz,q⟩:=h;obtain⟨u,rfl,t,rfl⟩:=vals1 r;exact PySem.P.str_of_int hz ⟨.str _,H,I.tok _,⟨_,rfl⟩,q⟩
noncomputable def Ih(K:W.Frag)(x:V)(H:Hp)(n:Nat):Prop:=
 match x with
 |.str y=>y.length<=sizeLine/\n=y.length
 |.qK y=>y.size<=sizeLine/\n=y.size
 |.ref p=>(∃xs,cf K H p xs/\n=xs.length)\/∃xs,bB K H p xs/\n=xs.length
 |_=>False
theorem i4:bK X (.builtin "len") (λxs H Q=>∃x n,xs=[x]/\Ih X.K x H n/\Q (.int n) H):=by
 intro pins s σ H xs us Q I r h;obtain⟨x,n,rfl,e,q⟩:=h;obtain⟨u,rfl,rx⟩:=vals1 r;have hl:=iR;have hs:sizeLine=16777216:=Lu
 cases x with
 |str y =>
  obtain⟨t,rfl⟩:=rx;obtain⟨hy,e'⟩:y.length<=sizeLine/\n=y.length:=e;subst e';exact len_str (by lia) ⟨.int _,H,I.tok _,⟨_,rfl⟩,q⟩
 |qK y =>
  obtain⟨t,rfl⟩:=rx;obtain⟨hy,e'⟩:y.size<=sizeLine/\n=y.size:=e;subst e';exact W.len_bytes (by lia) ⟨.int _,H,I.tok _,⟨_,rfl⟩,q⟩
 |ref p =>
  cases rx;have e':(∃xs,cf X.K H p xs/\n=xs.length)\/∃xs,bB X.K H p xs/\n=xs.length:=e;rcases e' with ⟨xs,hx,e'⟩|⟨xs,hx,e'⟩
  ·subst e';obtain⟨its,r',pl,hz⟩:=I.list hx;have hlen:=r'.length;exact Calls.call_len_list pl.isList (by simp only[JP];lia) ⟨.int xs.length,H,I.tok _,⟨_,by simp only[JP];rw[hlen]⟩,q⟩
  ·subst e';obtain⟨its,r',pl,hz⟩:=I.tuple hx;have hlen:=r'.length;exact len_tuple pl (by simp only[JP];lia) ⟨.int xs.length,H,I.tok _,⟨_,by simp only[JP];rw[hlen]⟩,q⟩
 |_=>exact (show False from e).elim
end
structure rp (h:Heap) (x dx C:Addr) (mA:Str->Option Value):Prop where
 obj:h.get? x=some (W.instObj C dx)
 ns:h.Ns1 dx mA
 ne:dx≠x
theorem vJ{dx:Addr}(n:h.Ns1 dx mA):∃od,h.get? dx=some od/\∀name,W.lookIn name od=some (mA name):=by
 obtain⟨o,es,ep,ho,hd,hk,_,hm⟩:=n;refine⟨o,ho,λname=>?_⟩;have e:=hm name;unfold nsFind findBy at e;rw[<- Array.find?_toList] at e;unfold W.lookIn;rw[hd];dsimp only;split
 ·rename_i y q;rw[q] at e;exact K7 some e
 ·rename_i q;rw[q] at e;have a:es.toList.any (·.refKey)=false:=by
   rw[List.any_eq_false];intro y hy;obtain⟨z,t,hkey⟩:=hk y (Array.mem_toList_iff.mp hy);simp[DictEntry.refKey,hkey]
  have a':¬ es.toList.any (·.refKey)=true:=by rw[a];exact JZ
  rw[JN a'];exact K7 some e
theorem rp.look{x dx:Addr}(I:rp h x dx C mA):∃od,W.InstAt h x (W.instObj C dx) C (some od)/\∀name,W.lookIn name od=some (mA name):=
 let ⟨od,ho,hl⟩:=vJ I.ns
 ⟨od,⟨I.obj,rfl,rfl,ho⟩,hl⟩
section
variable {prog:Program} {w:World} {A:Around} {E:Value->Shared->Prop} {s:Shared} {K:W.Frag} {x dx C f:Addr} {mA:Str->Option Value} {name:Str} {v:Value}
theorem get_map{expr:Bool}(X:K.In s.heap)(I:rp s.heap x dx C mA)(hg:W.plainGet K C name=true)(hh:W.hasDictIn K C=true)
  (ha:W.findIn K (.ref C) name=some none) (hv:mA name=some v) (hv':W.handedIn v=true) (h:Q v {s with toks:=s.toks+1}) :
  wpAny (model prog w) A (getAttr (.ref x) name expr) Q E s:=by
 obtain⟨od,J,hl⟩:=I.look;exact W.get_value X J (OK hg).1 (W.findObj_own hh ha rfl (by rw[hl,hv])) hv' h
theorem zy{Q:Value×List Value->Shared->Prop}(X:K.In s.heap)(I:rp s.heap x dx C mA)(hg:W.plainGet K C name=true)
  (hf:W.findIn K (.ref C) name=some (some (.ref f))) (ht:W.isFn K (.ref f)=true) (hv:mA name=none) (h:Q (.ref f,[.ref x]) s) :
  wpAny (model prog w) A (getMethod (.ref x) name pl) Q E s:=by
 obtain⟨od,J,hl⟩:=I.look;exact W.method_fn X J (OK hg).1 (OK hg).2 hf (Ms.mp ht) (by show (W.lookIn name od).map (·.isSome)=some false;rw[hl,hv];rfl) h
theorem Bg{ns:List Str}{Q:Unit->Shared->Prop}(X:K.In s.heap)(I:rp s.heap x dx C mA)
  (hs:W.findIn K (.ref C) "__setattr__"=some (some (.builtin "object.__setattr__"))) (hp:W.plainOver K C=true) (ht:W.takerIn K C name=some none) (hh:W.hasDictIn K C=true)
  (hw:PySem.Within mA ns) (hsz:ns.length<=sizeLine)
  (h:∀h',rp h' x dx C (λy=>if y=name then some v else mA y)->Heap.SameBut dx s.heap h'->Q () {s with heap:=h',toks:=s.toks+2}) :
  wpAny (model prog w) A (setAttr (.ref x) name v) Q E s:=by
 obtain⟨od,J,hl⟩:=I.look;refine W.set_plain X J hs (W.osa_open (s:={s with toks:=s.toks+1}) (r:=none) X J hp ht λb=>?_)
 obtain⟨cd,hc,hd'⟩:=W.any_some hh;have hx:s.heap.get? x=some ⟨.ref C,some dx,.plain,#[]⟩:=I.obj;refine JJ (JV (JJ (JJ (wpAny_loadPart hx (JJ (W.Looks.here (s:={s with toks:=s.toks+1}) (W.looks_clsIn X hc) ?_))))))
 rw[hd'];refine JV (a:=some dx) (JJ (JV (JJ ?_)));refine wpAny_nsSet1 (s:={s with toks:=s.toks+1}) I.ns λh' hn2 hs2=>?_
 obtain⟨oD,esD,epD,hoD,hdD,hcD⟩:=hn2.count (PySem.Within.cons name v hw);refine JJ (wpAny_lookBehind hoD (by rw[hdD];exact pastItsLine_dict (JX hcD (by rw[J_];lia))) ?_)
 exact JV (h _ ⟨(hs2.2 _ (Ll I.ne)).trans I.obj,hn2,I.ne⟩ hs2)
theorem Af{R:Result->Shared->Prop}{vs:List Value}(X:K.In s.heap)(hm:W.makesIn K C=true)
  (hi:W.findIn K (.ref C) "__init__"=some (some (.ref f))) (hf:W.typeIn K (.ref f)=some (.type "function"))
  (h:codeAny (model prog w) (A.under (.builtin "type.__call__" ⟨.ref C::vs,kw⟩)) (.call (.ref f) ⟨.ref (s.heap.objs.size+1)::vs,kw⟩) (W.InitBack (s.heap.objs.size+1) R)
   {s with heap:=(s.heap.push W.emptyDict).push (W.instObj C s.heap.objs.size)}) :
  codeAny (model prog w) A (.call (.ref C) ⟨vs,kw⟩) R s:=by
 obtain⟨hh,g,d,t,os⟩:=s;exact W.make_core (W.makes_of X hm) (W.looks_findIn X hi) (λself=>W.bind_fn X self hf) (.inl rfl) h
end
noncomputable def cT(f:Str)(v:V):List (Str×V)->List (Str×V)
 |[]=>[(f,v)]
 | (g,x)::r=>if g=f then (g,v)::r else (g,x)::cT f v r
theorem jw(f g:Str)(v:V):∀fs:List (Str×V),(cT f v fs).lookup g=if g=f then some v else fs.lookup g
 |[]=>by
  show List.lookup g [(f,v)]=_;by_cases h:g=f
  ·have hb:(g == f)=true:=Ms.mpr h;simp only[List.lookup,hb,JQ h]
  ·have hb:(g == f)=false:=Kv.mpr h;simp only[List.lookup,hb,JN h]
 | (k,x)::r=>by
  have ih:=jw f g v r;rw[show cT f v ((k,x)::r)=(if k=f then (k,v)::r else (k,x)::cT f v r) from rfl]
  by_cases hk:k=f
  ·rw[JQ hk];by_cases h:g=k
   ·have hb:(g == k)=true:=Ms.mpr h;simp only[List.lookup,hb,JQ (h.trans hk)]
   ·have hb:(g == k)=false:=Kv.mpr h;simp only[List.lookup,hb,JN (λe:g=f=>h (e.trans hk.symm))]
  ·rw[JN hk];by_cases h:g=k
   ·have hb:(g == k)=true:=Ms.mpr h;simp only[List.lookup,hb,JN (λe:g=f=>hk (h.symm.trans e))]
   ·have hb:(g == k)=false:=Kv.mpr h;simp only[List.lookup,hb];exact ih
theorem jd(f:Str)(v:V):∀fs:List (Str×V),f∈(cT f v fs).map (·.1)/\∀g,g∈fs.map (·.1)->g∈(cT f v fs).map (·.1)
 |[]=>⟨by simp[cT],λg h=>by simp at h⟩
 | (k,x)::r=>by
  obtain⟨i1,i2⟩:=jd f v r;rw[show cT f v ((k,x)::r)=(if k=f then (k,v)::r else (k,x)::cT f v r) from rfl]
  by_cases hk:k=f
  ·rw[JQ hk];subst hk;exact⟨by simp,λg h=>by simpa using h⟩
  ·rw[JN hk];refine⟨?_,λg h=>?_⟩
   ·rw[Ku];exact JT _ i1
   ·rw[Ku] at h ⊢;rcases JR.mp h with e|e
    ·exact JR.mpr (.inl e)
    ·exact JT _ (i2 g e)
theorem ju(f:Str)(v:V):∀fs:List (Str×V),(cT f v fs).length<=fs.length+1
 |[]=>by simp[cT]
 | (k,x)::r=>by
  have ih:=ju f v r;rw[show cT f v ((k,x)::r)=(if k=f then (k,v)::r else (k,x)::cT f v r) from rfl]
  by_cases hk:k=f
  ·rw[JQ hk,J_,J_];lia
  ·rw[JN hk,J_,J_];lia
theorem gZ.some_of{v:V}{o:Option Value}(r:gZ (some v) o):∃u,o=some u/\RelV v u:=by
 cases o with
 |none=>exact (show False from r).elim
 |some u=>exact⟨u,rfl,r⟩
theorem gZ.none_of{o:Option Value}(r:gZ none o):o=none:=by
 cases o with
 |none=>rfl
 |some u=>exact (show False from r).elim
theorem vm{v:V}(r:RelV v u):W.handedIn u=true:=by
 cases v with
 |aU=>cases (show u=Value.none from r);rfl
 |bl b=>cases (show u=Value.bool b from r);rfl
 |int i=>obtain⟨t,e⟩:=(show ∃t,u=Value.int i t from r);cases e;rfl
 |str x=>obtain⟨t,e⟩:=(show ∃t,u=Value.str x t from r);cases e;rfl
 |qK b=>obtain⟨t,e⟩:=(show ∃t,u=Value.bytes b t from r);cases e;rfl
 |ID b=>obtain⟨t,e⟩:=(show ∃t,u=Value.float b t from r);cases e;rfl
 |ref a=>cases (show u=Value.ref a from r);rfl
 |ty n=>cases (show u=Value.type n from r);rfl
section
variable {P:Program} {w:World} {H H':Hp} {h h':Heap} {a C dx:Addr} {fs fs':List (Str×V)}
theorem nF(bc:iy P w H h)(e:H a=some (.ins C dx fs)):∃mA,rp h a dx C mA/\(∀f,gZ (fs.lookup f) (mA f))/\PySem.Within mA (fs.map (·.1))/\fs.length<=1000/\H dx=some (.own a):=by
 obtain⟨d,z,ne,ob,mA,n,r,q⟩:=(show bS P w H h a (.ins C dx fs) from bc a _ e);exact⟨mA,⟨ob,n,ne⟩,r,q,z,d⟩
end
structure iE (K:W.Frag) (C:Addr):Prop where
 pg:W.plainGet K C Str.empty=true
 hd:W.hasDictIn K C=true
 po:W.plainOver K C=true
 sa:W.findIn K (.ref C) "__setattr__"=some (some (.builtin "object.__setattr__"))
theorem iE.get(c:iE K C)(f:Str):W.plainGet K C f=true:=c.pg
noncomputable def bf(K:W.Frag)(C:Addr)(f:Str):Prop:=W.findIn K (.ref C) f=some none
theorem bf.Ii{f:Str}(n:bf K C f):W.takerIn K C f=some none:=by
 unfold W.takerIn;rw[show W.findIn K (.ref C) f=some none from n];rfl
structure Meth (K:W.Frag) (C:Addr) (m:Str) (f:Addr):Prop where
 at_:W.findIn K (.ref C) m=some (some (.ref f))
 fn:W.isFn K (.ref f)=true
 kp:W.keepIn K (.ref f)=true
section
variable {X:Cx} {pins:List (Addr×Obj)} {σ:St} {H:Hp} {s:Shared} {a C dx:Addr} {fs:List (Str×V)} {f:Str} {v:V} {A:Around} {E:Value->Shared->Prop}
theorem rD{b:Bool}(I:Inv X pins σ H s)(e:H a=some (.ins C dx fs))(c:iE X.K C)(n:bf X.K C f)(l:fs.lookup f=some v)
  (h:∀u s',Inv X pins σ H s'->RelV v u->Q u s'):wpAny (model X.prog X.w) A (getAttr (.ref a) f b) Q E s:=by
 obtain⟨mA,O,r,_,_,_⟩:=nF I.bc e;obtain⟨u,hu,ru⟩:=gZ.some_of (v:=v) (o:=mA f) (by rw[<- l];exact r f)
 exact get_map I.pJ O (c.get f) c.hd n hu (vm ru) (h u _ (I.tok _) ru)
theorem kC{m:Str}{g:Addr}{Q:Value×List Value->Shared->Prop}(I:Inv X pins σ H s)(e:H a=some (.ins C dx fs))(c:iE X.K C)(k:Meth X.K C m g)(l:fs.lookup m=none)
  (h:Q (.ref g,[.ref a]) s):wpAny (model X.prog X.w) A (getMethod (.ref a) m pl) Q E s:=by
 obtain⟨mA,O,r,_,_,_⟩:=nF I.bc e;have hn:mA m=none:=gZ.none_of (by rw[<- l];exact r m)
 exact zy I.pJ O (c.get m) k.at_ k.fn hn h
theorem sC{y:V}{Q:Unit->Shared->Prop}(I:Inv X pins σ H s)(e:H a=some (.ins C dx fs))(c:iE X.K C)(n:bf X.K C f)(hl:fs.length<1000)(ry:RelV y u)
  (h:∀s',Inv X pins σ (upd H a (.ins C dx (cT f y fs))) s'->Q () s'):wpAny (model X.prog X.w) A (setAttr (.ref a) f u) Q E s:=by
 obtain⟨mA,O,r,wi,_,ho⟩:=nF I.bc e;have hz:(fs.map (·.1)).length<=sizeLine:=by rw[JK,Lu];lia
 refine Bg I.pJ O c.sa c.po n.Ii c.hd wi hz λh' O' sb=>h _ ?_;have hd:∃o,h'.get? dx=some o:=let ⟨o,_,_,e',_⟩:=O'.ns;⟨o,e'⟩
 refine I.write (x:=a) (e:=dx) (by rw[e];exact True.intro) (.inr ho) (λb q hb z=>(sb.2 b hb).trans z) hd ?_
 refine⟨by rw[ao O.ne];exact ho,?_,O.ne,O'.obj,_,O'.ns,λg=>?_,λg hg=>?_⟩
 ·have:=ju f y fs;lia
 ·show gZ ((cT f y fs).lookup g) (if g=f then some u else mA g)
  rw[jw];by_cases q:g=f
  ·rw[JQ q,JQ q];exact ry
  ·rw[JN q,JN q];exact r g
 ·by_cases q:g=f
  ·rw[q];exact (jd f y fs).1
  ·refine (jd f y fs).2 g (wi g λz=>hg ?_);show (if g=f then some u else mA g)=none
   rw[JN q];exact z
theorem Inv.made(I:Inv X pins σ H s):Inv X pins σ (upd (upd H s.heap.objs.size (.own (s.heap.objs.size+1))) (s.heap.objs.size+1) (.ins C s.heap.objs.size []))
  {s with heap:=(s.heap.push W.emptyDict).push (W.instObj C s.heap.objs.size)}:=by
 have e1:(s.heap.push W.emptyDict).get? s.heap.objs.size=some W.emptyDict:=Kc s.heap rfl;have e2:((s.heap.push W.emptyDict).push (W.instObj C s.heap.objs.size)).get? (s.heap.objs.size+1)=some (W.instObj C s.heap.objs.size):=by
  have:=Kc (s.heap.push W.emptyDict) (o:=W.instObj C s.heap.objs.size) rfl
  rwa [Lm] at this
 have e3:(s.heap.push W.emptyDict).Ns s.heap.objs.size (λ_=>none):=⟨W.emptyDict,#[],_,e1,rfl,(λe he=>absurd he (by simp)),λ_=>rfl⟩
 have I1:=I.laid (a:=s.heap.objs.size) (o:=.own (s.heap.objs.size+1)) (h':=s.heap.push W.emptyDict) (t':=s.toks) (λb u q=>JM _ q) (JS _) ⟨_,e1⟩;refine I1.laid (a:=s.heap.objs.size+1) (o:=.ins C s.heap.objs.size []) (t':=s.toks) (λb u q=>JM _ q) (NY (Lm _ _)) ?_;have ne:s.heap.objs.size≠s.heap.objs.size+1:=Kn (Mt _);refine⟨by rw[ao ne,ae],Kh _,ne,e2,λ_=>none,(Heap.Ns1.of_empty e3).at λo q=>JM _ q,λ_=>True.intro,λy hy=>absurd rfl hy⟩
theorem CD{prog:Program}{env:Env}{f:Str}{pos:Pos}{s:Shared}(hb:attributeBase e f env (eval e env)=eval e env)
  (h:wpAny (model prog w) A (eval e env) (λo s₁=>wpAny (model prog w) A (getAttr o f true) Q E s₁) E s):wpAny (model prog w) A (eval (.Attribute e f pos) env) Q E s:=
 Attribute_any_ h (by rw[arm_eval_Attribute,hb])
end
noncomputable def wX(K:W.Frag)(ta:TE)(f:Str):TE:=λσ H Q=>ta σ H λx H1=>∃a C dx fs v,x=.ref a/\H1 a=some (.ins C dx fs)/\iE K C/\bf K C f/\fs.lookup f=some v/\Q v H1
noncomputable def xn(K:W.Frag)(ta tv:TE)(f:Str):TS:=λD σ H=>tv σ H λy H1=>ta σ H1 λx H2=>∃a C dx fs,x=.ref a/\H2 a=some (.ins C dx fs)/\iE K C/\bf K C f/\fs.length<1000 /\
 D.nx σ (upd H2 a (.ins C dx (cT f y fs)))
section
variable {X:Cx} {o e value:Expr} {f:Str} {pos pos' tpos:Pos} {ta tv:TE}
theorem Eg(he:PE X e ta)(hb:attributeBase e f X.env (eval e X.env)=eval e X.env):PE X (.Attribute e f pos) (wX X.K ta f):=by
 intro pins s σ H Q I h;refine CD hb (cz (he pins s σ H _ I h) λu s1 hq40=>?_);obtain⟨x,H1,I1,rx,a,C,dx,fs,v,ex,ea,c,n,l,q⟩:=hq40;subst ex;obtain rfl:u=Value.ref a:=rx;exact rD I1 ea c n l λu' s2 I2 ru=>⟨v,H1,I2,ru,q⟩
theorem Fw(ha:PE X o ta)(hv:PE X value tv)(hs:swapsWith value (some (.Attribute o f pos')) pos.line X.env=pure false):PS X (.Assign [.Attribute o f pos'] value pos) (xn X.K ta tv f):=by
 intro pins s σ H D I h;refine plainObj_wpAny_Assign_Attribute (cz (hv pins s σ H _ I h) λu s1 ⟨y,H1,I1,ry,q⟩=>cz (ha pins s1 σ H1 _ I1 q) λov s2 hq42=>?_) hs;obtain⟨x,H2,I2,rx,a,C,dx,fs,ex,ea,c,n,l,q2⟩:=hq42;subst ex;obtain rfl:ov=Value.ref a:=rx;exact sC I2 ea c n l ry λs3 I3=>⟨σ,_,I3,q2⟩
end
structure bP (k:Nat) (A:Around):Prop where
 hd:A.handled=none
 dp:A.depth+3*k+5<recursionLimit
 un:A.units+16*k+200<cLine
 gd:A.guards=some []
theorem bP.mono{A:Around}(r:bP k A)(h:j<=k):bP j A:=⟨r.hd,by have:=r.dp;lia,by have:=r.un;lia,r.gd⟩
theorem bP.deeper{A:Around}(r:bP (k+1) A)(env:Env):bP k (A.deeper env):=
 ⟨r.hd,by have:=r.dp;show A.depth+1+3*k+5<_;lia,by have:=r.un;show A.units+3+16*k+200<_;lia,r.gd⟩
theorem bP.in1{A:Around}(r:bP (k+1) A):bP k A.in1:=
 ⟨r.hd,by have:=r.dp;show A.depth+3*k+5<_;lia,by have:=r.un;show A.units+1+16*k+200<_;lia,r.gd⟩
theorem q_{A:Around}:(A.under (.builtin "type.__call__" ⟨.ref C::us,kw⟩)).depth=A.depth+1:=by
 first|rfl|simp[Around.under,Code.weight,Code.isCreation,Code.isGuard,Code.isCaller,Code.frames,Code.isFrame,guardIds]
theorem sF{A:Around}:(A.under (.builtin "type.__call__" ⟨.ref C::us,kw⟩)).units=A.units+1:=by
 first|rfl|simp[Around.under,Code.cUnits,Code.frames,Code.isFrame]
theorem bP.make{A:Around}(r:bP (k+1) A)(C:Addr)(us:List Value)(kw:List (Str×Value)):bP k (A.under (.builtin "type.__call__" ⟨.ref C::us,kw⟩)):=
 ⟨r.hd,by have:=r.dp;rw[q_];lia,by have:=r.un;rw[sF];lia,by have h:=r.gd;first|exact h | (simp[Around.under,Code.guards,Code.isGuard,guardIds];exact h)⟩
theorem bP.depth{A:Around}(r:bP k A):A.depth<recursionLimit:=by have:=r.dp;lia
theorem bP.units{A:Around}(r:bP k A):A.units+64<cLine:=by have:=r.un;lia
noncomputable def oH:TA:=λ_ H Q=>Q [] H
noncomputable def jt(ta:TE)(tr:TA):TA:=λσ H Q=>ta σ H λx H1=>tr σ H1 λxs H2=>Q (x::xs) H2
section
variable {X:Cx} {e:Expr} {es:List Expr} {te:TE} {t:TA} {pos:Pos}
theorem Al:PA X [] oH:=λ_ _ _ _ H Q I h=>Calls.spliced_nil ⟨[],H,I,.nil,h⟩
theorem tH(ha:PE X e te)(hr:PA X es t)(hs:autoParam (starEach (e::es) X.env=(false,eval e X.env)::starEach es X.env) ℜ0):PA X (e::es) (jt te t):=by
 intro pos pins s σ H Q I h;rw[hs];show wpAny _ _ (spliced ((false,eval e X.env)::backTo pos (starEach es X.env))) _ _ s;refine Calls.spliced_cons (cz (ha pins s σ H _ I h) λu s1 hq46=>?_);obtain⟨x,H1,I1,r1,q1⟩:=hq46;exact cz (hr pos pins s1 σ H1 _ I1 q1) λus s2 ⟨xs,H2,I2,r2,q2⟩=>⟨x::xs,H2,I2,.cons r1 r2,q2⟩
noncomputable def ye(t:TA):TE:=λσ H Q=>t σ H λxs H1=>xs.length<=sizeLine/\∀p,H1 p=none->Q (.ref p) (upd H1 p (.tup xs))
noncomputable def Ag(t:TA):TE:=λσ H Q=>t σ H λxs H1=>xs.length<=sizeLine/\∀p,H1 p=none->Q (.ref p) (upd H1 p (.lst xs))
theorem Fg{x1}(h:PA X es t):PE X (.Tuple es x1 pos) (ye t):=by
 intro pins s σ H Q I hq;refine wpAny_Tuple_spliced (cz (h pos pins s σ H _ I hq) λus s1 ⟨xs,H1,I1,r,z,q⟩=>⟨by rw[<- r.length];exact z,?_⟩)
 have hf:H1 s1.heap.objs.size=none:=I1.bc.fresh (JS _);refine⟨.ref s1.heap.objs.size,upd H1 s1.heap.objs.size (.tup xs),I1.laid (t':=s1.toks) (λb u e=>JM _ e) (JS _) ?_,rfl,q _ hf⟩;exact⟨z,us,r,⟨_,Kc _ rfl,rfl,_,rfl,rfl⟩⟩
theorem Ef(h:PA X es t):PE X (.List es pos) (Ag t):=by
 intro pins s σ H Q I hq;refine wpAny_List_spliced (cz (h pos pins s σ H _ I hq) λus s1 ⟨xs,H1,I1,r,z,q⟩=>⟨by rw[<- r.length];exact z,?_⟩)
 have hf:H1 s1.heap.objs.size=none:=I1.bc.fresh (JS _);refine⟨.ref s1.heap.objs.size,upd H1 s1.heap.objs.size (.lst xs),I1.laid (t':=s1.toks) (λb u e=>JM _ e) (JS _) ?_,rfl,q _ hf⟩;exact⟨z,us,0,r,Kc _ rfl⟩
end
abbrev Sp:=List V->Hp->VK->XK->Prop
abbrev pZ:=List Env->Hp->Shared->XK->Value->Shared->Prop
variable{CX:pZ}
structure rh (P:Program) (w:World) (K:W.Frag) (mg:Str->Option Value) (base:Heap) (A:Around) (outer:List Env) (s:Shared) (H:Hp):Prop where
 frames:A.frames=some outer
 mod:Mod K mg base
 bs:∀b o,base.get? b=some o->s.heap.get? b=some o/\H b=none
 A0:base.objs.size<=s.heap.objs.size
 jB:s.heap.FunFrames base outer
 Fd:∀b∈zd outer,H b=none
 bc:iy P w H s.heap
 bare:AllBare s.gens
 tabs:TabsOk K H
noncomputable def CE(outer:List Env)(P:Program)(w:World)(H:Hp)(s:Shared)(Q:VK)(u:Value)(s':Shared):Prop:=
 ∃v H',s'.os=s.os/\AllBare s'.gens/\Un (zd outer) [] H H' s.heap s'.heap/\iy P w H' s'.heap/\RelV v u/\Q v H'
noncomputable def CR(CX:pZ)(outer:List Env)(P:Program)(w:World)(H:Hp)(s:Shared)(Q:VK)(E:XK)(r:Result)(s':Shared):Prop:=
 match r with
 |.ok (.ret u)=>CE outer P w H s Q u s'
 |.ok _=>False
 |.error e=>CX outer H s E e s'
structure cg (P:Program) (w:World) (K:W.Frag) (mg:Str->Option Value) (base:Heap) (CX:pZ) (k:Nat) (f:Addr) (fd:FuncData) (ps:List Str) (sp:Sp):Prop where
 len:∀vs H Q E,sp vs H Q E->vs.length=ps.length
 run:∀(A:Around) (outer:List Env) (s:Shared) (H:Hp) (args:Args) (us:List Value) (vs:List V) (Q:VK) (E:XK),bP k A->rh P w K mg base A outer s H->BindsTo s fd args (ps.zip us)->Vals vs us->sp vs H Q E ->
  codeAny (model P w) A (.call (.ref f) args) (CR CX outer P w H s Q E) s
theorem cg.mono{f:Addr}{ps:List Str}{sp:Sp}(F:cg P w K mg base CX j f fd ps sp)(h:j<=k):
  cg P w K mg base CX k f fd ps sp:=⟨F.len,λA outer s H args us vs Q E hr=>F.run A outer s H args us vs Q E (hr.mono h)⟩
theorem rh.make{A:Around}{s:Shared}(e:rh P w K mg base A outer s H)(C:Addr)(us:List Value)(kw:List (Str×Value)):
  rh P w K mg base (A.under (.builtin "type.__call__" ⟨.ref C::us,kw⟩)) outer s H:=⟨by first|exact e.frames | (simpa[Around.under,Code.envs,Code.isFrame,pushEnvs] using e.frames),e.mod,e.bs,e.A0,e.jB,e.Fd,e.bc,e.bare,e.tabs⟩
section
variable {X:Cx} {pins:List (Addr×Obj)} {σ:St} {H:Hp} {s s':Shared}
theorem Inv.Hq(I:Inv X pins σ H s):rh X.prog X.w X.K X.mg X.base X.A X.stack s H:=
 ⟨I.ok.frames,I.ok.mod,I.bs,JX I.ok.A0 I.sz,I.stack,I.nO,I.bc,I.bare,I.ok.tabs.un I.base⟩
theorem Inv.after{Q:VK}(I:Inv X pins σ H s)(h:CE X.stack X.prog X.w H s Q u s'):EP X pins σ Q u s':=by
 obtain⟨v,H',os,bare,un,bc,r,q⟩:=h;obtain⟨hh,g,d,t,os'⟩:=s';obtain rfl:os'=s.os:=os;exact⟨v,H',I.call (h':=hh) (g':=g) (d':=d) (t':=t) (ch:=[]) un bc bare (λb z=>absurd z (by simp)),r,q⟩
end
noncomputable def lG(sp:Sp)(dvs:List V)(E:XK)(t:TA):TE:=λσ H Q=>t σ H λvs H1=>sp (vs++dvs) H1 Q E
noncomputable def lK(C:Addr)(m:Str)(sp:Sp)(dvs:List V)(E:XK)(ta:TE)(t:TA):TE:=λσ H Q=>ta σ H λx H1=>∃a dx fs,x=.ref a/\H1 a=some (.ins C dx fs)/\fs.lookup m=none /\
 t σ H1 λvs H2=>sp (x::(vs++dvs)) H2 Q E
noncomputable def pH(C:Addr)(sp:Sp)(dvs:List V)(E:XK)(t:TA):TE:=λσ H Q=>t σ H λvs H1=>∀x dx,H1 x=none->H1 dx=none->dx≠x ->
 sp (.ref x::(vs++dvs)) (upd (upd H1 dx (.own x)) x (.ins C dx [])) (λv H2=>v=.aU/\Q (.ref x) H2) E
noncomputable def Binds(K:W.Frag)(fd:FuncData)(ps:List Str)(ds:List Value):Prop:=
 ∀(s:Shared) (us:List Value),K.In s.heap->(us++ds).length=ps.length->BindsTo s fd ⟨us,[]⟩ (ps.zip (us++ds))
theorem Binds.all{ps:List Str}(h:∀us:List Value,us.length=ps.length->bindArgs fd ⟨us,[]⟩=pure (ps.zip us)):Binds K fd ps []:=λs us _ hl=>by
 rw[K6] at hl ⊢;exact .of_eq (h us hl)
noncomputable def Passes(CX:pZ)(X:Cx)(E:XK):Prop:=∀(pins:List (Addr×Obj)) (σ:St) (H:Hp) (s:Shared) (e:Value) (s':Shared),Inv X pins σ H s->CX X.stack H s E e s'->X.xe e s'
section
variable {X:Cx} {CX:pZ} {k:Nat} {f C:Addr} {fd:FuncData} {ps:List Str} {sp:Sp} {dvs:List V} {ds:List Value} {E:XK} {x m:Str} {p pos apos:Pos} {e o:Expr} {es:List Expr} {ta:TE} {t:TA}
theorem qO{s:Shared}{Q:VK}{vs:List V}(F:cg X.prog X.w X.K X.mg X.base CX k f fd ps sp)(hr:bP k X.A)(hb:Binds X.K fd ps ds)(hd:Vals dvs ds)(hx:Passes CX X E)
  (I:Inv X pins σ H s) (r:Vals vs us) (h:sp (vs++dvs) H Q E):wpAny (model X.prog X.w) X.A (call (.ref f) us) (EP X pins σ Q) X.xe s:=by
 have r2:Vals (vs++dvs) (us++ds):=r.append hd;have hl:(us++ds).length=ps.length:=by rw[<- r2.length];exact F.len _ _ _ _ h
 refine wpAny_call (OQ (F.run X.A X.stack s H ⟨us,[]⟩ (us++ds) (vs++dvs) Q E hr I.Hq (hb s us I.pJ hl) r2 h) λr s' hq=>?_)
 cases r with
 |error e=>exact hx pins σ H s e s' I hq
 |ok fl =>
  cases fl with
  |ret u=>exact I.after hq
  |next=>exact False.elim hq
  |brk=>exact False.elim hq
  |cont=>exact False.elim hq
theorem AY(F:cg X.prog X.w X.K X.mg X.base CX k f fd ps sp)(hr:bP k X.A)(hg:Gl X x)(hm:X.mg x=some (.ref f))(hk:W.keepIn X.K (.ref f)=true)(hb:Binds X.K fd ps ds)(hd:Vals dvs ds)(hx:Passes CX X E)
  (ha:PA X (e::es) t) (hdb:autoParam ((x ==("__debug__":Str))=false) ℜ1) (he:autoParam (starEach (e::es) X.env=(false,eval e X.env)::starEach es X.env) ℜ0) (hpl:autoParam ((backTo pos (starEach es X.env)).any (·.1)=false) ℜ0) :
  PE X (.Call (.Name x p) (e::es) [] pos) (lG sp dvs E t):=by
 intro pins s σ H Q I h;refine L_ (nL I hg hm ?_ hdb);refine OR (h₀:=X.base) I.ok.mod.H_ hk (cz (ha pos pins s σ H _ I h) λus s1 ⟨vs,H1,I1,r,q⟩=>⟨I1.pJ,?_⟩) he hpl;exact qO F hr hb hd hx I1 r q
theorem AK{pl:Sem Bool}(he:PE X o ta)(c:iE X.K C)(hm:Meth X.K C m f)(F:cg X.prog X.w X.K X.mg X.base CX k f fd ps sp)(hr:bP k X.A)(hb:Binds X.K fd ps ds)(hd:Vals dvs ds)(hx:Passes CX X E)(ha:PA X (e::es) t)
  (hst:autoParam (starEach (e::es) X.env=(false,eval e X.env)::starEach es X.env) ℜ0) (hpl:autoParam ((backTo pos (starEach es X.env)).any (·.1)=false) ℜ0)
  (ht:autoParam (eval (.Call (.Attribute o m apos) (e::es) [] pos) X.env=(do
   let ov <- eval o X.env
   standAt apos.atName
   let (f,first) <- holding [ov] (getMethod ov m pl)
   callWith pos f first (backTo pos (starEach (e::es) X.env)) (backToKw pos (keywordEach [] X.env)))) ℜ0) :
  PE X (.Call (.Attribute o m apos) (e::es) [] pos) (lK C m sp dvs E ta t):=by
 intro pins s σ H Q I h;refine W.methodCall_KW (pl:=pl) (cz (he pins s σ H _ I h) λu s1 hq47=>?_) ht;obtain⟨x,H1,I1,rx,a,dx,fs,ex,ea,l,q⟩:=hq47;subst ex;obtain rfl:u=Value.ref a:=rx;refine kC I1 ea c hm l ?_;refine OR (first:=[.ref a]) (h₀:=X.base) I.ok.mod.H_ hm.kp (cz (ha pos pins s1 σ H1 _ I1 q) λus s2 ⟨vs,H2,I2,r,q2⟩=>⟨I2.pJ,?_⟩) hst hpl
 exact qO (us:=.ref a::us) (vs:=.ref a::vs) F hr hb hd hx I2 (.cons rfl r) q2
theorem ze{pl:Sem Bool}(he:PE X o ta)(c:iE X.K C)(hm:Meth X.K C m f)(F:cg X.prog X.w X.K X.mg X.base CX k f fd ps sp)(hr:bP k X.A)(hb:Binds X.K fd ps ds)(hd:Vals dvs ds)(hx:Passes CX X E)
  (ht:autoParam (eval (.Call (.Attribute o m apos) [] [] pos) X.env=(do
   let ov <- eval o X.env
   standAt apos.atName
   let (f,first) <- holding [ov] (getMethod ov m pl)
   callWith pos f first (backTo pos (starEach [] X.env)) (backToKw pos (keywordEach [] X.env)))) ℜ0) :
  PE X (.Call (.Attribute o m apos) [] [] pos) (lK C m sp dvs E ta oH):=by
 intro pins s σ H Q I h;refine W.methodCall_KW (pl:=pl) (cz (he pins s σ H _ I h) λu s1 hq48=>?_) ht;obtain⟨x,H1,I1,rx,a,dx,fs,ex,ea,l,q⟩:=hq48;subst ex;obtain rfl:u=Value.ref a:=rx;refine kC I1 ea c hm l ?_;exact W.callWith_K0 (first:=[.ref a]) I1.pJ hm.kp (qO (us:=[.ref a]) (vs:=[.ref a]) F hr hb hd hx I1 (.cons rfl .nil) q)
structure Mk (K:W.Frag) (C f:Addr):Prop where
 makes:W.makesIn K C=true
 init:W.findIn K (.ref C) "__init__"=some (some (.ref f))
 fn:W.isFn K (.ref f)=true
 kp:W.keepIn K (.ref C)=true
theorem zN{s:Shared}{Q:VK}{vs:List V}(M:Mk X.K C f)(F:cg X.prog X.w X.K X.mg X.base CX k f fd ps sp)(hr:bP (k+1) X.A)(hb:Binds X.K fd ps ds)(hd:Vals dvs ds)
  (hx:Passes CX X E) (I:Inv X pins σ H s) (r:Vals vs us)
  (h:∀x dx,H x=none->H dx=none->dx≠x->sp (.ref x::(vs++dvs)) (upd (upd H dx (.own x)) x (.ins C dx [])) (λv H2=>v=.aU/\Q (.ref x) H2) E) :
  wpAny (model X.prog X.w) X.A (call (.ref C) us) (EP X pins σ Q) X.xe s:=by
 have hq:=h (s.heap.objs.size+1) s.heap.objs.size (I.bc.fresh (KI _)) (I.bc.fresh (JS _)) (Kn (Mt _));have I2:=Inv.made (C:=C) I;have r2:Vals (V.ref (s.heap.objs.size+1)::(vs++dvs)) (Value.ref (s.heap.objs.size+1)::(us++ds)):=.cons rfl (r.append hd);have hl:(Value.ref (s.heap.objs.size+1)::us++ds).length=ps.length:=by
  have e:=r2.length;rw[F.len _ _ _ _ hq] at e;exact e.symm
 refine wpAny_call (Af (f:=f) I.pJ M.makes M.init (Ms.mp M.fn) (OQ (F.run _ X.stack _ _ ⟨Value.ref (s.heap.objs.size+1)::us,[]⟩ (Value.ref (s.heap.objs.size+1)::(us++ds)) _ _ E (hr.make C us [])
  (I2.Hq.make C us []) (hb _ (Value.ref (s.heap.objs.size+1)::us) I2.pJ hl) r2 hq) λr s' hq'=>?_))
 cases r with
 |error e=>exact hx pins σ _ _ e s' I2 hq'
 |ok fl =>
  cases fl with
  |ret u =>
   obtain⟨v,H',I3,rv,ev,q3⟩:=I2.after hq';subst ev;exact⟨rv,⟨V.ref (s.heap.objs.size+1),H',I3,rfl,q3⟩⟩
  |next=>exact False.elim hq'
  |brk=>exact False.elim hq'
  |cont=>exact False.elim hq'
theorem AA(M:Mk X.K C f)(F:cg X.prog X.w X.K X.mg X.base CX k f fd ps sp)(hr:bP (k+1) X.A)(hg:Gl X x)(hm:X.mg x=some (.ref C))(hb:Binds X.K fd ps ds)(hd:Vals dvs ds)(hx:Passes CX X E)
  (ha:PA X (e::es) t) (hdb:autoParam ((x ==("__debug__":Str))=false) ℜ1) (he:autoParam (starEach (e::es) X.env=(false,eval e X.env)::starEach es X.env) ℜ0) (hpl:autoParam ((backTo pos (starEach es X.env)).any (·.1)=false) ℜ0) :
  PE X (.Call (.Name x p) (e::es) [] pos) (pH C sp dvs E t):=by
 intro pins s σ H Q I h;refine L_ (nL I hg hm ?_ hdb);refine OR (h₀:=X.base) I.ok.mod.H_ M.kp (cz (ha pos pins s σ H _ I h) λus s1 ⟨vs,H1,I1,r,q⟩=>⟨I1.pJ,?_⟩) he hpl;exact zN M F hr hb hd hx I1 r q
end
noncomputable def PK(X:Cx)(kws:List Keyword)(t:TA):Prop:=
 ∀(pos:Pos) (pins:List (Addr×Obj)) (s:Shared) (σ:St) (H:Hp) (Q:List V->Hp->Prop),Inv X pins σ H s->t σ H Q->wpAny (model X.prog X.w) X.A (evalAll ((backToKw pos (keywordEach kws X.env)).map (·.2))) (AP X pins σ Q) X.xe s
section
variable {X:Cx} {CX:pZ} {k:Nat} {f C:Addr} {fd:FuncData} {ps ks:List Str} {sp:Sp} {E:XK} {x m:Str} {p pos apos kpos:Pos} {e o:Expr} {es:List Expr} {kws:List Keyword} {te ta:TE} {t tk:TA} {nm:Option Str}
theorem FH:PK X [] oH:=λ_ _ _ _ H Q I h=>wpAny_evalAll_nil ⟨[],H,I,.nil,h⟩
theorem CO(ha:PE X e te)(hr:PK X kws t):PK X (⟨nm,e,kpos⟩::kws) (jt te t):=by
 intro pos pins s σ H Q I h;show wpAny _ _ (evalAll ((do let v <- eval e X.env;standAt pos;pure v)::(backToKw pos (keywordEach kws X.env)).map (·.2))) _ _ s
 refine wpAny_evalAll_cons (JJ (cz (ha pins s σ H _ I h) λu s1 ⟨x,H1,I1,r1,q1⟩=>JJ (NF (JV ?_))));exact cz (hr pos pins s1 σ H1 _ I1 q1) λus s2 ⟨xs,H2,I2,r2,q2⟩=>⟨x::xs,H2,I2,.cons r1 r2,q2⟩
variable {g:List Value->List Value->List Value} {gV:List V->List V->List V}
end
structure az (N P:List Str) (sc:Scope):Prop where
 kind:sc.kind=.function
 co:sc.isCoroutine=false
 gen:sc.isGenerator=false
 nd:N.Nodup
 pre:N.take P.length=P
 par:∀x∈P,sc.names.lookup x=some .local\/sc.names.lookup x=some .cell
 FR:∀y∈sc.names,y.2≠.free
theorem mX:∀{binds:List (Str×Value)} {m:Str->Option Value},(∀v,(x,v)∉binds)->bindL kindOf binds m x=m x
 |[],_,_=>rfl
 | (n,v)::r,m,h=>by
  unfold bindL;rw[mX λw hw=>h w (JT _ hw)];split
  ·have:x≠n:=by rintro rfl;exact h v JU
   simp[this]
  ·rfl
theorem mM:∀{binds:List (Str×Value)} {m:Str->Option Value},(∀v,(x,v)∉binds)->bindC kindOf binds m x=m x
 |[],_,_=>rfl
 | (n,v)::r,m,h=>by
  unfold bindC;rw[mM λw hw=>h w (JT _ hw)];split
  ·rfl
  ·have:x≠n:=by rintro rfl;exact h v JU
   simp[this]
theorem mT{v:Value}:∀{P:List Str} {vs:List Value} {i:Nat} {m:Str->Option Value},P.Nodup->P[i]?=some x->vs[i]?=some v->kindOf x=some .local ->
  bindL kindOf (P.zip vs) m x=some v
 |[],_,_,_,_,h,_,_=>by simp at h
 |_::_,[],_,_,_,_,h,_=>by simp at h
 |p::P,w::vs,0,m,nd,h1,h2,hk=>by
  simp at h1 h2;subst h1;subst h2;show bindL kindOf ((p,w)::P.zip vs) m p=_;unfold bindL;rw[mX λv hv=>(Lq.mp nd).1 (Oo hv).1,JQ hk];simp
 |p::P,w::vs,i+1,m,nd,h1,h2,hk=>by
  show bindL kindOf ((p,w)::P.zip vs) m x=_;unfold bindL;exact mT (i:=i) (Lq.mp nd).2 (by simpa using h1) (by simpa using h2) hk
theorem m3{v:Value}:∀{P:List Str} {vs:List Value} {i:Nat} {m:Str->Option Value},P.Nodup->P[i]?=some x->vs[i]?=some v->kindOf x≠some .local ->
  bindC kindOf (P.zip vs) m x=some v
 |[],_,_,_,_,h,_,_=>by simp at h
 |_::_,[],_,_,_,_,h,_=>by simp at h
 |p::P,w::vs,0,m,nd,h1,h2,hk=>by
  simp at h1 h2;subst h1;subst h2;show bindC kindOf ((p,w)::P.zip vs) m p=_;unfold bindC;rw[mM λv hv=>(Lq.mp nd).1 (Oo hv).1,JN hk];simp
 |p::P,w::vs,i+1,m,nd,h1,h2,hk=>by
  show bindC kindOf ((p,w)::P.zip vs) m x=_;unfold bindC;exact m3 (i:=i) (Lq.mp nd).2 (by simpa using h1) (by simpa using h2) hk
noncomputable def start(N:List Str)(vs:List V):St:=vs.map some++List.replicate (N.length-vs.length) none
noncomputable def dM(CX:pZ)(P:Program)(w:World)(K:W.Frag)(mg:Str->Option Value)(base:Heap)(N:List Str)(qual:Str)(scope:Scope)(f:Addr)(cd:Value)(A:Around)(outer:List Env)(s:Shared)(H:Hp)(E:XK):Cx where
 prog:=P
 w:=w
 K:=K
 mg:=mg
 base:=base
 A:=A.deeper (envOfC qual scope s.heap.objs.size f cd)
 N:=N
 s₀:=s
 H₀:=H
 env:=envOfC qual scope s.heap.objs.size f cd
 outer:=outer
 stack:=envOfC qual scope s.heap.objs.size f cd::outer
 ex:=[]
 calm:=true
 fn:=λ_=>true
 pn:=[]
 xe:=λe s'=>wpAny (model P w) (A.deeper (envOfC qual scope s.heap.objs.size f cd)) (leaving (envOfC qual scope s.heap.objs.size f cd) e) (λ_ s''=>CX outer H s E e s'') (λe' s''=>CX outer H s E e' s'') s'
theorem oM{sc:Scope}{n:Nat}(h:sc.names.lookup x=some .cell):∃c,(cellsFrom n sc.names []).lookup x=some c:=by
 have q:=W.cellsFrom_some sc.names n [] (.inl h);exact NZ.mp q
theorem wD{ps:List Str}{qual:Str}{f:Addr}{cd:Value}{A:Around}{s s1:Shared}{E:XK}{vs:List V}
  (S:az N ps scope) (hd:A.handled=none) (e0:rh P w K mg base A outer s H) (hl:vs.length=ps.length) (r:Vals vs us)
  (x:InCallC s s.heap.objs.size (bindL (envOfC qual scope s.heap.objs.size f cd).kindOf (ps.zip us) λ_=>none) (cellsFrom (s.heap.objs.size+1) scope.names []) (bindC (envOfC qual scope s.heap.objs.size f cd).kindOf (ps.zip us) λ_=>none) s1) :
  Inv (dM CX P w K mg base N qual scope f cd A outer s H E) [] (start N vs) H s1:=by
 have hpl:ps.length<=N.length:=by have:=K7 List.length S.pre;rw[Ki] at this;lia
 obtain⟨h1,tk,rfl,hk⟩:=x.done;have noA:∀b:Addr,b∉(dM CX P w K mg base N qual scope f cd A outer s H E).ex:=λb z=>absurd (show b∈([]:List Addr) from z) (by simp)
 refine⟨⟨e0.mod,S.kind,rfl,rfl,JS _,λy z c h1 h2=>?_,λy hy=>?_,λy c _ h=>?_,λ_=>hd,Around.frames_deeper e0.frames,.inr ⟨rfl,rfl⟩,λb z=>absurd z (noA b),e0.bs,e0.A0,λb _ _=>noA b,λb z=>absurd z (noA b),e0.jB,e0.Fd,e0.tabs⟩,
  rfl,e0.bare,Un.kept hk,⟨_,x.toInCall.ns,λi y v h1 h2 h3=>?_⟩,λy c h=>⟨_,x.cell y c h⟩,e0.bc.fresh (JS _),λy c h=>?_,λp hp=>absurd (show p∈([]:List (Addr×Obj)) from hp) (by simp),e0.bc.kept hk,?_⟩
 ·exact name_of_addr x.apart (PySem.mem_of_lookup h1) (PySem.mem_of_lookup h2)
 ·have hy:scope.names.lookup y=some .cell\/scope.names.lookup y=some .free:=hy;rcases hy with hy|hy
  ·exact oM hy
  ·exact absurd rfl (S.FR _ (PySem.mem_of_lookup hy))
 ·exact LC (x.above y c (PySem.mem_of_lookup h))
 ·have hi:i<vs.length:=by
   unfold start at h2;by_cases hi:i<vs.length
   ·exact hi
   ·rw[Kk (by simpa using hi)] at h2
    rw[Oh] at h2
    split at h2<;>cases h2
  have ha:vs[i]?=some v:=by
   unfold start at h2;rw[Ks (by simpa using hi),JW] at h2
   cases e:vs[i]? with
   |none=>rw[e] at h2;cases h2
   |some a=>rw[e] at h2;cases h2;rfl
  obtain⟨u,hu,rv⟩:=r.get ha;have hp:ps[i]?=some y:=by
   rw[<- S.pre,N_ (by lia)];exact h1
  have ndP:ps.Nodup:=by rw[<- S.pre];exact S.nd.sublist (List.take_sublist _ _)
  refine⟨u,rv,?_⟩;rcases S.par y (KW hp) with k|k
  ·exact .inl ⟨k,mT ndP hp hu k⟩
  ·obtain⟨c,e⟩:=oM (n:=s.heap.objs.size+1) k;refine .inr ⟨.inl k,c,e,?_⟩;have q:=x.cell y c e;rw[m3 ndP hp hu (by show scope.names.lookup y≠_;rw[k];decide)] at q
   exact q
 ·exact e0.bc.fresh (LC (x.above y c (PySem.mem_of_lookup h)))
 ·unfold start;show _=N.length;rw[JL,JK,Kb];lia
theorem CY{f:Addr}{name qual:Str}{params:Arguments}{dV kV doc pm cdv ct oc:Value}{an od:Option Addr}
  {osl:Array (Option Value)} {ps:List Str} {sp:Sp} (lk:K.lookup f=some ⟨oc,od,.func (W.fnOf name qual params body scope dV kV doc pm an cdv ct),osl⟩) (fX:W.codeIn K cdv qual=true) (S:az N ps scope)
  (len:∀vs H Q E,sp vs H Q E->vs.length=ps.length)
  (hbody:∀(A:Around) (outer:List Env) (s:Shared) (H:Hp) (vs:List V) (Q:VK) (E:XK),bP k (A.deeper (envOfC qual scope s.heap.objs.size f cdv))->sp vs H Q E ->
   ∃t,qX (dM CX P w K mg base N qual scope f cdv A outer s H E) body t/\t {nx:=λ_ H'=>Q .aU H',rt:=Q} (start N vs) H) :
  cg P w K mg base CX (k+1) f (W.fnOf name qual params body scope dV kV doc pm an cdv ct) ps sp:=by
 refine⟨len,λA outer s H args us vs Q E hr e0 hb r oJ=>?_⟩;have hl:=len _ _ _ _ oJ;have KX:K.In s.heap:=e0.mod.H_.keeps λb o e=>(e0.bs b o e).1;have lim:s.heap.NoLimit:=e0.mod.nolimit.keeps λb o e=>(e0.bs b o e).1;have hkind:∀y∈ps.zip us,scope.names.lookup y.1=some .local\/(scope.names.lookup y.1=some .cell/\((cellsFrom (s.heap.objs.size+1) scope.names []).lookup y.1).isSome=true):=λ⟨n,v⟩ hy=>by
  rcases S.par n (Oo hy).1 with q|q
  ·exact .inl q
  ·exact .inr ⟨q,W.cellsFrom_some _ _ _ (.inl q)⟩
 refine codeAny_call_function hr.depth (KX _ _ lk) rfl S.co S.gen rfl (W.codeRec_of KX fX) (hb _ _ _ _ ?_);refine wpAny_newFunctionEnv_cells S.kind hkind λenv he s1 x=>?_;subst he;refine⟨lim.keeps x.toInCall.keep,codeAny_func ?_⟩;obtain⟨t,ht,hq⟩:=hbody A outer s H vs Q E (hr.deeper _) oJ;have I:Inv (dM CX P w K mg base N qual scope f cdv A outer s H E) [] (start N vs) H s1:=wD S hr.hd e0 hl r x;refine KP (ht [] s1 (start N vs) H _ I hq) (λfl s' hs=>?_) λe s' hs=>hs;have fin:∀{σ':St} {H':Hp} {v:V} {u:Value},Inv (dM CX P w K mg base N qual scope f cdv A outer s H E) [] σ' H' s'->RelV v u->Q v H'->CE outer P w H s Q u s':=
  λ{σ' H' v u} J rv q=>⟨v,H',J.os,J.bare,J.base,J.bc,rv,q⟩
 cases fl with
 |ret u =>
  obtain⟨v,σ',H',J,rv,q⟩:=hs;exact fin J rv q
 |next =>
  obtain⟨σ',H',J,q⟩:=hs;exact fin (v:=V.aU) (u:=Value.none) J rfl q
 |brk =>
  obtain⟨_,_,_,q⟩:=hs;exact False.elim q
 |cont =>
  obtain⟨_,_,_,q⟩:=hs;exact False.elim q
section
variable {X:Cx} {x:Str} {p pos:Pos} {e:Expr} {es:List Expr} {t:TA} {id T:String} {r:List V->Hp->VK->Prop}
noncomputable def Ck(r:List V->Hp->VK->Prop)(t:TA):TE:=λσ H Q=>t σ H λvs H1=>r vs H1 Q
theorem zG(hc:bK X (.builtin id) r)(hg:Gl X x)(hm:X.mg x=none)(hv:bootBuiltins x=some (.builtin id))(ha:PA X (e::es) t)(hn:autoParam (x≠"__name__") ℜ1)(hdb:autoParam ((x ==("__debug__":Str))=false) ℜ1)
  (he:autoParam (starEach (e::es) X.env=(false,eval e X.env)::starEach es X.env) ℜ0) (hpl:autoParam ((backTo pos (starEach es X.env)).any (·.1)=false) ℜ0):PE X (.Call (.Name x p) (e::es) [] pos) (Ck r t):=by
 intro pins s σ H Q I h;refine L_ (ik I hg hm hv ?_ hn hdb);exact PyProof.Rows.callWith_builtin1 (cz (ha pos pins s σ H _ I h) λus s1 ⟨vs,H1,I1,r1,q1⟩=>hc pins s1 σ H1 vs us Q I1 r1 q1) he hpl
theorem vI(hc:bK X (.type T) r)(hg:Gl X x)(hm:X.mg x=none)(hv:bootBuiltins x=some (.type T))(ha:PA X (e::es) t)(hn:autoParam (x≠"__name__") ℜ1)(hdb:autoParam ((x ==("__debug__":Str))=false) ℜ1)
  (he:autoParam (starEach (e::es) X.env=(false,eval e X.env)::starEach es X.env) ℜ0) (hpl:autoParam ((backTo pos (starEach es X.env)).any (·.1)=false) ℜ0):PE X (.Call (.Name x p) (e::es) [] pos) (Ck r t):=by
 intro pins s σ H Q I h;refine L_ (ik I hg hm hv ?_ hn hdb);exact Lp (cz (ha pos pins s σ H _ I h) λus s1 ⟨vs,H1,I1,r1,q1⟩=>hc pins s1 σ H1 vs us Q I1 r1 q1) he hpl
end
end L2
namespace HT
open PySem PyProof.Rows
section
variable {prog:Program} {w:World} {A:Around} {E:Value->Shared->Prop} {s:Shared}
theorem Bx{t b:Addr}{vs ws:List Value}{Q:Value->Shared->Prop}(ht:IsTup s.heap t vs.toArray)(hb:IsTup s.heap b ws.toArray)(hv:vs≠[])
  (h1:ws=[]->Q (.ref t) s) (h2:ws≠[]->Q (.ref s.heap.objs.size) {s with heap:=s.heap.push {cls:=.type "tuple",data:=.seq (vs++ws).toArray}})
  (hsz:vs.length+ws.length<=sizeLine):wpAny (model prog w) A (binaryOp .Add (.ref t) (.ref b)) Q E s:=by
 obtain⟨⟨cls,dd,data,sl⟩,ho,hc,n,hd⟩:=id ht;obtain⟨⟨cls2,dd2,data2,sl2⟩,ho2,hc2,n2,hd2⟩:=id hb;simp only at hc hd hc2 hd2;subst hc hd hc2 hd2;have e:vs.toArray++ws.toArray=(vs++ws).toArray:=by simp
 by_cases hw:ws=[]
 ·exact concat_meets ⟨_,ho,rfl⟩ ⟨_,ho2,rfl⟩ noFill_tuple_add seq_tuple_add PySem.F.slot_tuple_add PySem.F.entry_tuple_add (PySem.F.args_tuple_add_2 _ _)
   (tuple_addW1 t b vs.toArray ws.toArray n n2 dd dd2 sl sl2 (by simpa using hv) (by simp[hw])) ⟨ho,ho2,h1 hw⟩
 ·refine concat_meets ⟨_,ho,rfl⟩ ⟨_,ho2,rfl⟩ noFill_tuple_add seq_tuple_add PySem.F.slot_tuple_add PySem.F.entry_tuple_add (PySem.F.args_tuple_add_2 _ _)
   (tuple_addW2 t b vs.toArray ws.toArray n n2 dd dd2 sl sl2 (by simpa using hv) (by simpa using hw) (by rw[List.size_toArray,List.size_toArray];exact hsz)) ⟨ho,ho2,?_⟩
  rw[e];exact h2 hw
noncomputable def bW(n d:Nat):Option Int->Nat
 |none=>d
 |some v=>if v<0 then (v+(n:Int)).toNat else min v.toNat n
theorem e8(n d:Nat):bW n d none=d:=rfl
theorem fW(n d k:Nat):bW n d (some (k:Int))=min k n:=by
 show (if (k:Int)<0 then ((k:Int)+(n:Int)).toNat else min (k:Int).toNat n)=min k n
 rw[if_neg (by lia),Int.toNat_natCast]
theorem rS(n d:Nat)(hd:d<=n)(o:Option Int):bW n d o<=n:=by
 cases o with
 |none=>exact hd
 |some v =>
  show (if v<0 then (v+(n:Int)).toNat else min v.toNat n)<=n
  by_cases hv:v<0
  ·rw[if_pos hv];lia
  ·rw[if_neg hv];exact Nat.min_le_right _ _
theorem tS(v:Int)(n d:Nat):(if v<0 then max (v+(n:Int)) 0 else min v (n:Int))=((bW n d (some v):Nat):Int):=by
 show (if v<0 then max (v+(n:Int)) 0 else min v (n:Int))=(((if v<0 then (v+(n:Int)).toNat else min v.toNat n):Nat):Int)
 by_cases hv:v<0
 ·simp only[if_pos hv];lia
 ·simp only[if_neg hv];lia
theorem rO(lo hi:Option Int)(n:Nat):Builtin.Slice.sliceAdjust lo hi 1 (n:Int)=(((bW n 0 lo:Nat):Int),((bW n n hi:Nat):Int)):=by
 have h1:¬ ((1:Int)<0):=by lia
 unfold Builtin.Slice.sliceAdjust;simp only[h1,if_false];refine Prod.ext ?_ ?_
 ·cases lo with
  |none=>rfl
  |some v=>exact tS v n 0
 ·cases hi with
  |none=>rfl
  |some v=>exact tS v n n
theorem sG(i j:Nat):Builtin.Slice.slicePlaces (i:Int) (j:Int) 1=j-i:=by
 unfold Builtin.Slice.slicePlaces;have h1:(1:Int) > 0:=by lia
 simp only[h1,if_true,Int.ediv_one]
 split<;>lia
theorem lA{v:Value}{o:Option Int}{Q:Option Int->Shared->Prop}(p:IsPart v o)(h:Q o s):wpAny (model prog w) A (Builtin.Slice.slicePartIndex v) Q E s:=by
 cases p with
 |none=>exact slicePart_none h
 |int i t=>exact slicePart_int h
theorem fu{sl:Addr}{vl vu:Value}{lo hi:Option Int}{n:Nat}{Q:Int×Int×Nat->Shared->Prop}(hs:s.heap.IsSliceOf sl vl vu .none)(pl:IsPart vl lo)(pu:IsPart vu hi)
  (h:Q (((bW n 0 lo:Nat):Int),1,bW n n hi-bW n 0 lo) s):wpAny (model prog w) A (Builtin.Slice.sliceApplied (.ref sl) (pure (n:Int))) Q E s:=by
 obtain⟨os,hos,hcs,uC⟩:=id hs;unfold Builtin.Slice.sliceApplied Builtin.Slice.sliceFields;refine wpAny_bind (wpAny_bind (wpAny_field hos uC (x:=vl) rfl (wpAny_bind (wpAny_field hos uC (x:=vu) rfl (wpAny_bind (wpAny_field hos uC (x:=.none) rfl (wpAny_pure ?_)))))));refine wpAny_bind (slicePart_none ?_);show wpAny _ _ (if ((1:Int) == 0)=true then _ else _) _ _ s
 rw[if_neg (by decide)]
 refine wpAny_bind (lA pl (wpAny_bind (lA pu (wpAny_bind (wpAny_pure ?_)))));show wpAny _ _ (match Builtin.Slice.sliceAdjust lo hi 1 (n:Int) with | (lo,hi)=>pure (lo,(1:Int),Builtin.Slice.slicePlaces lo hi 1)) _ _ s
 rw[rO lo hi n];show wpAny _ _ (pure (((bW n 0 lo:Nat):Int),(1:Int),Builtin.Slice.slicePlaces ((bW n 0 lo:Nat):Int) ((bW n n hi:Nat):Int) 1)) _ _ s;rw[sG];exact wpAny_pure h
theorem zY(xs:Array Value)(i k:Nat):((List.range k).filterMap λ(m:Nat)=>xs[((i:Int)+(m:Int)*1).toNat]?).toArray=((xs.toList.drop i).take k).toArray:=by
 have e:(λ(m:Nat)=>xs[((i:Int)+(m:Int)*1).toNat]?)=λm=>xs[i+m]?:=by
  funext m
  have:((i:Int)+(m:Int)*1).toNat=i+m:=by lia
  rw[this]
 rw[e];have:=pick_run xs i k;rw[List.filterMap_map] at this;have e2:((λx=>xs[x]?) ∘ λx=>i+x)=λm=>xs[i+m]?:=rfl;rw[e2] at this;rw[this]
theorem i6{t sl:Addr}{items:Array Value}{vl vu:Value}{lo hi:Option Int}{Q:Value->Shared->Prop}(ht:IsTup s.heap t items)(hs:s.heap.IsSliceOf sl vl vu .none)(pl:IsPart vl lo)(pu:IsPart vu hi)
  (hw:¬ (bW items.size 0 lo=0/\bW items.size items.size hi=items.size))
  (h:Q (.ref s.heap.objs.size) {s with heap:=s.heap.push {cls:=.type "tuple",data:=.seq ((items.toList.drop (bW items.size 0 lo)).take (bW items.size items.size hi-bW items.size 0 lo)).toArray}})
  (hsz:items.size<=sizeLine):wpAny (model prog w) A (getItem (.ref t) (.ref sl)) Q E s:=by
 have htake:sizeOk (.seq ((items.toList.drop (bW items.size 0 lo)).take (bW items.size items.size hi-bW items.size 0 lo)).toArray):=by
  show ((items.toList.drop (bW items.size 0 lo)).take (bW items.size items.size hi-bW items.size 0 lo)).toArray.size<=sizeLine;rw[List.size_toArray,List.length_take,List.length_drop,Array.length_toList];exact Nat.le_trans (Nat.min_le_right _ _) (Nat.le_trans (Nat.sub_le _ _) hsz)
 have hj:bW items.size items.size hi<=items.size:=rS _ _ (Nat.le_refl _) hi;obtain⟨os,hos,hcs,uC⟩:=id hs;have hTs:s.TypeIs (.ref sl) "slice":=⟨os,hos,hcs⟩;unfold getItem
 try with_reducible refine wpAny_holding ?_
 first|refine wpAny_bind (wpAny_pure ?_)|skip
 refine wpAny_bind (wpAny_sequenceKey ht.typeIs (by decide) ?_)
 refine wpAny_bind (wpAny_callSpecial?_slot (name:=Str.ofString "__getitem__") ht.typeIs PyProof.Rows.slot_tuple_getitem
  (wpAny_call_entry PyProof.Rows.slot_tuple_getitem ht.typeIs entry_tuple_getitem ?_ (args_tuple_getitem _ _)))
 show wpAny _ _ (Builtin.Tuple.tupleItemsOf (.ref t) >>= _) _ _ s;refine wpAny_bind (tupleItemsOf_ ht ?_);refine wpAny_bind (wpAny_typeOf hTs ?_);rw[if_pos (by decide)]
 refine wpAny_bind (fu hs pl pu ?_);have hno:¬ ((((bW items.size 0 lo:Nat):Int) == 0 && (1:Int) == 1 && (bW items.size items.size hi-bW items.size 0 lo) == items.size)=true):=by
  intro q;rw[Bool.and_eq_true,Bool.and_eq_true] at q;have q1:((bW items.size 0 lo:Nat):Int)=0:=eq_of_beq q.1.1;have q2:bW items.size items.size hi-bW items.size 0 lo=items.size:=eq_of_beq q.2;exact hw ⟨by lia,by lia⟩
 show wpAny _ _ (if (((bW items.size 0 lo:Nat):Int) == 0 && (1:Int) == 1 && (bW items.size items.size hi-bW items.size 0 lo) == items.size)=true then _ else _) _ _ s
 rw[if_neg hno,zY]
 first
  |exact wpAny_bind (m:=Builtin.Tuple.tupleExact _) (wpAny_newObj_type (wpAny_pure ⟨_,rfl,wpAny_pure h⟩) htake)
  |exact wpAny_bind (m:=Builtin.Tuple.tupleExact _) (wpAny_newObj_type (wpAny_bind (wpAny_pure (wpAny_pure ⟨_,rfl,wpAny_pure h⟩))) htake)
  |exact wpAny_bind (wpAny_bind (m:=Builtin.Tuple.tupleExact _) (wpAny_newObj_type (wpAny_pure (wpAny_pure ⟨_,rfl,wpAny_pure h⟩)) htake))
  |exact wpAny_bind (wpAny_bind (m:=Builtin.Tuple.tupleExact _) (wpAny_newObj_type (wpAny_pure ⟨_,rfl,wpAny_pure h⟩) htake))
end
end HT
namespace L2
open PySem PySem.Spec PyProof.Rows
variable{r:V->Option Int->Option Int->Hp->VK->Prop}{xs:List (List Key×Addr×Value)}{its its' us:List Value}{α:Type}{pins:List (Addr×Obj)}{σ:St}{H H':Hp}{x y:V}{u:Value}{o:Option V}{P:Program}{w:World}{kvs:List (List Key×V)}{Q:Value->Shared->Prop}
abbrev TO:=St->Hp->(Option Int->Hp->Prop)->Prop
noncomputable def PO(X:Cx)(e:Option Expr)(t:TO):Prop:=
 ∀(pins:List (Addr×Obj)) (s:Shared) (σ:St) (H:Hp) (Q:Option Int->Hp->Prop),Inv X pins σ H s->t σ H Q ->
  wpAny (model X.prog X.w) X.A (evalPart e X.env) (λu s'=>∃o H',Inv X pins σ H' s'/\IsPart u o/\Q o H') X.xe s
noncomputable def iD:TO:=λ_ H Q=>Q none H
noncomputable def qj(t:TE):TO:=λσ H Q=>t σ H λx H1=>∃i,x=.int i/\Q (some i) H1
theorem intsAre_of{ns:List Int}:∀{us:List Value},Vals (ns.map V.int) us->IntsAre us ns:=by
 induction ns with
 |nil=>intro us r;rw[Ml] at r;cases r;exact .nil
 |cons n ns ih =>
  intro us r;rw[Ku] at r
  cases r with
  |cons r1 r2 =>
   obtain⟨t,e⟩:=r1;subst e;exact .cons n t (ih r2)
section
variable {X:Cx} {e:Expr} {te:TE} {lo hi:Option Expr} {tl th:TO} {pos p2:Pos}
theorem CI:PO X none iD:=by
 intro pins s σ H Q I h;rw[evalPart_none];exact JV ⟨none,H,I,.none,h⟩
theorem AX(h:PE X e te):PO X (some e) (qj te):=by
 intro pins s σ H Q I hw;rw[evalPart_some];refine cz (h pins s σ H _ I hw) λu s1 hq50=>?_;obtain⟨x,H1,I1,r1,q1⟩:=hq50;obtain⟨i,rfl,q⟩:=q1;obtain⟨t,rfl⟩:=r1;exact⟨some i,H1,I1,.int i t,q⟩
noncomputable def uP(X:Cx)(r:V->Option Int->Option Int->Hp->VK->Prop):Prop:=
 ∀(pins:List (Addr×Obj)) (s:Shared) (σ:St) (H:Hp) (x:V) (v vl vu:Value) (lo hi:Option Int) (sl:Addr) (Q:VK),Inv X pins σ H s->RelV x v->s.heap.IsSliceOf sl vl vu .none->IsPart vl lo->IsPart vu hi->r x lo hi H Q ->
  ∃T id,typeLookup (.type T) "__getitem__"=pure (some (.builtin id))/\s.TypeIs v T/\wpAny (model X.prog X.w) X.A (getItem v (.ref sl)) (EP X pins σ Q) X.xe s
theorem uP.or{r':V->Option Int->Option Int->Hp->VK->Prop}(h:uP X r)(h':uP X r'):uP X (λx lo hi H Q=>r x lo hi H Q\/r' x lo hi H Q):=by
 intro pins s σ H x v vl vu lo hi sl Q I rx hs pl pu q;rcases q with q|q
 ·exact h pins s σ H x v vl vu lo hi sl Q I rx hs pl pu q
 ·exact h' pins s σ H x v vl vu lo hi sl Q I rx hs pl pu q
noncomputable def GD(r:V->Option Int->Option Int->Hp->VK->Prop)(te:TE)(tl th:TO):TE:=λσ H Q=>te σ H λx H1=>tl σ H1 λl H2=>th σ H2 λu H3=>r x l u H3 Q
theorem wY(hr:uP X r)(he:PE X e te)(hl:PO X lo tl)(hu:PO X hi th):PE X (.Subscript e (.Slice lo hi none p2) pos) (GD r te tl th):=by
 intro pins s σ H Q I h;refine Subscript_ (cz (he pins s σ H _ I h) λv s1 hq51=>?_);obtain⟨x,H1,I1,r1,q1⟩:=hq51;refine wpAny_Slice (cz (hl pins s1 σ H1 _ I1 q1) λvl s2 ⟨l,H2,I2,pl,q2⟩=>cz (hu pins s2 σ H2 _ I2 q2) λvu s3 hq52=>?_);obtain⟨u,H3,I3,pu,q3⟩:=hq52;rw[evalPart_none];refine JV ?_;have I4:Inv X pins σ H3 {s3 with heap:=s3.heap.push {cls:=.type "slice",data:=.fields #[vl,vu,.none]}}:=I3.kept (t':=s3.toks) λb ob q=>JM _ q
 obtain⟨T,id,hT,ht,hg⟩:=hr pins {s3 with heap:=s3.heap.push {cls:=.type "slice",data:=.fields #[vl,vu,.none]}} σ H3 x v vl vu l u s3.heap.objs.size Q I4 r1 (Heap.IsSliceOf.new ..) pl pu q3
 show wpAny (model X.prog X.w) X.A (subscriptTail e (.Slice lo hi none p2) v (.ref s3.heap.objs.size)) (EP X pins σ Q) X.xe {s3 with heap:=s3.heap.push {cls:=.type "slice",data:=.fields #[vl,vu,.none]}}
 exact tail_any (ops:=[.ref s3.heap.objs.size,v]) ht hT hg (by with_unfolding_all rfl)
noncomputable def dP(xs:List V)(lo hi:Option Int):List V:=(xs.drop (HT.bW xs.length 0 lo)).take (HT.bW xs.length xs.length hi-HT.bW xs.length 0 lo)
theorem js(xs:List V)(lo hi:Option Int):(dP xs lo hi).length<=xs.length:=by
 unfold dP;rw[Ki,Kq];exact JX (Nat.min_le_right _ _) (Nat.sub_le _ _)
noncomputable def rH(K:W.Frag):V->Option Int->Option Int->Hp->VK->Prop:=λx lo hi H Q=>∃a xs,x=.ref a/\bB K H a xs /\
 ¬ (HT.bW xs.length 0 lo=0/\HT.bW xs.length xs.length hi=xs.length)/\∀p,H p=none->Q (.ref p) (upd H p (.tup (dP xs lo hi)))
theorem rG:uP X (rH X.K):=by
 intro pins s σ H x v vl vu lo hi sl Q I rx hs pl pu h;obtain⟨a,xs,rfl,hx,hw,q⟩:=h;cases rx;obtain⟨its,r,ht,hz⟩:=I.tuple hx;have hlen:its.toArray.size=xs.length:=by rw[JP];exact r.length.symm
 refine⟨"tuple",_,L1.lookup,ht.typeIs,?_⟩;refine HT.i6 ht hs pl pu (by rw[hlen];exact hw) ?_ (by rw[hlen];exact hz)
 rw[hlen];refine⟨.ref s.heap.objs.size,_,I.laid (t':=s.toks) (o:=.tup (dP xs lo hi)) (λb ob q=>JM _ q) (JS _) ?_,rfl,q _ (I.bc.fresh (JS _))⟩;exact⟨JX (js xs lo hi) hz,_,(r.drop (HT.bW xs.length 0 lo)).take (HT.bW xs.length xs.length hi-HT.bW xs.length 0 lo),eB.new _ _⟩
noncomputable def Hz(K:W.Frag):R2:=λx y H Q=>∃a b xs ys,x=.ref a/\y=.ref b/\bB K H a xs/\bB K H b ys/\xs≠[]/\xs.length+ys.length<=sizeLine /\
 (ys=[]->Q (.ref a) H)/\(ys≠[]->∀p,H p=none->Q (.ref p) (upd H p (.tup (xs++ys))))
theorem Vals.ny{xs:List V}(r:Vals xs us):us=[] ↔ xs=[]:=by
 cases r with
 |nil=>simp
 |cons _ _=>simp
theorem uR:dc X (binaryOp .Add) (Hz X.K):=by
 intro pins s σ H x y v u Q I rx ry h;obtain⟨a,b,xs,ys,rfl,rfl,ha,hb,hx,hz,q1,q2⟩:=h;cases rx;cases ry;obtain⟨its,r1,p1,_⟩:=I.tuple ha;obtain⟨its2,r2,p2,_⟩:=I.tuple hb;refine HT.Bx p1 p2 (λz=>hx (r1.ny.mp z)) (λz=>⟨.ref a,H,I,rfl,q1 (r2.ny.mp z)⟩) (λz=>?_) (by rw[<- r1.length,<- r2.length];exact hz)
 refine⟨.ref s.heap.objs.size,_,I.laid (t':=s.toks) (o:=.tup (xs++ys)) (λb ob q=>JM _ q) (JS _) ?_,rfl,q2 (λw=>z (r2.ny.mpr w)) _ (I.bc.fresh (JS _))⟩;exact⟨by rw[JL];exact hz,_,r1.append r2,eB.new _ _⟩
end
noncomputable def lV(n:Nat)(i:Int):Option Nat:=if 0<=i then (if i<n then some i.toNat else none) else if -(n:Int)<=i then some (i+n).toNat else none
noncomputable def cI(xs:List α)(i:Int):Option α:=(lV xs.length i).bind λj=>xs[j]?
theorem tF{n:Nat}{i:Int}{j:Nat}(h:lV n i=some j):seqIndex? i n=some j/\j<n/\-(n:Int)<=i/\i<n:=by
 unfold lV at h;by_cases h0:0<=i
 ·rw[JQ h0] at h;by_cases h1:i<n
  ·rw[JQ h1] at h;have e:i.toNat=j:=Option.some.inj h;exact⟨by rw[seqIndex_of h0 h1,e],by lia,by lia,h1⟩
  ·rw[JN h1] at h;cases h
 ·rw[JN h0] at h;by_cases h1:-(n:Int)<=i
  ·rw[JQ h1] at h;have e:(i+n).toNat=j:=Option.some.inj h;exact⟨by rw[OS (by lia) h1,e],by lia,h1,by lia⟩
  ·rw[JN h1] at h;cases h
theorem oh{xs:List α}{i:Int}{v:α}(h:cI xs i=some v):∃j,seqIndex? i xs.length=some j/\xs[j]?=some v/\j<xs.length/\-(xs.length:Int)<=i/\i<xs.length:=by
 unfold cI at h
 cases e:lV xs.length i with
 |none=>rw[e] at h;cases h
 |some j =>
  rw[e] at h;obtain⟨h1,h2,h3,h4⟩:=tF e;exact⟨j,h1,h,h2,h3,h4⟩
theorem b9{xs:List α}{j:Nat}{v:α}(h:xs[j]?=some v):cI xs (j:Int)=some v:=by
 have hj:j<xs.length:=(JO.mp h).1;have e:lV xs.length (j:Int)=some j:=by
  unfold lV;rw[JQ (by lia),JQ (by lia)];simp
 unfold cI;rw[e];exact h
noncomputable def sO(b:Expr):Prop:=∀o i,subscripted b false o i=operate [o,i] (getItem o i)
noncomputable def uY(X:Cx)(r:R2):Prop:=
 ∀(value slice:Expr) (pins:List (Addr×Obj)) (s:Shared) (σ:St) (H:Hp) (x y:V) (v u:Value) (Q:VK),Inv X pins σ H s->RelV x v->RelV y u->r x y H Q ->
  subscripted slice false v u=operate [v,u] (getItem v u)->wpAny (model X.prog X.w) X.A (subscriptTail value slice v u) (EP X pins σ Q) X.xe s
noncomputable def wz(X:Cx)(id:String)(r:V->List V->Hp->VK->Prop):Prop:=
 ∀(pins:List (Addr×Obj)) (s:Shared) (σ:St) (H:Hp) (x:V) (xs:List V) (v:Value) (us:List Value) (Q:VK),Inv X pins σ H s->RelV x v->Vals xs us->r x xs H Q ->
  wpAny (model X.prog X.w) X.A (call (.builtin id) (v::us)) (EP X pins σ Q) X.xe s
section
variable {X:Cx} {a b:Expr} {ta tb:TE} {pos:Pos}
theorem uY.or{r r':R2}(h:uY X r)(h':uY X r'):uY X (λx y H Q=>r x y H Q\/r' x y H Q):=by
 intro value slice pins s σ H x y v u Q I rx ry q hs;rcases q with q|q
 ·exact h value slice pins s σ H x y v u Q I rx ry q hs
 ·exact h' value slice pins s σ H x y v u Q I rx ry q hs
theorem Dr{r:R2}(hr:uY X r)(ha:PE X a ta)(hb:PE X b tb)(hs:sO b):PE X (.Subscript a b pos) (xo r ta tb):=by
 intro pins s σ H Q I h;exact Subscript_ (FK ha hb I h λv u s2 x y H2 I2 rx ry q=>hr a b pins s2 σ H2 x y v u Q I2 rx ry q (hs _ _))
noncomputable def HR(K:W.Frag):R2:=λx y H Q=>∃p xs i v,x=.ref p/\y=.int i/\cf K H p xs/\cI xs i=some v/\Q v H
noncomputable def EC(K:W.Frag):R2:=λx y H Q=>∃p xs i v,x=.ref p/\y=.int i/\bB K H p xs/\cI xs i=some v/\Q v H
noncomputable def Hm:R2:=λx y H Q=>∃z i c,x=.str z/\y=.int i/\z.length<=sizeLine/\cI z.cps.toList i=some c/\Q (.str ⟨#[c]⟩) H
theorem A8:uY X (HR X.K):=by
 intro value slice pins s σ H x y v u Q I rx ry h hs;obtain⟨p,xs,i,z,rfl,rfl,hq,he,q⟩:=h;cases rx;obtain⟨t,rfl⟩:=ry;obtain⟨its,r,pl,hz⟩:=I.list hq;obtain⟨j,h1,h2,h3,h4,h5⟩:=oh he;obtain⟨w,ew,rw'⟩:=r.get h2;have hl:=r.length;have hn:=iR;have fin:EP X pins σ Q w s:=⟨z,H,I,rw',q⟩;by_cases h0:0<=i
 ·have hj:i.toNat=j:=by
   rw[seqIndex_of h0 h5] at h1;exact Option.some.inj h1
  exact item_listR pl.isList h0 (by lia) (by rw[hj];simpa using ew) fin hs
 ·have hj:(i+(its.toArray.size:Int)).toNat=j:=by
   rw[OS (by lia) h4] at h1
   rw[JP,<- hl];exact Option.some.inj h1
  exact subscriptTail_builtinR (x:=w) pl.isList.typeIs slot_list_getitem.lookup
   (wpAny_getItem_list_neg (Q:=λr s'=>r=w/\EP X pins σ Q r s') pl.isList (by lia) (by rw[JP]<;>lia) (by lia) (by rw[hj];simpa using ew) ⟨rfl,fin⟩) hs
theorem sm:uY X (EC X.K):=by
 intro value slice pins s σ H x y v u Q I rx ry h hs;obtain⟨p,xs,i,z,rfl,rfl,hq,he,q⟩:=h;cases rx;obtain⟨t,rfl⟩:=ry;obtain⟨its,r,pl,hz⟩:=I.tuple hq;obtain⟨j,h1,h2,h3,h4,h5⟩:=oh he;obtain⟨w,ew,rw'⟩:=r.get h2;have hl:=r.length;have hn:=iR;have fin:EP X pins σ Q w s:=⟨z,H,I,rw',q⟩;exact subscriptTail_builtinR (x:=w) pl.typeIs slot_tuple_getitem.lookup
  (getItem_tuple (j:=j) (Q:=λr s'=>r=w/\EP X pins σ Q r s') pl (by lia) (by lia) (by rw[JP,<- hl];exact h1) (by simpa using ew) ⟨rfl,fin⟩) hs
theorem DT:uY X Hm:=by
 intro value slice pins s σ H x y v u Q I rx ry h hs;obtain⟨z,i,c,rfl,rfl,hz,he,q⟩:=h;obtain⟨t,rfl⟩:=rx;obtain⟨t',rfl⟩:=ry;obtain⟨j,h1,h2,h3,h4,h5⟩:=oh he;have hl:z.cps.toList.length=z.length:=by simp[Str.length]
 rw[hl] at h1 h4 h5;have hn:=iR;exact tail_any (OI s z t) slot_str_getitem.lookup (getItem_str (c:=c) (by
  have e1:decide (i < -(2^63:Int))=false:=Ko (by lia)
  have e2:decide (i >= 2^63)=false:=Ko (by lia)
  rw[e1,e2,Bool.or_false]) (by rw[h1];simpa using h2) ⟨.str ⟨#[c]⟩,H,I.tok _,⟨_,rfl⟩,q⟩) hs
noncomputable def JG(K:W.Frag):R2:=λx y H Q=>HR K x y H Q\/EC K x y H Q\/Hm x y H Q
theorem DX:uY X (JG X.K):=A8.or (sm.or DT)
theorem sM(its:List Value)(n j:Nat)(u:Value):Obj.mapSeq (·.setIfInBounds j u) {cls:=.type "list",data:=.seq its.toArray n}={cls:=.type "list",data:=.seq (its.set j u).toArray n}:=by
 simp[Obj.mapSeq]
theorem Inv.lst{s:Shared}{p:Addr}{xs:List V}(I:Inv X pins σ H s)(h:H p=some (.lst xs)):
  ∃(its:List Value) (n:Nat),Vals xs its/\s.heap.get? p=some {cls:=.type "list",data:=.seq its.toArray n}/\xs.length<=sizeLine:=by
 obtain⟨z,its,n,r,e⟩:=I.bc p _ h;exact⟨its,n,r,e,z⟩
theorem Inv.E2{s:Shared}{p:Addr}{xs ys:List V}{n n':Nat}{f:Obj->Obj}(I:Inv X pins σ H s)(h:H p=some (.lst xs))
  (ho:s.heap.get? p=some {cls:=.type "list",data:=.seq its.toArray n}) (hf:f {cls:=.type "list",data:=.seq its.toArray n}={cls:=.type "list",data:=.seq its'.toArray n'}) (r:Vals ys its') (hz:ys.length<=sizeLine) (t:Nat) :
  Inv X pins σ (upd H p (.lst ys)) {s with heap:=s.heap.update p f,toks:=t}:=by
 have e:(s.heap.update p f).get? p=some {cls:=.type "list",data:=.seq its'.toArray n'}:=by
  rw[Mm f ho (by rw[hf]<;>rfl),hf]
 refine I.write (x:=p) (e:=p) (by rw[h];trivial) (.inl rfl) (λb u hb q=>(Ox _ _ (Ll hb)).trans q) ⟨_,e⟩ ?_
 exact⟨hz,its',n',r,e⟩
noncomputable def Ib:V->V->V->Hp->(Hp->Prop)->Prop:=λo i v H Q=>∃p xs k j,o=.ref p/\i=.int k/\H p=some (.lst xs)/\lV xs.length k=some j/\Q (upd H p (.lst (xs.set j v)))
theorem set_list:FC X Ib:=by
 intro pins s σ H o i v ov iv u Q I ro ri rv h;obtain⟨p,xs,k,j,rfl,rfl,hp,hj,q⟩:=h;cases ro;obtain⟨t,rfl⟩:=ri;obtain⟨its,n,r,ho,hz⟩:=I.lst hp;obtain⟨h1,h2,h3,h4⟩:=tF hj;have hl:=r.length;have hn:=iR;have I':Inv X pins σ (upd H p (.lst (xs.set j v))) {s with heap:=s.heap.update p (Obj.mapSeq (·.setIfInBounds j u))}:=
  I.E2 hp ho (sM its n j u) (r.set rv j) (by rw[KD];exact hz) s.toks
 by_cases h0:0<=k
 ·have hk:k.toNat=j:=by
   rw[seqIndex_of h0 h4] at h1;exact Option.some.inj h1
  exact W.ki_setAt ho h0 (by lia) (by rw[JP,<- hl];exact h4) (by rw[hk];exact⟨_,I',q⟩)
 ·have hk:(k+(its.toArray.size:Int)).toNat=j:=by
   rw[OS (by lia) h3] at h1
   rw[JP,<- hl];exact Option.some.inj h1
  exact W.ki_setBack ho (by lia) (by rw[JP,<- hl];exact h3) (by lia) (by rw[hk];exact⟨_,I',q⟩)
theorem ow(lo hi:Option Int)(n:Nat):(sliceBounds lo hi none n).1=((HT.bW n 0 lo:Nat):Int)/\(sliceBounds lo hi none n).2.1=((HT.bW n n hi:Nat):Int)/\(sliceBounds lo hi none n).2.2=1:=by
 refine⟨?_,?_,rfl⟩
 ·cases lo with
  |none=>simp[sliceBounds,HT.bW]
  |some i =>
   simp only[sliceBounds,HT.bW,Option.getD_none,show (1:Int) > 0 by decide,Mn]
   by_cases h:i<0
   ·simp only[h,Mn]<;>lia
   ·simp only[h,Mv]<;>lia
 ·cases hi with
  |none=>simp[sliceBounds,HT.bW]
  |some i =>
   simp only[sliceBounds,HT.bW,Option.getD_none,show (1:Int) > 0 by decide,Mn]
   by_cases h:i<0
   ·simp only[h,Mn]<;>lia
   ·simp only[h,Mv]<;>lia
theorem mi(its:List Value)(lo hi:Option Int):slicePick its.toArray lo hi none=((its.drop (HT.bW its.length 0 lo)).take (HT.bW its.length its.length hi-HT.bW its.length 0 lo)).toArray:=by
 obtain⟨h1,h2,h3⟩:=ow lo hi its.toArray.size;unfold slicePick;rw[h1,h2,h3];simp only[sliceRange_one,pick_run,JP]<;>rfl
noncomputable def EX(K:W.Frag):V->Option Int->Option Int->Hp->VK->Prop:=λx lo hi H Q=>∃a xs,x=.ref a/\cf K H a xs/\∀p,H p=none->Q (.ref p) (upd H p (.lst (dP xs lo hi)))
theorem oy:uP X (EX X.K):=by
 intro pins s σ H x v vl vu lo hi sl Q I rx hs pl pu h;obtain⟨a,xs,rfl,hx,q⟩:=h;cases rx;obtain⟨its,r,ht,hz⟩:=I.list hx;have hlen:=r.length;refine⟨"list",_,slot_list_getitem.lookup,ht.isList.typeIs,?_⟩;refine wpAny_getItem_list_slice ht.isList hs pl pu .none (by simp) ?_ (by rw[JP]<;>lia)
 rw[mi,<- hlen];refine⟨.ref s.heap.objs.size,_,I.laid (t':=s.toks) (o:=.lst (dP xs lo hi)) (λb ob q=>JM _ q) (JS _) ?_,rfl,q _ (I.bc.fresh (JS _))⟩;exact⟨JX (js xs lo hi) hz,_,0,(r.drop (HT.bW xs.length 0 lo)).take (HT.bW xs.length xs.length hi-HT.bW xs.length 0 lo),Kc _ rfl⟩
noncomputable def cK:V->Bool
 |.aU=>true
 |.bl _=>true
 |.int _=>true
 |.str _=>true
 |_=>false
noncomputable def wI:V->V->Bool
 |.aU,.aU=>true
 |.bl a,.bl b=>a == b
 |.bl a,.int b=>(if a then 1 else 0) == b
 |.int a,.bl b=>a ==(if b then 1 else 0)
 |.int a,.int b=>a == b
 |.str a,.str b=>a == b
 |_,_=>false
theorem nV{A:Around}{s:Shared}{v:Value}(ry:RelV y u)(rx:RelV x v)(fy:cK y=true)(fx:cK x=true):SeqAt.EqAt A s u v (wI y x):=by
 cases y with
 |aU =>
  cases ry
  cases x with
  |aU=>cases rx;exact SeqAt.EqAt.same _
  |bl b=>cases rx;exact SeqAt.EqAt.none_bool b
  |int b=>obtain⟨t,rfl⟩:=rx;exact SeqAt.EqAt.none_int b t
  |str b=>obtain⟨t,rfl⟩:=rx;exact SeqAt.EqAt.none_str b t
  |_=>exact absurd (show false=true from fx) JZ
 |bl a =>
  cases ry
  cases x with
  |aU=>cases rx;exact SeqAt.EqAt.bool_none a
  |bl b=>cases rx;exact SeqAt.EqAt.bool_bool a b
  |int b=>obtain⟨t,rfl⟩:=rx;exact SeqAt.EqAt.bool_int a b t
  |str b=>obtain⟨t,rfl⟩:=rx;exact SeqAt.EqAt.bool_str a b t
  |_=>exact absurd (show false=true from fx) JZ
 |int a =>
  obtain⟨t',rfl⟩:=ry
  cases x with
  |aU=>cases rx;exact SeqAt.EqAt.int_none a t'
  |bl b=>cases rx;exact SeqAt.EqAt.int_bool a t' b
  |int b=>obtain⟨t,rfl⟩:=rx;exact SeqAt.EqAt.int_int a t' b t
  |str b=>obtain⟨t,rfl⟩:=rx;exact SeqAt.EqAt.int_str a t' b t
  |_=>exact absurd (show false=true from fx) JZ
 |str a =>
  obtain⟨t',rfl⟩:=ry
  cases x with
  |aU=>cases rx;exact SeqAt.EqAt.str_none a t'
  |bl b=>cases rx;exact SeqAt.EqAt.str_bool a t' b
  |int b=>obtain⟨t,rfl⟩:=rx;exact SeqAt.EqAt.str_int a t' b t
  |str b=>obtain⟨t,rfl⟩:=rx;exact SeqAt.EqAt.str_str a t' b t
  |_=>exact absurd (show false=true from fx) JZ
 |_=>exact absurd (show false=true from fy) JZ
noncomputable def C5(x:V)(u:Value):Bool:=match u with
 |.none=>wI .aU x
 |.bool b=>wI (.bl b) x
 |.int i _=>wI (.int i) x
 |.str z _=>wI (.str z) x
 |_=>false
theorem yP(r:RelV y u)(f:cK y=true):C5 x u=wI y x:=by
 cases y with
 |aU=>cases r;rfl
 |bl b=>cases r;rfl
 |int i=>obtain⟨t,rfl⟩:=r;rfl
 |str z=>obtain⟨t,rfl⟩:=r;rfl
 |_=>exact absurd (show false=true from f) JZ
theorem m_:∀{xs:List V} {us:List Value},Vals xs us->xs.all cK=true->us.any (C5 x)=xs.any λy=>wI y x
 |_,_,.nil,_=>rfl
 |y::xs,u::us,.cons r t,f=>by
  rw[L7,KO] at f;rw[MW,MW,yP r f.1,m_ t f.2]
theorem jU{A:Around}{s:Shared}{v:Value}(rx:RelV x v)(fx:cK x=true):∀{xs:List V} {us:List Value},Vals xs us->xs.all cK=true->∀u∈us,SeqAt.EqAt A s u v (C5 x u)
 |_,_,.nil,_=>λu hu=>by cases hu
 |y::xs,u::us,.cons r t,f=>λu' hu=>by
  rw[L7,KO] at f;rcases JR.mp hu with rfl|hu
  ·rw[yP r f.1];exact nV r rx f.1 fx
  ·exact jU rx fx t f.2 u' hu
noncomputable def qI(x:V)(xs:List V):Bool:=xs.any λy=>wI y x
noncomputable def IT(K:W.Frag)(neg:Bool):R2:=λx y H Q=>∃p xs,y=.ref p/\(cf K H p xs\/bB K H p xs)/\cK x=true/\xs.all cK=true/\Q (.bl (if neg then !qI x xs else qI x xs)) H
theorem mN:dc X (compareOp .In) (IT X.K false):=by
 intro pins s σ H x y v u Q I rx ry h;obtain⟨p,xs,rfl,hq,fx,fs,q⟩:=h;cases ry;rcases hq with hq|hq
 ·obtain⟨its,r,pl,hz⟩:=I.list hq;refine SeqAt.in_listAt (C5 x) pl.isList (λw hw=>jU rx fx r fs w (by simpa using hw)) ⟨.bl _,H,I,rfl,?_⟩
  rw[show its.toArray.any (C5 x)=its.any (C5 x) by simp,m_ r fs]
  exact q
 ·obtain⟨its,r,pl,hz⟩:=I.tuple hq;refine SeqAt.in_tupleAt (C5 x) pl (λw hw=>jU rx fx r fs w (by simpa using hw)) ⟨.bl _,H,I,rfl,?_⟩
  rw[show its.toArray.any (C5 x)=its.any (C5 x) by simp,m_ r fs]
  exact q
theorem bK.or{f:Value}{r r':List V->Hp->VK->Prop}(h:bK X f r)(h':bK X f r'):bK X f (λxs H Q=>r xs H Q\/r' xs H Q):=by
 intro pins s σ H xs us Q I rs q;rcases q with q|q
 ·exact h pins s σ H xs us Q I rs q
 ·exact h' pins s σ H xs us Q I rs q
theorem ff:bK X (.type "tuple") (λxs H Q=>∃p ys,xs=[.ref p]/\((cf X.K H p ys/\∀l,H l=none->Q (.ref l) (upd H l (.tup ys)))\/(bB X.K H p ys/\Q (.ref p) H))):=by
 intro pins s σ H xs us Q I r h;obtain⟨p,ys,rfl,h⟩:=h;obtain⟨u,rfl,rx⟩:=vals1 r;cases rx;rcases h with ⟨hq,q⟩|⟨hq,q⟩
 ·obtain⟨its,r',pl,hz⟩:=I.list hq;have hlen:=r'.length;refine call_tuple_list pl.isList (λh' kp=>?_) (by simp only[JP]<;>lia)
  have I1:Inv X pins σ H {s with heap:=h'}:=I.kept (t':=s.toks) kp
  have I2:Inv X pins σ (upd H h'.objs.size (.tup ys)) {s with heap:=h'.push {cls:=.type "tuple",data:=.seq its.toArray}}:=
   I1.laid (t':=s.toks) (λb o e=>JM _ e) (JS _) (show bS X.prog X.w _ _ _ (.tup ys) from⟨hz,its,r',eB.new _ _⟩)
  exact⟨.ref h'.objs.size,_,I2,rfl,q _ (I1.bc.fresh (JS _))⟩
 ·obtain⟨its,r',pl,hz⟩:=I.tuple hq;exact call_tuple_same pl ⟨.ref p,H,I,rfl,q⟩
noncomputable def Gm(K:W.Frag)(T:String)(x:V)(H:Hp):Prop:=match x with
 |.str _=>T="str"
 |.int _=>T="int"
 |.ref p=>(T="list"/\∃xs,cf K H p xs)\/(T="tuple"/\∃o,K.lookup p=some o/\o.cls=.type "tuple"/\o.dict=none) \/
   (T="dict"/\((∃kvs,H p=some (.dK kvs))\/∃kvs,H p=some (.dT kvs)))\/(T="set"/\∃S n,H p=some (.set S n))
 |_=>False
theorem ym{s:Shared}{T:String}{v:Value}(I:Inv X pins σ H s)(r:RelV x v)(ty:Gm X.K T x H):
  s.TypeIs v T/\∀a,v=.ref a->∃ob,s.heap.get? a=some ob/\ob.dict=none:=by
 cases x with
 |str z =>
  obtain⟨t,rfl⟩:=r
  cases (show T="str" from ty)
  exact⟨OI s z t,λ_ e=>nomatch e⟩
 |int i =>
  obtain⟨t,rfl⟩:=r
  cases (show T="int" from ty)
  exact⟨NO s i t,λ_ e=>nomatch e⟩
 |ref p =>
  cases r;rcases ty with ⟨rfl,xs,hq⟩|⟨rfl,o,hk,hc,hd⟩|⟨rfl,hk⟩|⟨rfl,S,n,hk⟩
  ·obtain⟨its,_,pl,_⟩:=I.list hq;refine⟨pl.isList.typeIs,λa e=>?_⟩;cases e;obtain⟨o,n,e,c,hd,_⟩:=pl;exact⟨o,e,hd⟩
  ·refine⟨⟨o,I.pJ p o hk,hc⟩,λa e=>?_⟩;cases e;exact⟨o,I.pJ _ o hk,hd⟩
  ·have z:∃o,s.heap.get? p=some o/\o.ExactDict:=by
    rcases hk with ⟨kvs,hk⟩|⟨kvs,hk⟩
    ·obtain⟨_,_,_,_,o,_,_,e,ex,_⟩:=I.bc p _ hk;exact⟨o,e,ex⟩
    ·obtain⟨_,_,_,_,o,_,_,e,ex,_⟩:=I.bc p _ hk;exact⟨o,e,ex⟩
   obtain⟨o,e,ex⟩:=z;refine⟨⟨o,e,ex.1⟩,λa e2=>?_⟩;cases e2;exact⟨o,e,ex.2.1⟩
  ·obtain⟨o,_,_,_,e,ex,_⟩:=I.bc p _ hk;refine⟨⟨o,e,ex.1⟩,λa e2=>?_⟩;cases e2;exact⟨o,e,ex.2.1⟩
 |_=>exact False.elim ty
noncomputable def yA(K:W.Frag)(T:String)(r:V->List V->Hp->VK->Prop)(to:TE):TE:=λσ H Q=>to σ H λx H1=>Gm K T x H1/\r x [] H1 Q
noncomputable def DY(K:W.Frag)(T:String)(r:V->List V->Hp->VK->Prop)(to:TE)(t:TA):TE:=λσ H Q=>to σ H λx H1=>Gm K T x H1/\t σ H1 λxs H2=>r x xs H2 Q
variable {o e:Expr} {es:List Expr} {to:TE} {t:TA} {name:Str} {apos cpos:Pos} {T id:String} {r:V->List V->Hp->VK->Prop}
theorem Gd(pa:PlainAttrs T)(slot:Slot T name id)(hty:typeOf (.builtin id)=pure (.type "method_descriptor"))(hm:wz X id r)(ho:PE X o to)
  (hbase:autoParam (attributeBase o name X.env (eval o X.env)=eval o X.env) ℜ0) (hline:autoParam ((apos.endLine == cpos.line)=true) ℜ0):PE X (.Call (.Attribute o name apos) [] [] cpos) (yA X.K T r to):=by
 intro pins s σ H Q I h;refine wpAny_Call_method0_late hbase hline (cz (ho pins s σ H _ I h) λv s1 hq53=>?_);obtain⟨x,H1,I1,r1,ty,q1⟩:=hq53;obtain⟨h1,h2⟩:=ym I1 r1 ty;exact⟨T,id,pa,slot,hty,h1,h2,Oy rfl (PySem.evalArgs_none (hm pins s1 σ H1 x [] v [] Q I1 r1 .nil q1))⟩
theorem Gx(pa:PlainAttrs T)(slot:Slot T name id)(hty:typeOf (.builtin id)=pure (.type "method_descriptor"))(hm:wz X id r)(ho:PE X o to)(ha:PA X (e::es) t)
  (hbase:autoParam (attributeBase o name X.env (eval o X.env)=eval o X.env) ℜ0)
  (hfew:autoParam (((backTo cpos (starEach (e::es) X.env)).all (λx=>!x.1) && (backToKw cpos (keywordEach [] X.env)).all (λx=>x.1.isSome)
   && decide ((e::es).length+([]:List Keyword).length+(if ([]:List Keyword).isEmpty then 0 else 1)<30))=true) ℜ0)
  (hline:autoParam ((apos.endLine == cpos.line)=true) ℜ0) (hs:autoParam (starEach (e::es) X.env=(false,eval e X.env)::starEach es X.env) ℜ0) (hplain:autoParam ((backTo cpos (starEach es X.env)).any (·.1)=false) ℜ0) :
  PE X (.Call (.Attribute o name apos) (e::es) [] cpos) (DY X.K T r to t):=by
 intro pins s σ H Q I h;refine wpAny_Call_method_late hbase hfew hline rfl (cz (ho pins s σ H _ I h) λv s1 hq54=>?_);obtain⟨x,H1,I1,r1,ty,q1⟩:=hq54;obtain⟨h1,h2⟩:=ym I1 r1 ty;refine⟨T,id,pa,slot,hty,h1,h2,?_⟩;have hA:=ha cpos pins s1 σ H1 _ I1 q1;rw[hs] at hA ⊢;refine Oy (by show (false || (backTo cpos (starEach es X.env)).any (·.1))=false;rw[hplain]<;>rfl) (Calls.evalArgs_plain ?_)
 exact cz hA λus s2 ⟨vs,H2,I2,r2,q2⟩=>hm pins s2 σ H2 x vs v us Q I2 r1 r2 q2
/- xs.append(e),list.index on a module's tuple .. are wz facts of 06m -/
end
noncomputable def Iq(X:Cx)(id:String)(r:V->List V->Hp->VK->Prop):Prop:=
 ∀(pins:List (Addr×Obj)) (s:Shared) (σ:St) (H:Hp) (x:V) (xs:List V) (v:Value) (us:List Value) (Q:VK),Inv X pins σ H s->RelV x v->Vals xs us->r x xs H Q ->
  wpAny (model X.prog X.w) X.A (call (.builtin id) (v::us)) (EP X pins σ Q) X.xe s
theorem Vals.one:∀{x:V} {us:List Value},Vals [x] us->∃u,us=[u]/\RelV x u
 |_,_,.cons r .nil=>⟨_,rfl,r⟩
theorem Vals.eraseIdx:∀{xs:List V} {us:List Value} (i:Nat),Vals xs us->Vals (xs.eraseIdx i) (us.eraseIdx i)
 |_,_,_,.nil=>.nil
 |_,_,0,.cons _ t=>t
 |_,_,i+1,.cons r t=>.cons r (Vals.eraseIdx i t)
theorem Vals.rep{xs:List V}(h:Vals xs us):∀k:Nat,Vals (List.replicate k xs).flatten (List.replicate k us).flatten
 |0=>.nil
 |k+1=>by
  rw[K4,K4,Mh,Mh];exact Vals.append h (Vals.rep h k)
theorem m6:∀(l:List α) (i:Nat),(l.eraseIdx i).length<=l.length
 |[],_=>JS _
 |_::_,0=>KI _
 |_::r,i+1=>Oa (m6 r i)
theorem foldl_rep(its:List Value):∀(k:Nat) (acc:List Value),
  List.foldl (λx1 x2=>x1++x2) acc.toArray (List.replicate k its.toArray)=(acc++(List.replicate k its).flatten).toArray
 |0,acc=>by simp
 |k+1,acc=>by
  have e:acc.toArray++its.toArray=(acc++its).toArray:=by simp
  have e2:(acc++its)++(List.replicate k its).flatten=acc++(List.replicate (k+1) its).flatten:=by
   rw[K4,Mh,Kj]
  rw[<- e2,<- foldl_rep its k (acc++its),<- e,K4,Ni]
section
variable {X:Cx} {pins:List (Addr×Obj)} {σ:St} {H:Hp} {s:Shared} {l b:Addr} {xs ys zs:List V}
theorem Inv.FE{n:Nat}{f:Array Value->Array Value}{t':Nat}(I:Inv X pins σ H s)(hH:H l=some (.lst xs))
  (e:s.heap.get? l=some {cls:=.type "list",data:=.seq its.toArray n}) (hf:f its.toArray=its'.toArray) (hv:Vals ys its') (hz:ys.length<=sizeLine) :
  Inv X pins σ (upd H l (.lst ys)) {s with heap:=s.heap.update l (Obj.mapSeq f),toks:=t'}:=by
 have q:=PySem.IsL.update e f;rw[hf] at q;refine I.write (x:=l) (e:=l) (by rw[hH];exact trivial) (.inl rfl) (λb' u hb hu=>(Ox s.heap (Obj.mapSeq f) (Ll hb)).trans hu) ⟨_,q⟩ ?_
 exact⟨hz,its',_,hv,q⟩
theorem Inv.E5{t':Nat}(I:Inv X pins σ H s)(hv:Vals ys its)(hz:ys.length<=sizeLine):
  Inv X pins σ (upd H s.heap.objs.size (.lst ys)) {s with heap:=s.heap.push {cls:=.type "list",data:=.seq its.toArray},toks:=t'}:=
 I.laid (λ_ _ q=>JM _ q) (JS _) ⟨hz,its,0,hv,Kc _ rfl⟩
theorem Inv.fresh(I:Inv X pins σ H s):H s.heap.objs.size=none:=I.bc.fresh (JS _)
theorem Inv.sf(I:Inv X pins σ H s)(hH:H l=some (.lst xs)):xs.length<=sizeLine/\∃(its:List Value) (n:Nat),Vals xs its/\xs.length=its.length/\s.heap.get? l=some {cls:=.type "list",data:=.seq its.toArray n}:=by
 obtain⟨z,its,n,r,e⟩:=I.bc l _ hH;exact⟨z,its,n,r,r.length,e⟩
theorem yH{n:Nat}(h:n<=sizeLine):Builtin.List.listTooLong n=false:=by
 unfold Builtin.List.listTooLong;exact Ko (by lia)
end
section
variable {X:Cx}
noncomputable def sR:V->List V->Hp->VK->Prop:=λx vs H Q=>∃l xs y,x=.ref l/\vs=[y]/\H l=some (.lst xs)/\xs.length<sizeLine/\Q .aU (upd H l (.lst (xs++[y])))
theorem mF:Iq X "list.append" sR:=by
 intro pins s σ H x vs v us Q I rx rv h;obtain⟨l,xs,y,rfl,rfl,hH,hz,q⟩:=h;cases rx;obtain⟨u,rfl,ru⟩:=rv.one;obtain⟨z,its,n,r,hl,e⟩:=I.sf hH;refine Ma F.slot_list_append ⟨_,e,rfl⟩ F.entry_list_append (F.args_list_append_2 _ _) (PySem.list_append l its.toArray n u (by rw[JP];lia)) ⟨e,?_⟩
 refine⟨.aU,_,I.FE (its':=its++[u]) hH e (by simp) (r.append (.cons ru .nil)) ?_,rfl,q⟩
 rw[JL,Mo];lia
noncomputable def EG:V->List V->Hp->VK->Prop:=λx vs H Q=>∃l xs i k y,x=.ref l/\vs=[.int i]/\H l=some (.lst xs)/\-(2^63)<=i/\i<2^63/\seqIndex? i xs.length=some k/\xs[k]?=some y/\Q y (upd H l (.lst (xs.eraseIdx k)))
theorem zO:Iq X "list.pop" EG:=by
 intro pins s σ H x vs v us Q I rx rv h;obtain⟨l,xs,i,k,y,rfl,rfl,hH,h1,h2,hk,hy,q⟩:=h;cases rx;obtain⟨u,rfl,ru⟩:=rv.one;obtain⟨t,rfl⟩:=ru;obtain⟨z,its,n,r,hl,e⟩:=I.sf hH;obtain⟨w,hw,rw'⟩:=r.get hy;refine Ma F.slot_list_pop ⟨_,e,rfl⟩ F.entry_list_pop (F.args_list_pop_2 _ _)
  (MeetsSeq.list_pop_at l its.toArray n i t k w (O9 h1 h2) (by rw[JP,<- hl];exact hk) (by rw[<- Kx];exact hw) (by rw[JP];lia)) ⟨e,?_⟩
 refine⟨y,_,I.FE (its':=its.eraseIdx k) hH e ?_ (r.eraseIdx k) ?_,rw',q⟩
 ·show its.toArray.eraseIdxIfInBounds k=(its.eraseIdx k).toArray;rw[List.eraseIdxIfInBounds_toArray]
 ·have:=m6 xs k;lia
noncomputable def HJ:R2:=λx y H Q=>∃l b xs zs,x=.ref l/\y=.ref b/\H l=some (.lst xs)/\H b=some (.lst zs)/\xs.length+zs.length<=sizeLine/\∀p,H p=none->Q (.ref p) (upd H p (.lst (xs++zs)))
theorem zu:dc X (binaryOp .Add) HJ:=by
 intro pins s σ H x y v u Q I rx ry h;obtain⟨l,b,xs,zs,rfl,rfl,hH,hB,hz,q⟩:=h;cases rx;cases ry;obtain⟨z,its,n,r,hl,e⟩:=I.sf hH;obtain⟨z2,its2,n2,r2,hl2,e2⟩:=I.sf hB;refine PySem.P.add_list e e2 ?_ (by rw[JP,JP];lia)
 have ea:its.toArray++its2.toArray=(its++its2).toArray:=by simp
 rw[ea];exact⟨.ref _,_,I.E5 (t':=s.toks) (r.append r2) (by rw[JL];lia),rfl,q _ I.fresh⟩
noncomputable def Ik:R2:=λx y H Q=>∃l k xs,x=.ref l/\y=.int k/\H l=some (.lst xs)/\-(2^63)<=k/\k<2^63/\xs.length*k.toNat<=sizeLine /\
 ∀p,H p=none->Q (.ref p) (upd H p (.lst (List.replicate k.toNat xs).flatten))
theorem len_rep(xs:List α)(k:Nat):(List.replicate k xs).flatten.length=k*xs.length:=by
 induction k with
 |zero=>simp
 |succ k ih=>rw[K4,Mh,JL,ih,MG,Nat.add_comm]
theorem Fp:dc X (binaryOp .Mult) Ik:=by
 intro pins s σ H x y v u Q I rx ry h;obtain⟨l,k,xs,rfl,rfl,hH,h1,h2,hz,q⟩:=h;cases rx;obtain⟨t,rfl⟩:=ry;obtain⟨z,its,n,r,hl,e⟩:=I.sf hH;have hlen:its.toArray.size*k.toNat<=sizeLine:=by rw[JP,<- hl];exact hz
 have hcap:¬ its.toArray.size*k.toNat >(2^63-1) / 8:=by
  have:(sizeLine:Nat)<=(2^63-1) / 8:=by decide
  lia
 have hfit:¬ (!Builtin.List.listFitsIndex k)=true:=by
  rw[O9 h1 h2];exact JZ
 have hlong:¬ Builtin.List.listTooLong (its.toArray.size*k.toNat)=true:=by
  rw[yH hlen];exact JZ
 have hnew:List.foldl (λx1 x2=>x1++x2) #[] (List.replicate (if its.toArray.isEmpty=true then 0 else k.toNat) its.toArray)=(List.replicate k.toNat its).flatten.toArray:=by
  have f0:∀m:Nat,List.foldl (λx1 x2=>x1++x2) #[] (List.replicate m its.toArray)=(List.replicate m its).flatten.toArray:=λm=>by
   have:=foldl_rep its m [];rw[Lr] at this;exact this
  rw[f0]
  cases its with
  |nil=>simp
  |cons a r'=>rw[JN (by simp)]
 refine NP (T:="list") (U:="int") (by decide) ⟨_,e,rfl⟩ (λs'=>NO s' k t) noFill_list_mul F.fills_int_mul F.slot_int_rmul repeat_list F.slot_int_index.lookup
  (Ma F.slot_int_rmul (NO s k t) F.entry_int_rmul (F.args_int_rmul_2 _ _) (int___rmul___int_list k t l its.toArray n)
   ⟨e,rfl,⟨_,e,rfl⟩,Ma F.slot_list_mul ⟨_,e,rfl⟩ F.entry_list_mul (F.args_list_mul_2 _ _) (AutoListH.list___mul___list_int_3 l its.toArray n k t hfit hcap hlong) ⟨e,?_⟩⟩)
 rw[hnew];exact⟨.ref _,_,I.E5 (t':=s.toks) (r.rep k.toNat) (by rw[len_rep,Nat.mul_comm];exact hz),rfl,q _ I.fresh⟩
end
section
variable {κ:Type} [DecidableEq κ]
noncomputable def ia(kvs:List (κ×V))(k:κ):Option V:=(kvs.find? λkv=>decide (kv.1=k)).map (·.2)
noncomputable def putK(kvs:List (κ×V))(k:κ)(v:V):List (κ×V):=
 if (kvs.any λkv=>decide (kv.1=k))=true then kvs.map (λkv=>if kv.1=k then (kv.1,v) else kv) else kvs++[(k,v)]
theorem kr{p:κ×V}{r:List (κ×V)}{k:κ}(e:p.1=k):ia (p::r) k=some p.2:=by simp[ia,L4,e]
theorem kW{p:κ×V}{r:List (κ×V)}{k:κ}(e:¬ p.1=k):ia (p::r) k=ia r k:=by simp[ia,L4,e]
theorem iL(k:κ):∀kvs:List (κ×V),(kvs.any λkv=>decide (kv.1=k))=(ia kvs k).isSome
 |[]=>rfl
 |p::r=>by
  rw[MW];by_cases e:p.1=k
  ·simp only[kr e,Kw e,Bool.true_or,Option.isSome_some]
  ·rw[kW e,Ko e,Bool.false_or];exact iL k r
theorem gI(kvs:List (κ×V))(k:κ)(v:V):(putK kvs k v).length<=kvs.length+1:=by
 unfold putK;split
 ·rw[JK];lia
 ·rw[JL,J_,KL];lia
theorem zF{kvs:List (κ×V)}{k:κ}(v:V)(h:ia kvs k=none):putK kvs k v=kvs++[(k,v)]:=by
 unfold putK;rw[iL,h];exact JN (by decide)
theorem gZ.vo{u:Option Value}(r:gZ o u):o.isSome=u.isSome:=by
 cases o with
 |none=>cases u with
  |none=>rfl
  |some _=>exact (show False from r).elim
 |some _=>cases u with
  |none=>exact (show False from r).elim
  |some _=>rfl
theorem KV.val{kvs:List (κ×V)}{vs:List (κ×Value)}(r:KV kvs vs)(k:κ):gZ (ia kvs k) (valueAt vs k):=by
 unfold KV at r
 induction r with
 |nil=>exact True.intro
 |@cons p q ps qs h t ih =>
  obtain⟨h1,h2⟩:=h;by_cases e:p.1=k
  ·have e':q.1=k:=h1.symm.trans e;have b:valueAt (q::qs) k=some q.2:=by simp[valueAt,L4,e']
   rw[kr e,b];exact h2
  ·have e':¬ q.1=k:=λz=>e (h1.trans z);have b:valueAt (q::qs) k=valueAt qs k:=by simp[valueAt,L4,e']
   rw[kW e,b];exact ih
theorem KV.any{kvs:List (κ×V)}{vs:List (κ×Value)}(r:KV kvs vs)(k:κ):(kvs.any λkv=>decide (kv.1=k))=vs.any λkv=>decide (kv.1=k):=by
 unfold KV at r
 induction r with
 |nil=>rfl
 |cons h t ih=>rw[MW,MW,ih,h.1]
theorem KV.EK{kvs:List (κ×V)}{vs:List (κ×Value)}(r:KV kvs vs)(k:κ)(ry:RelV y u):
  KV (kvs.map λkv=>if kv.1=k then (kv.1,y) else kv) (vs.map λkv=>if kv.1=k then (kv.1,u) else kv):=by
 unfold KV at r ⊢
 induction r with
 |nil=>exact .nil
 |@cons p q ps qs h t ih =>
  rw[Ku,Ku];refine .cons ?_ ih;obtain⟨h1,h2⟩:=h;by_cases e:p.1=k
  ·rw[JQ e,JQ (h1.symm.trans e)];exact⟨h1,ry⟩
  ·rw[JN e,JN (λz=>e (h1.trans z))];exact⟨h1,h2⟩
theorem KV.put{kvs:List (κ×V)}{vs:List (κ×Value)}(r:KV kvs vs)(k:κ)(ry:RelV y u):KV (putK kvs k y) (stored vs k u):=by
 unfold putK stored;rw[r.any k];by_cases e:(vs.any λkv=>decide (kv.1=k))=true
 ·rw[JQ e,JQ e];exact r.EK k ry
 ·rw[JN e,JN e];exact Paired.snoc r ⟨rfl,ry⟩
theorem KV.length{kvs:List (κ×V)}{vs:List (κ×Value)}(r:KV kvs vs):kvs.length=vs.length:=Paired.length r
end
theorem t8{k:Key}(r:RelV (kV k) u):(cy P w).is k u=true:=by
 cases k with
 |inl i=>obtain⟨t,e⟩:=(show ∃t,u=Value.int i t from r);subst e;exact pM P w i t
 |inr x=>obtain⟨t,e⟩:=(show ∃t,u=Value.str x t from r);subst e;exact oZ P w x t
theorem mQ:∀{ks:List Key} {us:List Value},Vals (ks.map kV) us->ItemsAre (cy P w) ks us
 |[],_,r=>by rw[Ml] at r;cases r;exact .nil
 |k::ks,_,r=>by
  rw[Ku] at r
  cases r with
  |cons h t=>exact .cons (t8 h) (mQ t)
abbrev KT(H:Hp):List (List Key×V)->List (List Key×Addr×Value)->Prop:=Paired λp q=>p.1=q.1/\H q.2.1=some (.tup (p.1.map kV))/\RelV p.2 q.2.2
theorem KT.val(r:KT H kvs xs)(k:List Key):gZ (ia kvs k) ((atKey xs k).map (·.2)):=by
 induction r with
 |nil=>exact True.intro
 |@cons p q ps qs h t ih =>
  obtain⟨h1,_,h2⟩:=h;by_cases e:p.1=k
  ·have e':q.1=k:=h1.symm.trans e;have b:atKey (q::qs) k=some q.2:=by simp[atKey,L4,e']
   rw[kr e,b];exact h2
  ·have e':¬ q.1=k:=λz=>e (h1.trans z);have b:atKey (q::qs) k=atKey qs k:=by simp[atKey,L4,e']
   rw[kW e,b];exact ih
theorem KT.EK(r:KT H kvs xs)(k:List Key)(ry:RelV y u):
  KT H (kvs.map λkv=>if kv.1=k then (kv.1,y) else kv) (xs.map (putAt k u)):=by
 induction r with
 |nil=>exact .nil
 |@cons p q ps qs h t ih =>
  rw[Ku,Ku];refine .cons ?_ ih;obtain⟨h1,h2,h3⟩:=h;unfold putAt;by_cases e:p.1=k
  ·rw[JQ e,JQ (h1.symm.trans e)];exact⟨h1,h2,ry⟩
  ·rw[JN e,JN (λz=>e (h1.trans z))];exact⟨h1,h2,h3⟩
theorem KT.put(r:KT H kvs xs)(k:List Key){b:Addr}(hb:H b=some (.tup (k.map kV)))(ry:RelV y u):
  KT H (putK kvs k y) (storedH xs k b u):=by
 have e:(kvs.any λkv=>decide (kv.1=k))=(atKey xs k).isSome:=by
  rw[iL,(r.val k).vo,Option.isSome_map]
 unfold putK storedH;rw[e];by_cases q:(atKey xs k).isSome=true
 ·rw[JQ q,JQ q];exact r.EK k ry
 ·rw[JN q,JN q];exact Paired.snoc r ⟨rfl,hb,ry⟩
theorem KT.keeps(r:KT H kvs xs)(ht:∀b ys,H b=some (.tup ys)->H' b=some (.tup ys)):KT H' kvs xs:=
 Paired.Ew r λ_ _ z=>⟨z.1,ht _ _ z.2.1,z.2.2⟩
section
variable {P:Program} {w:World} {H:Hp} {h:Heap} {a:Addr}
theorem Du{u:HO}(ok:iy P w H h)(e:Rd H a u):bS P w H h a u:=e.ok ok
theorem zA{kvs:List (Key×V)}(ok:iy P w H h)(e:Rd H a (.dK kvs)):kvs.length<=sizeLine/\(a == sysModules)=false/\∃vs,KV kvs vs/\h.DictOf (cy P w) a vs:=
 show bS P w H h a (.dK kvs) from Du ok e
theorem HF{kvs:List (Key×V)}(ok:iy P w H h)(e:H a=some (.dK kvs)):kvs.length<=sizeLine/\(a == sysModules)=false/\∃vs,KV kvs vs/\h.DictOf (cy P w) a vs:=zA ok (.inl e)
theorem rn{ks:List Key}(ok:iy P w H h)(e:H a=some (.tup (ks.map kV))):(tupleKind (cy P w)).is h ks a:=by
 obtain⟨_,its,r,o,h1,h2,n,h3,_⟩:=(show bS P w H h a (.tup (ks.map kV)) from ok a _ e);exact⟨o,its.toArray,n,h1,h2,h3,by simpa using mQ r⟩
theorem xW(ok:iy P w H h)(e:Rd H a (.dT kvs)):kvs.length<=sizeLine/\(a == sysModules)=false /\
  ∃xs,KT H kvs xs/\h.DictOfH (tupleKind (cy P w)) a xs:=by
 obtain⟨z,y,xs,r,o,es,ep,h1,h2,h3,h4,h5⟩:=(show bS P w H h a (.dT kvs) from Du ok e);refine⟨z,y,xs,r,o,es,ep,h1,h2,h3,h4,λx hx=>?_,h5⟩;have all:∀{l:List (List Key×V)} {m:List (List Key×Addr×Value)},KT H l m->∀x∈m,(tupleKind (cy P w)).is h x.1 x.2.1:=by
  intro l m q
  induction q with
  |nil=>intro x hx;exact nomatch hx
  |@cons p q ps qs hq t ih =>
   intro x hx;rcases JR.mp hx with e|hx
   ·subst e;exact rn ok (by rw[<- hq.1];exact hq.2.1)
   ·exact ih x hx
 exact all r x hx
theorem Hu(ok:iy P w H h)(e:H a=some (.dT kvs)):kvs.length<=sizeLine/\(a == sysModules)=false /\
  ∃xs,KT H kvs xs/\h.DictOfH (tupleKind (cy P w)) a xs:=xW ok (.inl e)
end
noncomputable def wk(H:Hp)(a:Addr)(y:V)(r:Option V):Prop:=
 (∃kvs k,Rd H a (.dK kvs)/\y=kV k/\r=ia kvs k)\/∃kvs k b,Rd H a (.dT kvs)/\y=.ref b/\H b=some (.tup (k.map kV))/\r=ia kvs k
noncomputable def FZ(H:Hp)(a:Addr)(y v:V)(H':Hp):Prop:=
 (∃kvs k,H a=some (.dK kvs)/\y=kV k/\kvs.length<sizeLine/\H'=upd H a (.dK (putK kvs k v))) \/
 ∃kvs k b,H a=some (.dT kvs)/\y=.ref b/\H b=some (.tup (k.map kV))/\kvs.length<sizeLine/\H'=upd H a (.dT (putK kvs k v))
section
variable {X:Cx} {pins:List (Addr×Obj)} {σ:St} {H:Hp} {s:Shared} {a:Addr} {y v:V} {u r:Value} {o:Option V} {A:Around} {E:Value->Shared->Prop}
theorem Inv.big(I:Inv X pins σ H s):sysModules<s.heap.objs.size:=by
 have h:mainGlobals<s.heap.objs.size:=(I.mod.glob.keeps I.bk).lt;exact Mp (by decide) h
theorem vt(hu:A.units+1<cLine)(I:Inv X pins σ H s)(g:wk H a y (some v))(ry:RelV y u)(h:∀w' s',Inv X pins σ H s'->RelV v w'->Q w' s'):
  wpAny (model X.prog X.w) A (getItem (.ref a) u) Q E s:=by
 rcases g with ⟨kvs,k,e,ey,l⟩|⟨kvs,k,b,e,ey,eb,l⟩
 ·subst ey;obtain⟨z,hd,vs,rel,dd⟩:=zA I.bc e;obtain⟨w',hw,rw'⟩:=gZ.some_of (v:=v) (o:=valueAt vs k) (by rw[l];exact rel.val k)
  exact wpAny_getItem_of (t8 ry) dd.mapOf hw (h w' _ (I.tok _) rw')
 ·subst ey
  cases (show u=Value.ref b from ry)
  obtain⟨z,hd,xs,rel,dd⟩:=xW I.bc e;obtain⟨w',hw,rw'⟩:=gZ.some_of (v:=v) (o:=(atKey xs k).map (·.2)) (by rw[l];exact rel.val k)
  obtain⟨p,hp,hp2⟩:=Km.mp hw;refine wpAny_getItem_heap (tupleKind_room_in1 hu) (rn I.bc eb) dd hp ?_;rw[hp2];exact h w' _ (I.tok _) rw'
theorem uk{h':Heap}{t':Nat}{ob:HO}(I:Inv X pins σ H s)(mu:GB (H a))(hs:Heap.SameBut a s.heap h')(he:∃q,h'.get? a=some q)(new:bS X.prog X.w (upd H a ob) h' a ob):
  Inv X pins σ (upd H a ob) {s with heap:=h',toks:=t'}:=
 I.write (x:=a) (e:=a) mu (.inl rfl) (λb q hb z=>(hs.2 b hb).trans z) he new
theorem za{h':Heap}{kvs:List (Key×V)}{vs:List (Key×Value)}(z:kvs.length<=sizeLine)(hd:(a == sysModules)=false)(rel:KV kvs vs)(dd:h'.DictOf (cy P w) a vs):
  bS P w H' h' a (.dK kvs):=⟨z,hd,vs,rel,dd⟩
theorem vM{Q:Unit->Shared->Prop}(hu:A.units+1<cLine)(I:Inv X pins σ H s)(g:FZ H a y v H')(ry:RelV y u)(rv:RelV v r)(h:∀s',Inv X pins σ H' s'->Q () s'):
  wpAny (model X.prog X.w) A (setItem (.ref a) u r) Q E s:=by
 rcases g with ⟨kvs,k,e,ey,l,eH⟩|⟨kvs,k,b,e,ey,eb,l,eH⟩
 ·subst ey eH;obtain⟨z,hd,vs,rel,dd⟩:=HF I.bc e;have hz:vs.length<=sizeLine:=by rw[<- rel.length];exact z
  have hl:(putK kvs k v).length<=sizeLine:=by have:=gI kvs k v;lia
  refine wpAny_setItem_pairs (hsz:=hz) (t8 ry) dd λh' dd' hs=>h _ ?_;have he:∃q,h'.get? a=some q:=let ⟨q,_,_,hq,_⟩:=dd';⟨q,hq⟩
  exact uk I (by rw[e];exact True.intro) hs he (za hl hd (rel.put k rv) dd')
 ·subst ey eH
  cases (show u=Value.ref b from ry)
  obtain⟨z,hd,xs,rel,dd⟩:=Hu I.bc e;have hz:xs.length<=sizeLine:=by rw[<- Paired.length rel];exact z
  have hl:(putK kvs k v).length<=sizeLine:=by have:=gI kvs k v;lia
  refine wpAny_setItem_heap (hsz:=hz) (tupleKind_room_in1 hu) (rn I.bc eb) dd λh' dd' hs=>h _ ?_;obtain⟨q,es,ep,hq,h2,h3,h4,_,h5⟩:=dd';refine uk I (by rw[e];exact True.intro) hs ⟨q,hq⟩ ⟨hl,hd,_,(rel.put k eb rv).keeps λc ys ec=>?_,q,es,ep,hq,h2,h3,h4,h5⟩
  rw[ao (HB ec e (λz=>nomatch z))];exact ec
end
noncomputable def xl(i:Expr):Prop:=∀ov iv,subscripted i false ov iv=operate [ov,iv] (getItem ov iv)
theorem uu{prog:Program}{A:Around}{E:Value->Shared->Prop}{s:Shared}{env:Env}{value slice:Expr}{pos:Pos}{T id:String}
  (hl:typeLookup (.type T) "__getitem__"=pure (some (.builtin id))) (hs:xl slice)
  (h:wpAny (model prog w) A (eval value env) (λo s₁=>wpAny (model prog w) A (eval slice env) (λi s₂=>s₂.TypeIs o T/\wpAny (model prog w) A (getItem o i) Q E s₂) E s₁) E s) :
  wpAny (model prog w) A (eval (.Subscript value slice pos) env) Q E s:=by
 refine Subscript_ (KP h (λo s₁ h₁=>KP h₁ (λi s₂ h₂=>?_) λ_ _ x=>x) λ_ _ x=>x);obtain⟨hT,h₂⟩:=h₂;unfold subscriptTail;refine JJ ?_;rw[getitemInPython_of_ne hT.not_modules];refine JJ (wpAny_specialOf hT hl ?_);have fin:wpAny (model prog w) A (subscripted slice false o i) (λr s₃=>wpAny (model prog w) A (letTemporaryGo value o r >>= λ_=>pure r) Q E s₃) E s₂:=by
  rw[hs o i];exact wpAny_operating (KP h₂ (λr s₃ h₃=>JJ (wpAny_letTemporaryGo (JV h₃))) λ_ _ x=>x)
 first
  |exact JV (JJ fin)
  |exact JJ (JV (JJ fin))
  |exact JJ fin
theorem pT{X:Cx}{s:Shared}{a:Addr}(I:Inv X pins σ H s)(g:wk H a y o):s.TypeIs (.ref a) "dict":=by
 rcases g with ⟨kvs,k,e,_,_⟩|⟨kvs,k,b,e,_,_,_⟩
 ·obtain⟨_,_,vs,_,dd⟩:=zA I.bc e;exact dd.typeIs
 ·obtain⟨_,_,xs,_,dd⟩:=xW I.bc e;exact dd.typeIs
noncomputable def pO(td ty:TE):TE:=λσ H Q=>td σ H λx H1=>ty σ H1 λy H2=>∃a v,x=.ref a/\wk H2 a y (some v)/\Q v H2
noncomputable def oU(td ty tv:TE):TS:=λD σ H=>tv σ H λv H1=>td σ H1 λx H2=>ty σ H2 λy H3=>∃a H4,x=.ref a/\FZ H3 a y v H4/\D.nx σ H4
section
variable {X:Cx} {o i e value:Expr} {pos pos' tpos:Pos} {td ty tv:TE}
theorem AU(hu:X.A.units+1<cLine)(ho:PE X o td)(hi:PE X i ty)(hs:xl i):PE X (.Subscript o i pos) (pO td ty):=by
 intro pins s σ H Q I h;refine uu PySem.F.slot_dict_getitem.lookup hs (cz (ho pins s σ H _ I h) λu s1 ⟨x,H1,I1,rx,q1⟩=>cz (hi pins s1 σ H1 _ I1 q1) λiv s2 hq55=>?_);obtain⟨y,H2,I2,ry,a,v,ex,g,q2⟩:=hq55;subst ex;obtain rfl:u=Value.ref a:=rx;exact⟨pT I2 g,vt hu I2 g ry λw' s3 I3 rw'=>⟨v,H2,I3,rw',q2⟩⟩
theorem Bs(hu:X.A.units+1<cLine)(ho:PE X o td)(hi:PE X i ty)(hv:PE X value tv)(hs:swapsWith value (some (.Subscript o i pos')) pos.line X.env=pure false):
  PS X (.Assign [.Subscript o i pos'] value pos) (oU td ty tv):=by
 intro pins s σ H D I h;refine wpAny_Assign_Subscript (cz (hv pins s σ H _ I h) λr s1 ⟨v,H1,I1,rv,q1⟩=>cz (ho pins s1 σ H1 _ I1 q1) λu s2 ⟨x,H2,I2,rx,q2⟩=>cz (hi pins s2 σ H2 _ I2 q2) λiv s3 hq58=>?_) hs;obtain⟨y,H3,I3,ry,a,H4,ex,g,q3⟩:=hq58;subst ex;obtain rfl:u=Value.ref a:=rx;exact vM hu I3 g ry rv λs4 I4=>⟨σ,H4,I4,q3⟩
end
noncomputable def gi(kvs more:List (Key×V)):List (Key×V):=more.foldl (λacc kv=>putK acc kv.1 kv.2) kvs
theorem KV.merge:∀{more:List (Key×V)} {rs:List (Key×Value)} {kvs:List (Key×V)} {vs:List (Key×Value)},KV more rs->KV kvs vs->KV (gi kvs more) (merged vs rs):=by
 intro more rs kvs vs r;unfold KV at r
 induction r generalizing kvs vs with
 |nil=>intro q;exact q
 |@cons p q ps qs h t ih =>
  intro r0;have e:KV (putK kvs p.1 p.2) (stored vs q.1 q.2):=by
   have:=r0.put p.1 h.2;rw[<- h.1];exact this
  exact ih e
theorem g_:∀(more kvs:List (Key×V)),(gi kvs more).length<=kvs.length+more.length
 |[],kvs=>by show kvs.length<=kvs.length+0;lia
 |p::r,kvs=>by
  have h1:=g_ r (putK kvs p.1 p.2);have h2:=gI kvs p.1 p.2;show (gi (putK kvs p.1 p.2) r).length<=_;rw[J_];lia
end L2
namespace Att
open PySem PySem.W PySem.Calls PyProof.Rows
theorem jF{P:Params}{h:Heap}:∀(ns:List Int) (vs:List Value),WellAll P h vs (ns.map WData.int)->IntsAre vs ns:=by
 intro ns
 induction ns with
 |nil =>
  intro vs w;rw[List.map_nil] at w;cases w;exact .nil
 |cons n ns ih =>
  intro vs w;rw[List.map_cons] at w
  cases w with
  |cons a b =>
   cases a;exact .cons _ _ (ih _ b)
theorem v8{l:OpenLaw}{n:Nat}(hn:l.most=some n){P:Params}{h:Heap}{args:List WData}{vals:List Value}
  (hpre:l.row.toRowW.claim.pre args=true) (hwl:WellAll P h vals args) :
  ∃a vs ns,vals=[Value.ref a]/\args=[WData.list (ns.map WData.int)]/\h.get? a=some {cls:=.type "list",data:=.seq vs.toArray}/\IntsAre vs ns/\ns.length<=n:=by
 have hsh:WShape.hasAll [] args [.list .int]=true:=(pre_splitW hpre).1;have hc:l.pre.holds [] {args:=args}=true:=(pre_splitW hpre).2;obtain⟨d,r,rfl,h1,h2⟩:=hasAllW_cons hsh;obtain rfl:=hasAllW_nil h2;obtain⟨xs,rfl,h3⟩:=hasW_list h1;obtain⟨ns,rfl⟩:=items_int h3;have hlen:ns.length<=n:=by
  unfold OpenLaw.pre at hc;have h4:(WTm.not (.lt (.lit (.int (n:Int))) (.len (.arg 0)))).holds [] {args:=[.list (ns.map .int)]}=true:=by
   have h4:=(holds_andW hc).1;rw[hn] at h4;exact h4
  have h5:=condW_of h4 (w_not (w_lt w_lit (w_len_list (w_arg rfl))));rw[List.length_map] at h5;refine Nat.le_of_not_lt λq=>?_;have q':(n:Int)<((ns.length:Nat):Int):=by lia
  first
   | (rw[decide_eq_true q'] at h5;exact absurd h5 (by decide))
   | (simp at h5;lia)
 cases hwl with
 |cons w1 w2 =>
  cases w2
  cases w1 with
  |list ho hall=>exact⟨_,_,ns,rfl,rfl,ho,jF ns _ hall,hlen⟩
theorem vC(l:OpenLaw)(args:List WData):l.row.toRowW.claim.post args (.bool true) args=true:=
 postW_of (r:=l.row.toRowW) (X:=(true == true))
  (show WShape.has [] (.bool true) .bool=true by first|rfl|decide|simp[WShape.has,WShape.arms,WShape.armsAll])
  (show (WTm.eq .res (.lit (.bool true))).value [] {args:=args,res:=some (.bool true),after:=args}=some (.bool (true == true)) from w_eq_bool (w_res rfl) w_lit) rfl
theorem oR{l:OpenLaw}{n:Nat}{q:Program}{loose:List Str}{XP:(Str->Option Value)->Heap->Prop}{YP:World->Heap->Prop}{d:DefRec}
  (hn:l.most=some n) (hdf:d.params.defaults=[])
  (call:∀(w:World) (s₀ s₁:Shared) (mg mb:Str->Option Value) (fa:Addr) (o:Obj) (pm cd doc:Value) (a:Addr) (vs:List Value) (ns:List Int),
   Ground q loose [] XP w s₀ mg mb s₁.heap->YP w s₁.heap ->
   s₁.heap.get? fa=some o->o.data=.func (docDef d.name d.params d.body d.scope pm cd doc)->s₁.heap.CodeRec cd d.name->mg d.name=some (.ref fa) ->
   s₁.heap.get? a=some {cls:=.type "list",data:=.seq vs.toArray}->IntsAre vs ns->ns.length<=n->s₁.gens=#[] ->
   codeAny (model l.prog w) callerA (.call (.ref fa) ⟨[.ref a],[]⟩) (λr s'=>r=.ok (.ret (.bool true))/\OldK s₁.heap s'.heap/\s'.os=s₁.os/\AllBare s'.gens) s₁) :
  WalkO q loose XP YP l.row.toRowW d [] (λf vs=>PySem.call f vs):=by
 intro w s₀ s₁ mg mb G Y fa o pm cd doc dV kV ho hd fX hD hmg hg args vals as hpre hlay hrd hwl hlo;obtain rfl:dV=.none:=Dflts.none hD hdf;obtain rfl:kV=.none:=Dflts.noKw hD;obtain⟨a,vs,ns,rfl,rfl,hobj,hints,hlen⟩:=v8 hn hpre hwl;refine enter_call (codeAny_mono (call w s₀ s₁ mg mb fa o pm cd doc a vs ns G Y ho (fd_plain hd) fX hmg hobj hints hlen hg) λr s' hq=>?_);obtain⟨rfl,h2,h3,h4⟩:=hq;exact⟨.inl ⟨.bool true,.bool true,[],rfl,λ_=>rfl,.bool true,vC l _,λ_=>⟨List.Pairwise.nil,λ_ hm=>(nomatch hm)⟩⟩,h2,h3,h4⟩
end Att
namespace L2
open PySem PySem.Spec PyProof.Rows
variable{P prog q:Program}{K:W.Frag}{N ON loose own:List Str}{mb mg:Str->Option Value}{base h:Heap}{b e elt iter tg:Expr}{o:HO}{w:World}{i j k:Nat}{a f it p:Addr}{fd:FuncData}{qual x:Str}{sp:Sp}{ns:List Int}{X:Cx}{st:Stmt}{osc scope:Scope}{env:Env}{cells:List (Str×Addr)}{α:Type}{E Q:Value->Shared->Prop}{es ifs:List Expr}{g:TG}{tc:TT}{te:TE}{pins:List (Addr×Obj)}{σ:St}{H H':Hp}{RR:Value->Addr->Result->Shared->Prop}{r:List V->Hp->VK->Prop}{ws xs:List V}{items:Array Value}{ex fp:List Addr}{its its2:List Value}
theorem mI:∀{vs:List Value} {ns:List Int},IntsAre vs ns->Vals (ns.map V.int) vs
 |_,_,.nil=>.nil
 |_,_,.cons n t h=>.cons ⟨t,rfl⟩ (mI h)
structure iG (q:Program) (K:W.Frag):Prop where
 nt:W.noTabs K=true
 nd:((cx K).map (·.2.1)).Nodup
 fd:∀x∈dR,W.tabIn K x=none\/((recsOf q).find? (λe=>e.name == x)).isSome=true
theorem iG.at{mean:ExcName->Option Value}(L:iG q K)(T:Top q loose mean mg mb h)(X:K.In h):∀t∈cx K,W.CodeHd h t.1 t.2.1/\h.get? t.2.1=some (W.tabObj #[]):=λt ht=>by
 unfold cx at ht;obtain⟨x,hx,e⟩:=ME.mp ht;obtain⟨p,e1,e2⟩:=Km.mp e;obtain⟨c,Pt⟩:=p;subst e2;rcases L.fd x hx with z|z
 ·rw[z] at e1;cases e1
 ·obtain⟨d,hd⟩:=NZ.mp z;exact W.tab_of T X hd e1
noncomputable def mZ:List (Addr×Addr×Str)->Addr->Option HO
 |[],_=>none
 |t::r,b=>if b=t.2.1 then some (.xT #[.str t.2.2 0]) else mZ r b
theorem gO{b:Addr}:∀{l:List (Addr×Addr×Str)},mZ l b=some o->∃t∈l,b=t.2.1/\o=.xT #[.str t.2.2 0]
 |t::r,e=>by
  unfold mZ at e;by_cases z:b=t.2.1
  ·rw[JQ z] at e;cases e;exact⟨t,.head _,z,rfl⟩
  ·rw[JN z] at e;obtain⟨u,hu,q⟩:=gO e;exact⟨u,.tail _ hu,q⟩
theorem qB{t:Addr×Addr×Str}:∀{l:List (Addr×Addr×Str)},(l.map (·.2.1)).Nodup->t∈l->mZ l t.2.1=some (.xT #[.str t.2.2 0])
 |u::r,nd,m=>by
  obtain⟨n1,n2⟩:=Lq.mp nd;unfold mZ;rcases JR.mp m with rfl|m
  ·rw[JQ rfl]
  ·rw[JN λz=>n1 (K2.mpr ⟨t,m,z⟩)];exact qB n2 m
theorem xH{CX:pZ}{fa:Addr}{s₁:Shared}{vs:List Value}
  (KX:K.In s₁.heap) (hns:s₁.heap.Ns mainGlobals mg) (hb:s₁.heap.Ns builtinsNs mb) (hbb:∀x:Str,x≠"__name__"->mb x=bootBuiltins x) (hlim:s₁.heap.NoLimit) (hbm:Fz mg s₁.heap)
  (hT:∀t∈cx K,W.CodeHd s₁.heap t.1 t.2.1/\s₁.heap.get? t.2.1=some (W.tabObj #[])) (L:iG q K) (hg:s₁.gens=#[])
  (ha:s₁.heap.get? a=some {cls:=.type "list",data:=.seq vs.toArray}) (hi:IntsAre vs ns) (hl:ns.length<=sizeLine) (hr:bP k callerA)
  (F:∀base:Heap,K.In base->base.Ns mainGlobals mg->cg P w K mg base CX k fa fd [x] sp) (hbind:∀(s:Shared) (u:Value),BindsTo s fd ⟨[u],[]⟩ [(x,u)])
  (oJ:∀H:Hp,True->cf K H a (ns.map V.int)->sp [.ref a] H (λv _=>v=.bl true) λ_ _ _=>False)
  (hCX:∀H e s',CX [] H s₁ (λ_ _ _=>False) e s'->False) :
  codeAny (model P w) callerA (.call (.ref fa) ⟨[.ref a],[]⟩) (λr s'=>r=.ok (.ret (.bool true))/\OldK s₁.heap s'.heap/\s'.os=s₁.os/\AllBare s'.gens) s₁:=by
 have rv:=mI hi;have lenV:=hi.length;have naT:∀t∈cx K,t.2.1≠a:=λt ht z=>by
  have e:=(hT t ht).2;rw[z,ha] at e;cases e
 let oS:Obj:={cls:=.type "list",data:=.seq vs.toArray}
 have core:∀S:Option HO,(S=none\/S=some (.jS oS (.lst (ns.map V.int))))->(S≠none->K.lookup a=none)->cf K (λb=>if b=a then S else mZ (cx K) b) a (ns.map V.int) ->
   codeAny (model P w) callerA (.call (.ref fa) ⟨[.ref a],[]⟩) (λr s'=>r=.ok (.ret (.bool true))/\OldK s₁.heap s'.heap/\s'.os=s₁.os/\AllBare s'.gens) s₁:=by
  intro S hS hK hSq;generalize hH:(λb=>if b=a then S else mZ (cx K) b)=H at hSq
  have hA:H a=S:=by rw[<- hH];exact JQ rfl
  have hB:∀b,b≠a->H b=mZ (cx K) b:=λb z=>by rw[<- hH];exact JN z
  have free:∀{b:Addr} {o:Obj},s₁.heap.get? b=some o->o≠W.tabObj #[]->(b=a->S=none)->H b=none:=λ{b o} e hn hz=>by
   by_cases z:b=a
   ·rw[z,hA];exact hz z
   ·rw[hB b z]
    cases q:mZ (cx K) b with
    |none=>rfl
    |some u =>
     obtain⟨t,ht,e1,_⟩:=gO q;have e2:=(hT t ht).2;rw[<- e1,e] at e2;exact absurd (Option.some.inj e2) hn
  have nsK:∀{b:Addr} {m:Str->Option Value},s₁.heap.Ns b m->(ma s₁.heap H).Ns b m:=λ{b m} ⟨o,es,ep,e,d,r⟩=>⟨o,es,ep,iF e (free e (λz=>by rw[z] at d;cases d) λz=>by rw[z,ha] at e;cases e;cases d),d,r⟩
  have hKb:K.In (ma s₁.heap H):=λb o e=>iF (KX b o e) (free (KX b o e) (λz=>by
    have h2:=Lv.mp L.nt (b,o) (W.mem_of_lookupK e);subst z;exact absurd (show false=true from h2) JZ) λz=>by
    cases q:S with
    |none=>rfl
    |some u=>rw[z,hK (by rw[q];simp)] at e;cases e)
  have fX:∀t∈cx K,W.CodeHd (ma s₁.heap H) t.1 t.2.1:=λt ht=>by
   obtain⟨o,us,fl,tf,fg,tg,inF,tx,tt,e1,e2,r⟩:=(hT t ht).1;exact⟨o,us,fl,tf,fg,tg,inF,tx,tt,iF e1 (free e1 (λz=>by rw[z] at e2;cases e2) λz=>by rw[z,ha] at e1;cases e1;exact absurd (Value.type.inj e2) (by decide)),e2,r⟩
  have hbm':Fz mg (ma s₁.heap H):=by
   obtain⟨bm,ob,b1,b2,b3,b4,b5⟩:=hbm;exact⟨bm,ob,b1,b2,iF b3 (free b3 (λz=>by rw[z] at b4;cases b4) λz=>by rw[z,ha] at b3;cases b3;exact absurd (Value.type.inj b4) (by decide)),b4,b5⟩
  have bc:iy P w H s₁.heap:=λb u e=>by
   by_cases z:b=a
   ·rw[z,hA] at e;rcases hS with h0|h0
    ·rw[h0] at e;cases e
    ·rw[h0] at e;cases e;subst z;exact⟨ha,by rw[JK];exact hl,vs,_,rv,ha⟩
   ·rw[hB b z] at e;obtain⟨t,ht,e1,e2⟩:=gO e;subst e2;exact⟨#[],by rw[e1];exact (hT t ht).2,trivial,λpos cv c=>by cases (show (none:Option Value)=some cv from c)⟩
  have hM:Mod K mg (ma s₁.heap H):=⟨hKb,nsK hns,⟨mb,nsK hb,hbb⟩,let ⟨mc,h1,h2⟩:=hlim;⟨mc,nsK h1,h2⟩,fX,hbm'⟩
  have e0:rh P w K mg (ma s₁.heap H) callerA [] s₁ H:=⟨rfl,hM,λb o e=>Bm e,NY (vG _ _),trivial,λb hb=>absurd (show b∈([]:List Addr) from hb) (by simp),bc,.of_eq hg,λt ht=>⟨#[],by
   rw[hB _ (naT t ht),qB L.nd ht,N7]⟩⟩
  refine OQ ((F _ hKb (nsK hns)).run callerA [] s₁ H ⟨[.ref a],[]⟩ [.ref a] [.ref a] _ _ hr e0 (hbind s₁ (.ref a)) (.cons rfl .nil) (oJ H trivial hSq)) λr s' h=>?_
  cases r with
  |error e=>exact (hCX H e s' h).elim
  |ok fl =>
   cases fl with
   |next=>exact False.elim h
   |brk=>exact False.elim h
   |cont=>exact False.elim h
   |ret u =>
    obtain⟨v,H',os,bare,un,hok',r',qv⟩:=h;have q':v=.bl true:=qv;subst q';obtain rfl:u=Value.bool true:=r';have each:∀b o,s₁.heap.get? b=some o->s'.heap.get? b=some o\/∃c,W.CodeHd s₁.heap c b/\o=W.tabObj #[]/\∃ps,s'.heap.get? b=some (W.tabObj ps):=λb o e=>by
     cases qb:H b with
     |none=>exact .inl (un.keep b o e qb (by intro z;exact absurd (show b∈([]:List Addr) from z) (by simp)) (by simp))
     |some u =>
      by_cases z:b=a
      ·rw[z,hA] at qb;rcases hS with h0|h0
       ·rw[h0] at qb;cases qb
       ·have z2:=un.nY a oS _ (by rw[hA,h0])
        obtain⟨e2,_⟩:=hok' a _ z2;rw[z,ha] at e;cases e;exact .inl (by rw[z];exact e2)
      ·have qt:=qb;rw[hB b z] at qt;obtain⟨t,ht,e1,e2⟩:=gO qt;obtain⟨h1,h2⟩:=hT t ht;rw[<- e1] at h1 h2;rw[e] at h2;cases h2;subst e2;obtain⟨more,e3⟩:=un.mm b _ qb;obtain⟨qs,e4,_⟩:=hok' b _ e3;exact .inr ⟨_,h1,rfl,qs,e4⟩
    refine⟨rfl,⟨λb o e=>?_,λb o e=>?_⟩,os,bare⟩
    ·rcases each b o e with z|⟨c,hc,z,ps,hp⟩
     ·exact .inl z
     ·subst z;exact .inr (.inl ⟨(hc.tab e).isCodeTable,rfl,#[],ps,rfl,by rw[Array.empty_append];exact hp⟩)
    ·rcases each b o e with z|⟨c,hc,z,ps,hp⟩
     ·exact⟨o,z⟩
     ·exact⟨_,hp⟩
 cases hk:K.lookup a with
 |some o =>
  have e:=KX a o hk;rw[ha] at e;cases e;exact core none (.inl rfl) (λz=>absurd rfl z) (.inr ⟨_,vs.toArray,_,hk,rfl,rfl,rfl,by rw[JP,lenV];exact hl,by simpa using rv⟩)
 |none=>exact core (some (.jS oS (.lst (ns.map V.int)))) (.inr rfl) (λ_=>hk) (.inl (.inr ⟨oS,JQ rfl⟩))
theorem Bj{l:W.OpenLaw}{n:Nat}{XP:(Str->Option Value)->Heap->Prop}{YP:World->Heap->Prop}{d:DefRec}{K:Params->W.Frag}{CX:World->pZ}{sp:World->Sp}
  (hn:l.most=some n) (hn2:n<=sizeLine) (hdf:d.params.defaults=[]) (hr:bP k callerA)
  (hY:∀(w:World) (h:Heap),YP w h->(K w.params).In h)
  (F:∀(w:World) (mg:Str->Option Value) (fa:Addr) (h:Heap),(K w.params).In h->h.Ns mainGlobals mg->mg d.name=some (.ref fa) ->
   ∃fd:FuncData,(∀(s:Shared) (u:Value),BindsTo s fd ⟨[u],[]⟩ [(x,u)]) /\
    ∀base:Heap,(K w.params).In base->base.Ns mainGlobals mg->cg l.prog w (K w.params) mg base (CX w) k fa fd [x] (sp w))
  (oJ:∀(w:World) (H:Hp) (a:Addr) (ns:List Int),ns.length<=n->True->cf (K w.params) H a (ns.map V.int)->sp w [.ref a] H (λv _=>v=.bl true) λ_ _ _=>False)
  (hCX:∀(w:World) (H:Hp) (s:Shared) (e:Value) (s':Shared),CX w [] H s (λ_ _ _=>False) e s'->False) (hL:∀(w:World) (h:Heap),(K w.params).In h->iG q (K w.params)) :
  W.WalkO q loose XP YP l.row.toRowW d [] (λf vs=>PySem.call f vs):=by
 refine Att.oR hn hdf λw s₀ s₁ mg mb fa o pm cd doc a vs ns G Y ho hd fX hmg hobj hints hlen hg=>?_;have KX:=hY w _ Y;obtain⟨fd,hb,hF⟩:=F w mg fa _ KX G.T.g hmg;have L:=hL w _ KX;exact xH KX G.T.g G.T.b G.T.builtins G.T.nolimit G.T.bmain (L.at G.T KX) L hg hobj hints (JX hlen hn2) hr hF hb (λH hO hS=>oJ w H a ns hlen hO hS) λH e s'=>hCX w H s₁ e s'
noncomputable def inClass(s:Stmt)(j:Nat):Stmt:=match s with
 |.ClassDef _ _ _ body _ _ _ _ _ _ _=>body.getD j (.Pass ⟨0,0,0,0⟩)
 |_=>.Pass ⟨0,0,0,0⟩
noncomputable def bA(s:Stmt):Arguments:=match s with
 |.FunctionDef _ a _ _ _ _ _ _ _ _=>a
 |_=>{posonlyargs:=[],args:=[],vararg:=none,kwonlyargs:=[],kw_defaults:=[],kwarg:=none,defaults:=[]}
noncomputable def aI(s:Stmt):List Stmt:=match s with
 |.FunctionDef _ _ b _ _ _ _ _ _ _=>b
 |_=>[]
noncomputable def af(s:Stmt):Scope:=match s with
 |.FunctionDef _ _ _ _ _ _ sc _ _ _=>sc
 |_=>{kind:=.function,names:=[],isGenerator:=false,isCoroutine:=false}
abbrev aT:pZ:=λ_ _ _ _ _ _=>False
abbrev E0:XK:=λ_ _ _=>False
theorem cu:Passes aT X E0:=λ_ _ _ _ _ _ _ h=>h.elim
structure gX (K:W.Frag) (x qual:Str) (st:Stmt) (f:Addr) (fd:FuncData):Prop where
 ex:∃(oc:Value) (od:Option Addr) (kV doc pm:Value) (an:Option Addr) (cdv ct:Value) (osl:Array (Option Value)),
  fd=W.fnOf x qual (bA st) (aI st) (af st) .none kV doc pm an cdv ct/\K.lookup f=some ⟨oc,od,.func fd,osl⟩/\W.codeIn K cdv qual=true
 kp:W.keepIn K (.ref f)=true
section
variable {P:Program} {w:World} {K:W.Frag} {mg:Str->Option Value} {base:Heap}
theorem gX.ok{ps:List Str}(F:gX K x qual st f fd)(S:az N ps (af st))(len:∀vs H Q E,sp vs H Q E->vs.length=ps.length)
  (hbody:∀(cdv:Value) (A:Around) (outer:List Env) (s:Shared) (H:Hp) (vs:List V) (Q:VK) (E:XK),bP k (A.deeper (envOfC qual (af st) s.heap.objs.size f cdv))->sp vs H Q E ->
   ∃t,qX (dM aT P w K mg base N qual (af st) f cdv A outer s H E).lW (aI st) t/\t {nx:=λ_ H'=>Q .aU H',rt:=Q} (start N vs) H):cg P w K mg base aT (k+1) f fd ps sp:=by
 obtain⟨oc,od,kV,doc,pm,an,cdv,ct,osl,rfl,lk,fX⟩:=F.ex;refine CY lk fX S len λA outer s H vs Q E hr oJ=>?_;obtain⟨t,h,q⟩:=hbody cdv A outer s H vs Q E hr oJ;exact⟨t,h.lW,q⟩
theorem gX.binds{ps:List Str}(F:gX K x qual st f fd)
  (h:∀(kV doc pm:Value) (an:Option Addr) (cdv ct:Value) (us:List Value),us.length=ps.length->bindArgs (W.fnOf x qual (bA st) (aI st) (af st) .none kV doc pm an cdv ct) ⟨us,[]⟩=pure (ps.zip us)):Binds K fd ps []:=by
 obtain⟨oc,od,kV,doc,pm,an,cdv,ct,osl,rfl,lk,fX⟩:=F.ex;exact .all (h kV doc pm an cdv ct)
theorem b6{oc:Value}{od an:Option Addr}{osl:Array (Option Value)}{kV doc pm cdv ct:Value}(l:K.lookup f=some ⟨oc,od,.func (W.fnOf x qual (bA st) (aI st) (af st) .none kV doc pm an cdv ct),osl⟩)
  (c:W.codeIn K cdv qual=true) (k:W.keepIn K (.ref f)=true):gX K x qual st f (W.fnOf x qual (bA st) (aI st) (af st) .none kV doc pm an cdv ct):=⟨⟨oc,od,kV,doc,pm,an,cdv,ct,osl,rfl,l,c⟩,k⟩
end
theorem aR{A:Around}(hr:bP k A):A.units+1<cLine:=KN (Nat.add_le_add_left (by decide:1<=64) _) hr.units
section
variable {X:Cx}
theorem pv(i:Nat){pos:Pos}(hN:autoParam (X.N[i]?=some x) ℜ0)(hv:autoParam (HN X.env.scope x) ℜ4)(hd:autoParam ((x ==("__debug__":Str))=false) ℜ1)
  (fX:autoParam ((x ==("__classdict__":Str))=false) ℜ1):PE X (.Name x pos) (vj i):=E_ hN hv hd fX
end
noncomputable def xb(H H':Hp):Prop:=∀b o,H b=some o->H' b=some o
theorem xb.refl(H:Hp):xb H H:=λ_ _ h=>h
section
variable {κ:Type} [DecidableEq κ]
theorem Be{kvs:List (κ×V)}{k:κ}{v:V}(h:ia kvs k=some v):k∈kvs.map (·.1):=by
 have q:(kvs.any λkv=>decide (kv.1=k))=true:=by
  rw[iL,h]
  all_goals rfl
 obtain⟨p,hp,e⟩:=List.any_eq_true.mp q;exact K2.mpr ⟨p,hp,Le e⟩
end
noncomputable def e7(cells:List (Str×Addr)):List (Str×NameKind)->List (Str×Addr)->List (Str×Addr)
 |[],acc=>acc
 | (n,k)::r,acc=>if k=.free then e7 cells r ((n,(cells.lookup n).getD 0)::acc) else e7 cells r acc
theorem hG(h:∀x∈scope.names,x.2=.free->∃c,env.cells.lookup x.1=some c):closureFor scope env=pure (e7 env.cells scope.names []):=by
 have all:∀(l:List (Str×NameKind)) (acc:List (Str×Addr)),(∀x∈l,x.2=.free->∃c,env.cells.lookup x.1=some c) ->
   (forIn l acc λ(x:Str×NameKind) (cs:List (Str×Addr))=>(match x with | (name,kind)=>if (kind == NameKind.free)=true then (do let c <- cellOf env name;pure (ForInStep.yield ((name,c)::cs))) else pure (ForInStep.yield cs):Sem (ForInStep (List (Str×Addr)))))=(pure (e7 env.cells l acc):Sem (List (Str×Addr))):=by
  intro l
  induction l with
  |nil=>intro acc _;rfl
  |cons x r ih =>
   intro acc hl;obtain⟨n,k⟩:=x;rw[Mb];by_cases hk:k=.free
   ·subst hk;obtain⟨c,hc⟩:=hl (n,.free) JU rfl;have e:cellOf env n=pure c:=by unfold cellOf;rw[hc]
    simp only[KY,Mn,e,e7,pure_bind];rw[ih _ λy hy=>hl y (JT _ hy),hc];rfl
   ·have hb:(k == NameKind.free)=false:=by simpa using hk
    simp only[hb,MH,Mv,e7,hk,pure_bind];exact ih _ λy hy=>hl y (JT _ hy)
 unfold closureFor;simp only[bind_pure];exact all scope.names [] h
theorem ji:∀{l:List (Str×NameKind)} {acc:List (Str×Addr)},(∀x∈l,x.2=.free->∃c,cells.lookup x.1=some c)->(∀x c,acc.lookup x=some c->cells.lookup x=some c) ->
  ∀x c,(e7 cells l acc).lookup x=some c->cells.lookup x=some c
 |[],_,_,h,x,c,e=>h x c e
 | (n,k)::r,acc,hl,h,x,c,e=>by
  unfold e7 at e;have hr:∀y∈r,y.2=.free->∃c,cells.lookup y.1=some c:=λy hy=>hl y (JT _ hy)
  split at e
  ·rename_i hk;refine ji hr (λy d q=>?_) x c e;rw[K9] at q
   split at q
   ·rename_i hy;obtain⟨c',hc'⟩:=hl (n,k) JU hk;have hy':y=n:=by simpa using hy
    subst hy';simp only[] at hc';rw[hc'] at q ⊢;exact q
   ·exact h y d q
  ·exact ji hr h x c e
theorem jg:∀{l:List (Str×NameKind)} {acc:List (Str×Addr)},(∃c,acc.lookup x=some c)->∃c,(e7 cells l acc).lookup x=some c
 |[],_,h=>h
 | (n,k)::r,acc,h=>by
  unfold e7;split
  ·refine jg ?_;rw[K9];split
   ·exact⟨_,rfl⟩
   ·exact h
  ·exact jg h
theorem gW:∀{l:List (Str×NameKind)} {acc:List (Str×Addr)},(x,NameKind.free)∈l->∃c,(e7 cells l acc).lookup x=some c
 |[],_,h=>by simp at h
 | (n,k)::r,acc,h=>by
  unfold e7;rcases JR.mp h with e|h
  ·cases e;rw[JQ rfl];exact jg ⟨(cells.lookup x).getD 0,by rw[K9];simp⟩
  ·split
   ·exact gW h
   ·exact gW h
noncomputable def aX(X:Cx)(scope:Scope)(N:List Str)(C:Addr)(s:Shared)(H:Hp)(fp:List Addr):Cx where
 prog:=X.prog
 w:=X.w
 K:=X.K
 mg:=X.mg
 base:=X.base
 A:=X.A
 N:=N
 s₀:=s
 H₀:=H
 env:=compEnvC scope (e7 X.env.cells scope.names []) C X.env
 outer:=X.stack
 stack:=X.stack
 ex:=fp
 calm:=X.calm
 fn:=λ_=>false
 pn:=[]
 xe:=λ_ _=>False
structure aQ (osc:Scope) (ON:List Str) (scope:Scope) (own N:List Str):Prop where
 kind:scope.kind=.function
 nd:N.Nodup
 len:N.length=own.length+ON.length
 la:∀y∈scope.names,y.2≠.cell
 loc:∀y∈scope.names,y.2=.local->scope.names.lookup y.1=some .local
 free:∀y∈scope.names,y.2=.free->osc.names.lookup y.1=some .cell\/osc.names.lookup y.1=some .free
 out:∀p∈ON.zip (N.drop own.length),p.1=p.2\/scope.names.lookup p.2=none
 own:∀x∈N.drop own.length,scope.names.lookup x≠some .local
theorem dj(x:Str)(hn:∀y∈scope.names,y.2≠.cell):((relabel scope env).names.lookup x=some .local->scope.names.lookup x=some .local) /\
  ((relabel scope env).names.lookup x=some .cell\/(relabel scope env).names.lookup x=some .free->scope.names.lookup x=some .free):=by
 unfold relabel;simp only;revert hn;generalize scope.names=l;intro hn
 induction l with
 |nil=>simp
 |cons y r ih =>
  obtain⟨n,k⟩:=y;have ih:=ih λy hy=>hn y (JT _ hy);have hk:k≠.cell:=hn (n,k) JU;rw[Ku];simp only;by_cases hc:(k == NameKind.free && env.scope.kind == ScopeKind.function && env.kindOf n == some NameKind.cell)=true
  ·rw[JQ hc,K9,K9];have hf:k=.free:=by
    simp only[KO] at hc
    simpa using hc.1.1
   split
   ·subst hf;simp
   ·exact ih
  ·rw[JN hc,K9,K9];split
   ·constructor
    ·exactλh=>h
    ·rintro (h|h)
     ·exact absurd (Option.some.inj h) hk
     ·exact h
   ·exact ih
noncomputable def Gg(X:Cx)(ifs:List Expr)(t:TT):Prop:=
 ∀(pins:List (Addr×Obj)) (s:Shared) (σ:St) (H:Hp) (Q:Bool->Hp->Prop),Inv X pins σ H s->t σ H Q ->
  wpAny (model X.prog X.w) X.A (forIn ifs true λc r=>if r=true then do let ok <- isTrue c X.env (eval c X.env);pure (ForInStep.yield ok) else pure (ForInStep.yield r)) (TP X pins σ Q) X.xe s
noncomputable def jx:TT:=λ_ H Q=>Q true H
theorem AV:Gg X [] jx:=λ_ _ _ H _ I h=>wpAny_tests_nil ⟨H,I,h⟩
theorem vv{M:Model}{A:Around}{s:Shared}{m:Sem α}{Q' Q:α->Shared->Prop}(h:wpAny M A m Q' (λ_ _=>False) s)(k:∀x s',Q' x s'->Q x s'):wpAny M A m Q E s:=KP h k λ_ _ z=>z.elim
theorem l_{A:Around}{R:Result->Shared->Prop}{s:Shared}{target:Expr}{pos:Pos}{it acc:Value}{XE:Value->Shared->Prop}(I:Nat->Shared->Prop)(hx:∀x s',XE x s'->notedBy (model prog w) A env (λv s''=>R (.error v) s'') x s')
  (turn:∀n s,I n s->wpAny (model prog w) A (pyNext it) (λr s₁=>match r with
   |none=>R (.ok .next) s₁
   |some v=>wpAny (model prog w) A (letOwnedTupleGo target it v) (λ_ s₁'=>wpAny (model prog w) A (assign target env v) (λ_ s₂ =>
     wpAny (model prog w) A (forIn ifs true λc r=>if r=true then do let ok <- isTrue c env (eval c env);pure (ForInStep.yield ok) else pure (ForInStep.yield r)) (λok s₃ =>
      if ok=true then wpAny (model prog w) A (eval elt env) (λx s₄ =>
       wpAny (model prog w) A (call (.builtin "list.append") [acc,x]) (λ_ s₅=>∃m,m<n/\I m s₅) XE s₄) XE s₃
      else ∃m,m<n/\I m s₃) XE s₂) XE s₁') XE s₁) XE s)
  (n:Nat) (h:I n s):codeAny (model prog w) A (.compLoop (.ListComp elt [⟨target,iter,ifs,0⟩] scope pos) 0 it acc env) R s:=by
 refine codeAny_loop rfl I (λn s hI=>?_) n h;show wpAny _ A ((compTurn (.ListComp elt [⟨target,iter,ifs,0⟩] scope pos) 0 it acc env).onRaise (λx=>do noteFrame x env;theTreesLotGoes x)) _ _ s
 refine wpAny_noted ?_;rw[compTurn_list];refine JJ (NF (JJ (KP (turn n s hI) (λr s₁ h₁=>?_) hx)))
 cases r with
 |none=>exact JV h₁
 |some v =>
  refine JJ (KP h₁ (λ_ s₁' h₁'=>?_) hx);refine JJ (KP h₁' (λ_ s₂ h₂=>JJ (KP h₂ (λok s₃ h₃=>?_) hx)) hx)
  cases ok with
  |false=>exact JV ⟨rfl,h₃⟩
  |true =>
   exact JJ (JJ (KP h₃ (λx s₄ h₄=>JJ (KP h₄ (λ_ s₅ h₅=>JV (JV ⟨rfl,h₅⟩)) hx)) hx))
noncomputable def i3(wi:TI)(k:Nat)(g:TG)(tc:TT)(te:TE):TE:=λσ H Q=>wi σ H λJ H1=>∀D,H1 D=none ->
 ∃W:Nat->Nat->List V->St->Hp->Prop,(∃m,W 0 m [] (List.replicate k none++σ) (upd H1 D (.lst [])))/\∀i m ys σ' H',W i m ys σ' H'->H' D=some (.lst ys) /\
  ((J.stop i H'/\Q (.ref D) H')\/(J.go i H'/\ys.length<sizeLine/\∀x H2,J.Dy i H' x H2->g x σ' H2 λσ3 H3=>tc σ3 H3 λb H4 =>
   if b=true then te σ3 H4 λv H5=>H5 D=some (.lst ys)/\∃m',m'<m/\W (i+1) m' (ys++[v]) σ3 (upd H5 D (.lst (ys++[v])))
   else ∃m',m'<m/\W (i+1) m' ys σ3 H4))
theorem rK{pos:Pos}{wi:TI}(S:aQ osc ON scope own N)(hosc:X.env.scope=osc)(hON:X.N=ON)(hc:X.calm=true)(hi:PI X tg iter wi)
  (hg:∀C s H fp,PG (aX X scope N C s H fp) tg g) (ht:∀C s H fp,Gg (aX X scope N C s H fp) ifs tc) (XE:Addr->Shared->Hp->List Addr->Value->Shared->Prop)
  (he:∀C s H fp pins s' σ' H' Q',(∀b∈fp,∃o,(b,o)∈pins)->Inv (aX X scope N C s H fp) pins σ' H' s'->te σ' H' Q'->wpAny (model X.prog X.w) X.A (eval elt (aX X scope N C s H fp).env) (EP (aX X scope N C s H fp) pins σ' Q') (XE C s H fp) s')
     {s:Shared} {Q:VK} (I:Inv X pins σ H s) (h:i3 wi own.length g tc te σ H Q) 
  (fin:∀(D C:Addr) (H':Hp) (s':Shared) (m:Str->Option Value),Inv X pins σ H' s'->Q (.ref D) H'->H' C=none->X.s₀.heap.objs.size<=C->C≠X.env.locals->(∀x c,X.env.cells.lookup x=some c->c≠C)->(∀p∈X.pn++pins,p.1≠C) ->
   s'.heap.Ns C m->RR (.ref D) C (.ok .next) s')
  (hx:∀(D C:Addr) (s3:Shared) (H3:Hp) (fp:List Addr),C=s3.heap.objs.size->Inv X pins σ H3 s3->(∀{pins':List (Addr×Obj)} {σ':St} {H':Hp} {s':Shared},Inv (aX X scope N C s3 H3 fp) pins' σ' H' s'->Inv X pins σ H' s') ->
   X.s₀.heap.objs.size<=C->C≠X.env.locals->(∀x c,X.env.cells.lookup x=some c->c≠C)->(∀p∈X.pn++pins,p.1≠C)->∀x s',XE C s3 H3 fp x s'->notedBy (model X.prog X.w) X.A (aX X scope N C s3 H3 fp).env (λv s''=>RR (.ref D) C (.error v) s'') x s') :
  wpAny (model X.prog X.w) X.A (eval iter X.env) (λx s₁=>wpAny (model X.prog X.w) X.A (pyIter x) (λit s₂=>wpAny (model X.prog X.w) X.A (newList []) (λacc s₃ =>
   wpAny (model X.prog X.w) X.A (newFunctionEnv scope X.env.globals (e7 X.env.cells scope.names []) [] X.env.qual none .none (some X.env)) (λcenv s₄ =>
    codeAny (model X.prog X.w) X.A (.compStart (.ListComp elt [⟨tg,iter,ifs,0⟩] scope pos) 0 it acc {cenv with scope:=relabel scope X.env}) (RR acc cenv.locals) s₄) X.xe s₃) X.xe s₂) X.xe s₁) X.xe s:=by
 refine cz (hi pins s σ H _ I h) λv s1 h1=>cz h1 λitv s2 h2=>?_;obtain⟨it,fp,tn,J,H2,e,I2,T,st2,f2,q⟩:=h2;subst e;refine Ln (wpAny_newFunctionEnv S.la (by intro y hy;simp at hy) (λh₁ hns₁ hsb₁=>?_) S.kind)
 dsimp only at hns₁ hsb₁ ⊢;have I3:Inv X pins σ (upd H2 s2.heap.objs.size (.lst [])) {s2 with heap:=s2.heap.push {cls:=.type "list",data:=.seq ([]:List Value).toArray},toks:=s2.toks}:=I2.E5 (t':=s2.toks) .nil (Nat.zero_le _)
 have hD2:H2 s2.heap.objs.size=none:=I2.fresh;obtain⟨W,⟨m0,w0⟩,turn⟩:=q _ hD2;generalize hs3:({s2 with heap:=s2.heap.push {cls:=.type "list",data:=.seq ([]:List Value).toArray},toks:=s2.toks}:Shared)=s3 at I3
 have eh3:s3.heap=s2.heap.push {cls:=.type "list",data:=.seq ([]:List Value).toArray}:=by rw[<- hs3]
 generalize hD:s2.heap.objs.size=D at I3 turn w0 hD2 ⊢;generalize hH3:upd H2 D (.lst [])=H3 at I3 w0;rw[<- eh3] at hns₁ hsb₁ ⊢;have hC3:H3 s3.heap.objs.size=none:=I3.fresh;have hsz3:s3.heap.objs.size=D+1:=by rw[eh3,Lm,hD]
 have fp2:∀b∈fp,b<s2.heap.objs.size:=λb hb=>by
  obtain⟨o,e,_⟩:=T.obj _ _ st2 b hb;exact Ke e
 have f3:∀b∈fp,ml X pins H3 b:=λb hb=>by
  obtain⟨g0,g1⟩:=f2 b hb;refine⟨?_,g1⟩;rw[<- hH3,ao (by rw[<- hD];exact Kn (fp2 b hb))]
  exact g0
 have neC:∀b o,s3.heap.get? b=some o->b≠s3.heap.objs.size:=λb o e=>Kn (Ke e);have old:∀b o,s3.heap.get? b=some o->h₁.get? b=some o:=λb o e=>hsb₁.extBut b o (neC b o e) (JM _ e);have hk:=S.kind;have hfr:∀y∈scope.names,y.2=.free->∃c,X.env.cells.lookup y.1=some c:=λy hy hf=>I3.ok.has _ (by subst hosc;exact S.free y hy hf)
 have sub:=ji (acc:=[]) hfr (by intro x c e;simp at e)
 have JB:∀tk,Inv (aX X scope N s3.heap.objs.size s3 H3 fp) [] (List.replicate own.length none++σ) H3 {s3 with heap:=h₁,toks:=tk}:=λtk=>by
  refine⟨⟨I3.ok.mod,S.kind,I3.ok.glob,I3.ok.blt,JS _,λx y c e1 e2=>I3.ok.inj x y c (sub x c e1) (sub y c e2),λx hx=>?_,λx c hf _=>(by cases hf),I3.ok.hd,I3.ok.frames,.inl rfl,λb hb=>?_,I3.bs,JX I3.ok.A0 I3.sz,λb o e hb=>?_,λb hb hf=>?_,I3.stack,I3.nO,I3.ok.tabs.un I3.base⟩,
   rfl,I3.bare,Un.kept old,⟨_,hns₁,λi x v e1 e2 e3=>?_⟩,λx c e=>?_,hC3,λx c e=>I3.fY x c (sub x c e),λp hp=>absurd (show p∈([]:List (Addr×Obj)) from hp) (by simp),I3.bc.kept old,?_⟩
  ·have q:=(dj (env:=X.env) x S.la).2 hx;exact gW (PySem.mem_of_lookup q)
  ·have hb:b∈fp:=hb;obtain⟨_,g1,g2,g3,g4,g5⟩:=f3 b hb;refine⟨?_,λx c e=>g4 x c (sub x c e)⟩;have:=fp2 b hb;show b≠s3.heap.objs.size;rw[hsz3,<- hD];exact Kn (NL this)
  ·have hb:b∈fp:=hb;obtain⟨_,g1,g2,g3,g4,g5⟩:=f3 b hb;rcases g3 with g3|g3
   ·exact I3.ok.xB b o e g3
   ·exact absurd (Kp (Ke e) (JX I3.ok.A0 g3)) (Lk _)
  ·have hb:b∈fp:=hb;obtain⟨_,g1,g2,g3,g4,g5⟩:=f3 b hb;rcases JR.mp (I3.nB b hf) with z|z
   ·exact g1 z
   ·exact g2 z
  ·have hi:own.length<=i:=by
    rcases KG i own.length with hlt|hge
    ·rw[Ks (by simpa using hlt),Oh] at e2
     split at e2<;>cases e2
    ·exact hge
   rw[Kk (by simpa using hi),Kb] at e2
   have e1:N[own.length+(i-own.length)]?=some x:=by rw[Nat.add_sub_cancel' hi];exact e1
   have e1d:(N.drop own.length)[i-own.length]?=some x:=by rw[KR];exact e1
   have nl:scope.names.lookup x≠some .local:=S.own x (KW e1d);have vis:scope.names.lookup x=some .free:=by
    rcases e3 with z|z
    ·exact absurd ((dj (env:=X.env) x S.la).1 z) nl
    ·exact (dj (env:=X.env) x S.la).2 z
   have hlen:=I3.len;have hlt:i-own.length<X.N.length:=by
    rw[<- hlen];exact (JO.mp e2).1
   have hxN:X.N[i-own.length]?=some x:=by
    rw[JI hlt];have mz:(X.N[i-own.length],x)∈ON.zip (N.drop own.length):=by
     rw[<- hON];refine KW (i:=i-own.length) ?_;rw[List.getElem?_zip_eq_some];exact⟨JI hlt,e1d⟩
    rcases S.out _ mz with z|z
    ·exact K7 some z
    ·exact absurd z (by rw[vis];simp)
   have hko:X.env.scope.names.lookup x=some .cell\/X.env.scope.names.lookup x=some .free:=by subst hosc;exact S.free _ (PySem.mem_of_lookup vis) rfl
   obtain⟨m,hn,hl⟩:=I3.loc;have hv:HN X.env.scope x:=by
    rcases hko with z|z
    ·exact .inr (.inl z)
    ·exact .inr (.inr z)
   obtain⟨u,ru,lk⟩:=hl _ x v hxN e2 hv;refine⟨u,ru,.inr ⟨?_,?_⟩⟩
   ·rcases e3 with z|z
    ·exact absurd ((dj (env:=X.env) x S.la).1 z) nl
    ·exact z
   ·rcases lk with ⟨k,_⟩|⟨_,c,ec,hcell⟩
    ·exfalso
     have k':X.env.scope.names.lookup x=some .local:=k;rcases hko with z|z
     ·rw[k'] at z;cases z
     ·rw[k'] at z;cases z
    ·obtain⟨c',ec'⟩:=gW (cells:=X.env.cells) (acc:=[]) (PySem.mem_of_lookup vis);have:=sub x c' ec';rw[ec] at this;cases this;obtain⟨o,ho,hd⟩:=hcell;exact⟨c,ec',o,old c o ho,hd⟩
  ·obtain⟨v,o,ho,hd⟩:=I3.cell x c (sub x c e);exact⟨v,o,old c o ho,hd⟩
  ·show (List.replicate own.length none++σ).length=N.length;rw[S.len,JL,Kb,I3.len,hON]
 have stat:∀{H':Hp},(∀b∈fp,H' b=none)->∀b∈fp,ml (aX X scope N s3.heap.objs.size s3 H3 fp) [] H' b:=λ{H'} hn b hb=>by
  obtain⟨_,g1,g2,g3,g4,g5⟩:=f3 b hb;refine⟨hn b hb,?_,λhf=>?_,.inl hb,λx c e=>g4 x c (sub x c e),λp hp=>absurd (show p∈([]:List (Addr×Obj)) from hp) (by simp)⟩
  ·have:=fp2 b hb;show b≠s3.heap.objs.size;rw[hsz3,<- hD];exact Kn (NL this)
  ·rcases JR.mp (I3.nB b hf) with z|z
   ·exact g1 z
   ·exact g2 z
 have st4:tn 0 h₁:=T.keep _ _ _ st2 λb hb o e=>old b o (by rw[eh3];exact JM _ e)
 have o3:∀x c,X.env.cells.lookup x=some c->c≠s3.heap.objs.size:=λx c e z=>by
  obtain⟨v,o,ho,_⟩:=I3.cell x c e;exact absurd (Ke ho) (by rw[z];exact Lk _)
 have o4:∀p∈X.pn++pins,p.1≠s3.heap.objs.size:=λp hp z=>absurd (Ke (I3.pin p hp).1) (by rw[z];exact Lk _)
 have outI:∀{pins':List (Addr×Obj)} {σ':St} {H':Hp} {s':Shared},Inv (aX X scope N s3.heap.objs.size s3 H3 fp) pins' σ' H' s'->Inv X pins σ H' s':=λI6=>by
  refine I3.HU (ch:=fp) I6.os I6.base I6.bc I6.bare λb hb=>?_;obtain⟨_,g1,g2,g3,g4,g5⟩:=f3 b hb;exact⟨g3,g1,g4,g5⟩
 have loop:∀s4:Shared,s4={s3 with heap:=h₁,toks:=s2.toks+([]:List (Str×Value)).length} ->
   codeAny (model X.prog X.w) X.A (.compLoop (.ListComp elt [⟨tg,iter,ifs,0⟩] scope pos) 0 (.ref it) (.ref D) (aX X scope N s3.heap.objs.size s3 H3 fp).env) (RR (.ref D) s3.heap.objs.size) s4:=by
  rintro s4 rfl;refine l_ (XE:=XE s3.heap.objs.size s3 H3 fp) (λn s'=>∃i ys σ' H',Inv (aX X scope N s3.heap.objs.size s3 H3 fp) [] σ' H' s'/\tn i s'.heap/\(∀b∈fp,H' b=none)/\W i n ys σ' H') (hx D _ s3 H3 fp rfl I3 outI I3.sz (Ls I3.lt) o3 o4) ?_ m0 ⟨0,[],_,H3,JB _,st4,λb hb=>(f3 b hb).1,w0⟩;rintro n s5 ⟨i,ys,σ5,H5,I5,st5,fr5,w5⟩;obtain⟨hD5,ways⟩:=turn i n ys σ5 H5 w5;rcases ways with ⟨stop,qn⟩|⟨go,hys,step⟩
  ·refine vv (T.done (aX X scope N s3.heap.objs.size s3 H3 fp) rfl rfl rfl hc i [] s5 σ5 H5 _ I5 (stat fr5) st5 stop) λr s6 hq1=>?_;obtain⟨hr,I6⟩:=hq1;subst hr;obtain⟨m,hn,_⟩:=I6.loc;exact fin D _ H5 s6 m (outI I6) qn I6.free I3.sz (Ls I3.lt) o3 o4 hn
  ·refine vv (T.item (aX X scope N s3.heap.objs.size s3 H3 fp) rfl rfl rfl hc i [] s5 σ5 H5 _ I5 (stat fr5) st5 go) λr s6 hq2=>?_;obtain⟨u,hr,h6⟩:=hq2;subst hr;refine vv h6 λ_ s7 hq3=>?_;obtain⟨x,H7,I7,r7,y7,st7,fr7⟩:=hq3;have I7':=I7.pinned (stat fr7) (T.obj _ _ st7);have back:∀{σ8:St} {H8:Hp} {s8:Shared},Inv (aX X scope N s3.heap.objs.size s3 H3 fp) ([]++i_ fp s7.heap) σ8 H8 s8->tn (i+1) s8.heap/\∀b∈fp,H8 b=none:=λ{σ8 H8 s8} I8=>by
    refine⟨T.keep _ _ _ st7 λb hb o e=>(I8.pin (b,o) (Kl _ (Kl _ (dY hb e)))).1,λb hb=>?_⟩;obtain⟨o,e,d⟩:=T.obj _ _ st7 b hb;exact (I8.pin (b,o) (Kl _ (Kl _ (dY hb e)))).2.1
   have hcov:∀b∈fp,∃o,(b,o)∈([]:List (Addr×Obj))++i_ fp s7.heap:=λb hb=>by
    obtain⟨o,e,_⟩:=T.obj _ _ st7 b hb;exact⟨o,Kl _ (dY hb e)⟩
   refine vv (hg _ _ _ _ _ s7 σ5 H7 x u _ I7' r7 (step x H7 y7)) λ_ s8 hq4=>?_;obtain⟨σ8,H8,I8,q8⟩:=hq4;refine vv (ht _ _ _ _ _ s8 σ8 H8 _ I8 q8) λok s9 hq5=>?_;obtain⟨H9,I9,q9⟩:=hq5
   cases ok with
   |false =>
    rw[JN (by simp)] at q9 ⊢
    obtain⟨m',hm,w9⟩:=q9;exact⟨m',hm,i+1,ys,σ8,H9,I9.gh,(back I9).1,(back I9).2,w9⟩
   |true =>
    rw[JQ rfl] at q9 ⊢;refine cz (he _ _ _ _ _ s9 σ8 H9 _ hcov I9 q9) λy s10 hq6=>?_;obtain⟨v10,H10,I10,r10,hD10,m',hm,w10⟩:=hq6;refine vv (mF _ s10 σ8 H10 (.ref D) [v10] (.ref D) [y] (λr H11=>r=.aU/\H11=upd H10 D (.lst (ys++[v10]))) I10 rfl (.cons r10 .nil) ⟨D,ys,v10,rfl,rfl,hD10,hys,rfl,rfl⟩) λ_ s11 hq7=>?_;obtain⟨_,H11,I11,_,_,e11⟩:=hq7;subst e11;exact⟨m',hm,i+1,_,σ8,_,I11.gh,(back I11).1,(back I11).2,w10⟩
 have start:=codeAny_compStart_list (R:=RR (.ref D) s3.heap.objs.size) (loop _ rfl) (T.self X.A 0 _ _ _ st4 (loop _ rfl));subst hs3;exact start
theorem mE{pos:Pos}{wi:TI}(S:aQ osc ON scope own N)(hosc:X.env.scope=osc)(hON:X.N=ON)(hc:X.calm=true)(hi:PI X tg iter wi)
  (hg:∀C s H fp,PG (aX X scope N C s H fp) tg g) (ht:∀C s H fp,Gg (aX X scope N C s H fp) ifs tc) (he:∀C s H fp,PE (aX X scope N C s H fp) elt te)
     {s:Shared} {Q:VK} (I:Inv X pins σ H s) (h:i3 wi own.length g tc te σ H Q) 
  (fin:∀(D C:Addr) (H':Hp) (s':Shared) (m:Str->Option Value),Inv X pins σ H' s'->Q (.ref D) H'->H' C=none->X.s₀.heap.objs.size<=C->C≠X.env.locals->(∀x c,X.env.cells.lookup x=some c->c≠C)->(∀p∈X.pn++pins,p.1≠C) ->
   s'.heap.Ns C m->RR (.ref D) C (.ok .next) s') :
  wpAny (model X.prog X.w) X.A (eval iter X.env) (λx s₁=>wpAny (model X.prog X.w) X.A (pyIter x) (λit s₂=>wpAny (model X.prog X.w) X.A (newList []) (λacc s₃ =>
   wpAny (model X.prog X.w) X.A (newFunctionEnv scope X.env.globals (e7 X.env.cells scope.names []) [] X.env.qual none .none (some X.env)) (λcenv s₄ =>
    codeAny (model X.prog X.w) X.A (.compStart (.ListComp elt [⟨tg,iter,ifs,0⟩] scope pos) 0 it acc {cenv with scope:=relabel scope X.env}) (RR acc cenv.locals) s₄) X.xe s₃) X.xe s₂) X.xe s₁) X.xe s:=
 rK S hosc hON hc hi hg ht (λ_ _ _ _ _ _=>False) (λC s H fp pins s' σ' H' Q' _ I h=>he C s H fp pins s' σ' H' Q' I h) I h fin λ_ _ _ _ _ _ _ _ _ _ _ _ _ _ z=>z.elim
theorem C4{pos:Pos}{wi:TI}(S:aQ osc ON scope own N)(hosc:X.env.scope=osc)(hON:X.N=ON)(hc:X.calm=true)(hi:PI X tg iter wi)
  (hg:∀C s H fp,PG (aX X scope N C s H fp) tg g) (ht:∀C s H fp,Gg (aX X scope N C s H fp) ifs tc) (he:∀C s H fp,PE (aX X scope N C s H fp) elt te)
  (hs:autoParam (∀x,foldedSetIterable iter X.env x=pure x) ℜ3) :
  PE X (.ListComp elt [⟨tg,iter,ifs,0⟩] scope pos) (i3 wi own.length g tc te):=by
 intro pins s σ H Q I h;have hfr:∀y∈scope.names,y.2=.free->∃c,X.env.cells.lookup y.1=some c:=λy hy hf=>I.ok.has _ (by subst hosc;exact S.free y hy hf)
 rw[eval_ListComp];refine Ob (use:=none) rfl hs (hG hfr) S.kind S.loc ?_;refine mE S hosc hON hc hi hg ht he I h (RR:=λacc C=>compPost (model X.prog X.w) X.A X.xe none (EP X pins σ Q) acc C) ?_;intro D C H' s' m I' q h1 h2 h3 h4 h5 hn;exact⟨m,hn,λh'' hs''=>⟨.ref D,H',I'.turned (t':=s'.toks) (λb o hb e=>(hs''.2 b hb).trans e) h1 h3 (.inr h2) h4 h5,rfl,q⟩⟩
theorem rE{pos spos py:Pos}{wi:TI}{y:Str}(hN:X.N.Nodup)(hj:X.N[j]?=some y)(hx:Loc X.env.scope y)(S:aQ osc ON scope own N)(hosc:X.env.scope=osc)(hON:X.N=ON)(hc:X.calm=true)(hi:PI X tg iter wi)
  (hg:∀C s H fp,PG (aX X scope N C s H fp) tg g) (ht:∀C s H fp,Gg (aX X scope N C s H fp) ifs tc) (he:∀C s H fp,PE (aX X scope N C s H fp) elt te)
  (hsw:autoParam (swapsWith (.ListComp elt [⟨tg,iter,ifs,0⟩] scope pos) (some (.Name y py)) spos.line X.env=pure true) ℜ0)
  (hf:autoParam (X.fn y=true\/X.env.scope.names.lookup y=some .local) ℜ2)
  (hs:autoParam (∀x,foldedSetIterable iter X.env x=pure x) ℜ3) :
  PS X (.Assign [.Name y py] (.ListComp elt [⟨tg,iter,ifs,0⟩] scope pos) spos) (kl (i3 wi own.length g tc te) (bT j)):=by
 intro pins s σ H Dn I h;have hfr:∀y∈scope.names,y.2=.free->∃c,X.env.cells.lookup y.1=some c:=λy hy hf=>I.ok.has _ (by subst hosc;exact S.free y hy hf)
 rw[exec_Assign_Name_used _ _ _ _ hsw];refine JJ (NF (JJ ?_));show wpAny _ X.A (do let _ <- comprehension (.ListComp elt [⟨tg,iter,ifs,0⟩] scope pos) scope X.env _ (newList []) false (eval iter X.env) (some (assign (.Name y py) X.env))) _ _ s
 refine JJ (KP (Ob (use:=some (assign (.Name y py) X.env)) (Q:=λ_ s'=>SP X pins Dn .next s') rfl hs (hG hfr) S.kind S.loc ?_) (λ_ s' hq=>JV (JV hq)) λ_ _ e=>e);refine mE S hosc hON hc hi hg ht he I h (RR:=λacc C=>compPost (model X.prog X.w) X.A X.xe (some (assign (.Name y py) X.env)) (λ_ s'=>SP X pins Dn .next s') acc C) ?_;intro D C H' s' m I' q h1 h2 h3 h4 h5 hn;show wpAny _ X.A (assign (.Name y py) X.env (.ref D)) _ _ _;refine wpAny_assign_Name (mL I' hN hj hx (v:=.ref D) rfl (λs'' I'' hsb=>?_) hf);obtain⟨a,sb,ha⟩:=hsb;have nC:C≠a:=by
  rcases ha with ha|ha
  ·rw[ha];exact h3
  ·exact (h4 y a ha).symm
 exact⟨m,hn.sameBut sb nC,λh'' hs''=>⟨_,H',I''.turned (t':=s''.toks) (λb o hb e=>(hs''.2 b hb).trans e) h1 h3 (.inr h2) h4 h5,q⟩⟩
noncomputable def gc(e:Expr):Bool:=match e with
 |.Starred ..=>false
 |_=>true
theorem eJ(h:gc e=true):starEach (e::es) env=(false,eval e env)::starEach es env:=by
 cases e<;>first|rfl|cases h
theorem plain_any{pos:Pos}:∀{es:List Expr},es.all gc=true->(backTo pos (starEach es env)).any (·.1)=false
 |[],_=>rfl
 |e::es,h=>by
  rw[L7,KO] at h;rw[eJ h.1];show (false || (backTo pos (starEach es env)).any (·.1))=false;rw[plain_any h.2];rfl
theorem plain_all{pos:Pos}:∀{es:List Expr},es.all gc=true->(backTo pos (starEach es env)).all (λx=>!x.1)=true
 |[],_=>rfl
 |e::es,h=>by
  rw[L7,KO] at h;rw[eJ h.1];show (true && (backTo pos (starEach es env)).all (λx=>!x.1))=true;rw[plain_all h.2];rfl
theorem FY{cpos:Pos}(h:(e::es).all gc=true)(hl:(e::es).length<30):
  ((backTo cpos (starEach (e::es) env)).all (λx=>!x.1) && (backToKw cpos (keywordEach [] env)).all (λx=>x.1.isSome) && decide ((e::es).length+([]:List Keyword).length+(if ([]:List Keyword).isEmpty then 0 else 1)<30))=true:=by
 rw[plain_all h];have e2:(backToKw cpos (keywordEach [] env)).all (λx=>x.1.isSome)=true:=rfl;rw[e2];have e3:(e::es).length+([]:List Keyword).length+(if ([]:List Keyword).isEmpty then 0 else 1)<30:=hl
 rw[Kw e3];rfl
section
variable {X:Cx} {e:Expr} {es:List Expr} {te:TE} {t:TA}
theorem Jf(ha:PE X e te)(hr:PA X es t)(h:autoParam (gc e=true) ℜ0):PA X (e::es) (jt te t):=tH ha hr (eJ h)
theorem Hh{id:String}{p pos:Pos}(hc:bK X (.builtin id) r)(hg:Gl X x)(hm:X.mg x=none)(hv:bootBuiltins x=some (.builtin id))(ha:PA X (e::es) t)(h1:autoParam (gc e=true) ℜ0)(h2:autoParam (es.all gc=true) ℜ0)(hn:autoParam (x≠"__name__") ℜ1)(hdb:autoParam ((x ==("__debug__":Str))=false) ℜ1):
  PE X (.Call (.Name x p) (e::es) [] pos) (Ck r t):=zG hc hg hm hv ha hn hdb (eJ h1) (plain_any h2)
theorem Ic{T:String}{p pos:Pos}(hc:bK X (.type T) r)(hg:Gl X x)(hm:X.mg x=none)(hv:bootBuiltins x=some (.type T))(ha:PA X (e::es) t)(h1:autoParam (gc e=true) ℜ0)(h2:autoParam (es.all gc=true) ℜ0)(hn:autoParam (x≠"__name__") ℜ1)(hdb:autoParam ((x ==("__debug__":Str))=false) ℜ1):
  PE X (.Call (.Name x p) (e::es) [] pos) (Ck r t):=vI hc hg hm hv ha hn hdb (eJ h1) (plain_any h2)
theorem En{o:Expr}{to:TE}{name:Str}{apos cpos:Pos}{T id:String}{r:V->List V->Hp->VK->Prop}(pa:PlainAttrs T)(slot:Slot T name id)(hty:typeOf (.builtin id)=pure (.type "method_descriptor"))(hm:wz X id r)(ho:PE X o to)(ha:PA X (e::es) t)
  (hbase:attributeBase o name X.env (eval o X.env)=eval o X.env) (hline:(apos.endLine == cpos.line)=true) (h:(e::es).all gc=true) (hl:(e::es).length<30):PE X (.Call (.Attribute o name apos) (e::es) [] cpos) (DY X.K T r to t):=by
 have h':=h;rw[L7,KO] at h';exact Gx pa slot hty hm ho ha hbase (FY h hl) hline (eJ h'.1) (plain_any h'.2)
theorem rN{a:Expr}{ta:TA}{p pos:Pos}(hg:Gl X "range")(hm:X.mg "range"=none)(ha:PA X [a] ta)(h:autoParam (gc a=true) ℜ0):PI X tg (.Call (.Name "range" p) [a] [] pos) (mx ta):=vi hg hm ha (eJ h)
end
structure HasFn (K:W.Frag) (mg:Str->Option Value) (x:Str) (st:Stmt) (ps:List Str):Prop where
 ex:∃(f:Addr) (fd:FuncData),gX K x x st f fd/\Binds K fd ps []/\mg x=some (.ref f)
structure ax (P:Program) (w:World) (K:W.Frag) (mg:Str->Option Value) (base:Heap) (CX:pZ) (k:Nat) (x:Str) (ps:List Str) (sp:Sp):Prop where
 ex:∃(f:Addr) (fd:FuncData),mg x=some (.ref f)/\W.keepIn K (.ref f)=true/\Binds K fd ps []/\cg P w K mg base CX k f fd ps sp
section
variable {P:Program} {w:World} {K:W.Frag} {mg:Str->Option Value} {base:Heap}
theorem HasFn.ok{ps:List Str}(F:HasFn K mg x st ps)(S:az N ps (af st))(len:∀vs H Q E,sp vs H Q E->vs.length=ps.length)
  (hbody:∀(f:Addr) (cdv:Value) (A:Around) (outer:List Env) (s:Shared) (H:Hp) (vs:List V) (Q:VK) (E:XK),bP k (A.deeper (envOfC x (af st) s.heap.objs.size f cdv))->sp vs H Q E ->
   ∃t,qX (dM aT P w K mg base N x (af st) f cdv A outer s H E).lW (aI st) t/\t {nx:=λ_ H'=>Q .aU H',rt:=Q} (start N vs) H):ax P w K mg base aT (k+1) x ps sp:=by
 obtain⟨f,fd,F1,b,m⟩:=F.ex;exact⟨f,fd,m,F1.kp,b,F1.ok S len λcdv A outer s H vs Q E hr h=>hbody f cdv A outer s H vs Q E hr h⟩
end
section
variable {X:Cx} {CX:pZ} {k:Nat} {ps:List Str} {sp:Sp} {E:XK} {x:Str} {p pos:Pos} {e:Expr} {es:List Expr} {t:TA}
theorem Hy(F:ax X.prog X.w X.K X.mg X.base CX k x ps sp)(hr:bP k X.A)(hg:Gl X x)(hx:Passes CX X E)(ha:PA X (e::es) t)(h1:autoParam (gc e=true) ℜ0)(h2:autoParam (es.all gc=true) ℜ0)(hdb:autoParam ((x ==("__debug__":Str))=false) ℜ1):
  PE X (.Call (.Name x p) (e::es) [] pos) (lG sp [] E t):=by
 obtain⟨f,fd,m,kp,b,G⟩:=F.ex;exact AY G hr hg m kp b .nil hx ha hdb (eJ h1) (plain_any h2)
end
noncomputable def Fi:Expr->Option V
 |.Constant (.int i) _ _=>some (.int i)
 |.Constant (.str x) _ _=>some (.str x)
 |.Constant (.bool b) _ _=>some (.bl b)
 |.Constant .none _ _=>some .aU
 |_=>none
noncomputable def tR:List Expr->Option (List V)
 |[]=>some []
 |e::es=>match Fi e,tR es with
  |some v,some vs=>some (v::vs)
  |_,_=>none
noncomputable def tK(vs:List V):TA:=λ_ H Q=>Q vs H
theorem Fy{v:V}(h:Fi e=some v):PE X e (tC v)/\∀es,starEach (e::es) X.env=(false,eval e X.env)::starEach es X.env:=by
 unfold Fi at h
 split at h
 ·cases h;exact⟨xP,λ_=>rfl⟩
 ·cases h;exact⟨yV,λ_=>rfl⟩
 ·cases h;exact⟨Ds,λ_=>rfl⟩
 ·cases h;exact⟨zi,λ_=>rfl⟩
 ·cases h
theorem mS{X:Cx}:∀{es:List Expr} {vs:List V},tR es=some vs->PA X es (tK vs)
 |[],vs,h=>by cases h;exact Al
 |e::es,vs,h=>by
  unfold tR at h
  split at h
  ·rename_i v ws e1 e2;cases h;have p:=Fy (X:=X) e1;exact tH (te:=tC v) (t:=tK ws) p.1 (mS e2) (p.2 es)
  ·cases h
noncomputable def sq(H:Hp)(p:Addr):Option (Bool×List V):=match H p with
 |some (.lst xs)=>some (true,xs)
 |some (.tup xs)=>some (false,xs)
 |some (.jS _ (.lst xs))=>some (true,xs)
 |some (.jS _ (.tup xs))=>some (false,xs)
 |_=>none
theorem gT(h:sq H p=some (true,xs)):cf K H p xs:=by
 unfold sq at h
 split at h
 ·rename_i e;cases h;exact .inl (.inl e)
 ·cases h
 ·rename_i e;cases h;exact .inl (.inr ⟨_,e⟩)
 ·cases h
 ·cases h
theorem gr(h:sq H p=some (false,xs)):bB K H p xs:=by
 unfold sq at h
 split at h
 ·cases h
 ·rename_i e;cases h;exact .inl (.inl e)
 ·cases h
 ·rename_i e;cases h;exact .inl (.inr ⟨_,e⟩)
 ·cases h
theorem sv{b:Bool}(h:sq H p=some (b,xs)):cf K H p xs\/bB K H p xs:=by
 cases b with
 |true=>exact .inl (gT h)
 |false=>exact .inr (gr h)
theorem aO(h:H p=some (.lst xs)):sq H p=some (true,xs):=by unfold sq;rw[h]
theorem aM(h:H p=some (.tup xs)):sq H p=some (false,xs):=by unfold sq;rw[h]
section
variable {X:Cx}
noncomputable def w6(K:W.Frag):R2:=λx y H Q=>match x,y with
 |.int i,.int j=>Q (.int (i+j)) H
 |.str i,.str j=>i.length+j.length<=sizeLine/\Q (.str (i++j)) H
 |.ref a,.ref b=>match H a,H b with
  |some (.lst xs),some (.lst ys)=>xs.length+ys.length<=sizeLine/\∀p,H p=none->Q (.ref p) (upd H p (.lst (xs++ys)))
  |some (.tup xs),some (.tup ys)=>xs≠[]/\ys≠[]/\xs.length+ys.length<=sizeLine/\∀p,H p=none->Q (.ref p) (upd H p (.tup (xs++ys)))
  |_,_=>False
 |_,_=>False
theorem BG:dc X (binaryOp .Add) (w6 X.K):=by
 intro pins s σ H x y v u Q I rx ry h
 cases x with
 |int i=>cases y with
  |int j=>exact yf pins s σ H _ _ v u Q I rx ry ⟨i,j,rfl,rfl,h⟩
  |_=>exact (show False from h).elim
 |str i=>cases y with
  |str j=>exact lB pins s σ H _ _ v u Q I rx ry ⟨i,j,rfl,rfl,h.1,h.2⟩
  |_=>exact (show False from h).elim
 |ref a=>cases y with
  |ref b =>
   unfold w6 at h;simp only at h
   split at h
   ·rename_i xs ys e1 e2;exact zu pins s σ H _ _ v u Q I rx ry ⟨a,b,xs,ys,rfl,rfl,e1,e2,h.1,h.2⟩
   ·rename_i xs ys e1 e2;obtain⟨h1,h2,h3,h4⟩:=h;exact uR pins s σ H _ _ v u Q I rx ry ⟨a,b,xs,ys,rfl,rfl,bB.of e1,bB.of e2,h1,h3,λz=>absurd z h2,λ_=>h4⟩
   ·exact h.elim
  |_=>exact (show False from h).elim
 |_=>exact (show False from h).elim
noncomputable def DS:R2:=λx y H Q=>match x,y with
 |.int i,.int j=>yb i j/\Q (.int (i*j)) H
 |.ref a,.int j=>Ik (.ref a) (.int j) H Q
 |_,_=>False
theorem de:dc X (binaryOp .Mult) DS:=by
 intro pins s σ H x y v u Q I rx ry h
 cases x with
 |int i=>cases y with
  |int j=>exact FJ pins s σ H _ _ v u Q I rx ry ⟨i,j,rfl,rfl,h.1,h.2⟩
  |_=>exact (show False from h).elim
 |ref a=>cases y with
  |int j=>exact Fp pins s σ H _ _ v u Q I rx ry h
  |_=>exact (show False from h).elim
 |_=>exact (show False from h).elim
theorem b8:dc X (compareOp .Eq) Dw:=DH
theorem yS:dc X (compareOp .NotEq) Hd:=DF
noncomputable def Gr(K:W.Frag)(neg:Bool):R2:=λx y H Q=>match y with
 |.str j=>∃i,x=.str i/\Q (.bl (if neg then !(!(Builtin.Str.occurrences j i 0 j.length 1).isEmpty) else !(Builtin.Str.occurrences j i 0 j.length 1).isEmpty)) H
 |.ref p=>match sq H p with
  |some (_,xs)=>cK x=true/\xs.all cK=true/\Q (.bl (if neg then !qI x xs else qI x xs)) H
  |none=>∃xs,bB K H p xs/\cK x=true/\xs.all cK=true/\Q (.bl (if neg then !qI x xs else qI x xs)) H
 |_=>False
theorem Ex{neg:Bool}{x:V}{Q:VK}(h:Gr K neg x (.ref p) H Q):IT K neg x (.ref p) H Q:=by
 unfold Gr at h;simp only at h
 split at h
 ·rename_i xs e;exact⟨p,_,rfl,sv e,h.1,h.2.1,h.2.2⟩
 ·obtain⟨xs,hq,h⟩:=h;exact⟨p,xs,rfl,.inr hq,h.1,h.2.1,h.2.2⟩
theorem EB(hu:k<cLine):dc X (compareOp .In) (Gr X.K false):=by
 intro pins s σ H x y v u Q I rx ry h
 match y,h with
 |.str j,h =>
  obtain⟨i,rfl,h'⟩:=h;exact vK pins s σ H _ _ v u Q I rx ry ⟨i,j,rfl,rfl,h'⟩
 |.ref p,h=>exact mN pins s σ H _ _ v u Q I rx ry (Ex h)
noncomputable def BP(K:W.Frag):R2:=λx y H Q=>match x,y with
 |.str z,.int i=>z.length<=sizeLine/\(match cI z.cps.toList i with|some c=>Q (.str ⟨#[c]⟩) H|none=>False)
 |.ref p,.int i=>match sq H p with
  |some (_,xs)=>(match cI xs i with|some v=>Q v H|none=>False)
  |none=>∃xs v,bB K H p xs/\cI xs i=some v/\Q v H
 |_,_=>False
theorem J7(hu:k<cLine):uY X (BP X.K):=by
 intro value slice pins s σ H x y v u Q I rx ry h hs;refine DX value slice pins s σ H x y v u Q I rx ry ?_ hs
 cases x with
 |str z=>cases y with
  |int i =>
   obtain⟨hz,h⟩:=h
   split at h
   ·rename_i c e;exact .inr (.inr ⟨z,i,c,rfl,rfl,hz,e,h⟩)
   ·exact h.elim
  |_=>exact (show False from h).elim
 |ref p=>cases y with
  |int i =>
   unfold BP at h;simp only at h
   split at h
   ·rename_i b xs e
    split at h
    ·rename_i w' e'
     cases b with
     |true=>exact .inl ⟨p,xs,i,w',rfl,rfl,gT e,e',h⟩
     |false=>exact .inr (.inl ⟨p,xs,i,w',rfl,rfl,gr e,e',h⟩)
    ·exact h.elim
   ·obtain⟨xs,w',hq,e',h⟩:=h;exact .inr (.inl ⟨p,xs,i,w',rfl,rfl,hq,e',h⟩)
  |_=>exact (show False from h).elim
 |_=>exact (show False from h).elim
noncomputable def Ir(K:W.Frag):V->Option Int->Option Int->Hp->VK->Prop:=λx lo hi H Q=>match x with
 |.ref p=>match sq H p with
  |some (true,xs)=>∀q,H q=none->Q (.ref q) (upd H q (.lst (dP xs lo hi)))
  |some (false,xs)=>rH K (.ref p) lo hi H Q
  |none=>rH K (.ref p) lo hi H Q
 |_=>False
theorem B3:uP X (Ir X.K):=by
 intro pins s σ H x v vl vu lo hi sl Q I rx hs pl pu h
 match x,h with
 |.ref p,h =>
  unfold Ir at h;simp only at h
  split at h
  ·rename_i xs e;exact oy pins s σ H _ v vl vu lo hi sl Q I rx hs pl pu ⟨p,xs,rfl,gT e,h⟩
  ·exact rG pins s σ H _ v vl vu lo hi sl Q I rx hs pl pu h
  ·exact rG pins s σ H _ v vl vu lo hi sl Q I rx hs pl pu h
noncomputable def zc:V->V->V->Hp->(Hp->Prop)->Prop:=λo i v H Q=>match o,i with
 |.ref p,.int k=>match H p with
  |some (.lst xs)=>(match lV xs.length k with|some j=>Q (upd H p (.lst (xs.set j v)))|none=>False)
  |_=>False
 |_,_=>False
theorem uset:FC X zc:=by
 intro pins s σ H o i v ov iv u Q I ro ri rv h
 cases o with
 |ref p=>cases i with
  |int k =>
   unfold zc at h;simp only at h
   split at h
   ·rename_i xs e
    split at h
    ·rename_i j e';exact set_list pins s σ H _ _ v ov iv u Q I ro ri rv ⟨p,xs,k,j,rfl,rfl,e,e',h⟩
    ·exact h.elim
   ·exact h.elim
  |_=>exact (show False from h).elim
 |_=>exact (show False from h).elim
noncomputable def zR(K:W.Frag):List V->Hp->VK->Prop:=λxs H Q=>match xs with
 |[.str y]=>y.length<=sizeLine/\Q (.int y.length) H
 |[.ref p]=>match sq H p with
  |some (_,ys)=>Q (.int ys.length) H
  |none=>∃ys,bB K H p ys/\Q (.int ys.length) H
 |_=>False
theorem vE:bK X (.builtin "len") (zR X.K):=by
 intro pins s σ H xs us Q I r h;rcases xs with _|⟨x,_|⟨y,xs⟩⟩
 ·exact (show False from h).elim
 rotate_left
 ·cases x<;>exact (show False from h).elim
 cases x with
 |str y=>exact i4 pins s σ H _ us Q I r ⟨.str y,_,rfl,⟨h.1,rfl⟩,h.2⟩
 |ref p =>
  unfold zR at h;simp only at h
  split at h
  ·rename_i b ys e;refine i4 pins s σ H _ us Q I r ⟨.ref p,ys.length,rfl,?_,h⟩
   cases b with
   |true=>exact .inl ⟨ys,gT e,rfl⟩
   |false=>exact .inr ⟨ys,gr e,rfl⟩
  ·obtain⟨ys,hq,h⟩:=h;exact i4 pins s σ H _ us Q I r ⟨.ref p,ys.length,rfl,.inr ⟨ys,hq,rfl⟩,h⟩
 |_=>exact (show False from h).elim
noncomputable def HP:List V->Hp->VK->Prop:=λxs H Q=>match xs with
 |[.int i,.int j]=>Q (.int (if j<i then j else i)) H
 |_=>False
theorem vA(hc:X.calm=true):bK X (.builtin "min") HP:=by
 intro pins s σ H xs us Q I r h;rcases xs with _|⟨x,_|⟨y,_|⟨z,xs⟩⟩⟩
 ·exact (show False from h).elim
 ·cases x<;>exact (show False from h).elim
 ·cases x with
  |int i=>cases y with
   |int j=>exact v_ hc pins s σ H _ us Q I r ⟨i,j,rfl,h⟩
   |_=>exact (show False from h).elim
  |_=>exact (show False from h).elim
 ·cases x with
  |int i=>cases y<;>exact (show False from h).elim
  |_=>exact (show False from h).elim
noncomputable def oq(K:W.Frag):List V->Hp->VK->Prop:=λxs H Q=>match xs with
 |[.ref p]=>match sq H p with
  |some (true,ys)=>∀l,H l=none->Q (.ref l) (upd H l (.tup ys))
  |some (false,_)=>Q (.ref p) H
  |none=>∃ys,bB K H p ys/\Q (.ref p) H
 |_=>False
theorem oT:bK X (.type "tuple") (oq X.K):=by
 intro pins s σ H xs us Q I r h;rcases xs with _|⟨x,_|⟨y,xs⟩⟩
 ·exact (show False from h).elim
 rotate_left
 ·cases x<;>exact (show False from h).elim
 cases x with
 |ref p =>
  unfold oq at h;simp only at h
  split at h
  ·rename_i ys e;exact ff pins s σ H _ us Q I r ⟨p,ys,rfl,.inl ⟨gT e,h⟩⟩
  ·rename_i ys e;exact ff pins s σ H _ us Q I r ⟨p,ys,rfl,.inr ⟨gr e,h⟩⟩
  ·obtain⟨ys,hq,h⟩:=h;exact ff pins s σ H _ us Q I r ⟨p,ys,rfl,.inr ⟨hq,h⟩⟩
 |_=>exact (show False from h).elim
noncomputable def HL:List V->Hp->VK->Prop:=λxs H Q=>match xs with
 |[.int i]=>Q (.int i) H
 |[.bl k]=>Q (.int (if k=true then 1 else 0)) H
 |_=>False
theorem vq:bK X (.type "int") HL:=by
 intro pins s σ H xs us Q I r h;rcases xs with _|⟨x,_|⟨y,ys⟩⟩
 ·exact (show False from h).elim
 ·cases x with
  |int i=>exact mG pins s σ H _ us Q I r (.inl ⟨i,rfl,h⟩)
  |bl k=>exact mG pins s σ H _ us Q I r (.inr ⟨k,rfl,h⟩)
  |_=>exact (show False from h).elim
 ·cases x<;>exact (show False from h).elim
noncomputable def GC:List V->Hp->VK->Prop:=λxs H Q=>match xs with
 |[.int i]=>i.natAbs.log2<1920/\Q (.str (toString i)) H
 |[.str z]=>Q (.str z) H
 |_=>False
theorem vO:bK X (.type "str") GC:=by
 intro pins s σ H xs us Q I r h
 match xs,h with
 |[.int i],h=>exact nX pins s σ H _ us Q I r ⟨i,rfl,h.1,h.2⟩
 |[.str z],h =>
  obtain⟨u,rfl,t,rfl⟩:=vals1 r;exact PySem.P.str_of_str ⟨.str z,H,I,⟨_,rfl⟩,h⟩
theorem uS(hc:X.calm=true):bK X (.builtin "sum") (λxs H Q=>∃(p:Addr) (ns:List Int),xs=[.ref p]/\cf X.K H p (ns.map V.int)/\Q (.int ns.sum) H):=by
 intro pins s σ H xs us Q I r h;obtain⟨p,ns,rfl,hq,q⟩:=h;obtain⟨u,rfl,ru⟩:=vals1 r;cases ru;obtain⟨its,rv,pl,hz⟩:=I.list hq;have hi:=intsAre_of rv;obtain⟨xs,hx⟩:=hi.allInts.items;have hl':s.heap.IsList p (intItems xs):=by rw[<- hx];exact pl.isList
 refine sum_intListG (I.ok.hd hc) hl' λh' tk t' hk=>?_;have e1:ns=xs.toList.map (·.1):=by rw[<- nums_intItems,<- hx];exact hi.numsOf.symm
 have e2:preSum (numAt xs) xs.size=ns.sum:=by rw[preSum_eq,KC (by simp),e1]
 rw[e2];exact⟨.int ns.sum,H,I.kept hk,⟨_,rfl⟩,q⟩
noncomputable def rJoin(K:W.Frag):V->List V->Hp->VK->Prop:=λx vs H Q=>∃z l ys,x=.str z/\vs=[.ref l]/\cf K H l (ys.map V.str)/\(ys.map (·.length)).sum+ys.length*z.length<=16777216/\Q (.str (Str.join z ys)) H
theorem lp:∀{ys:List Str} {us:List Value},Vals (ys.map V.str) us->StrsAre us ys
 |[],_,.nil=>.nil
 |y::ys,_,.cons r t=>by
  obtain⟨k,rfl⟩:=r;exact .cons y k (lp t)
theorem AW:wz X "str.join" (rJoin X.K):=by
 intro pins s σ H x xs v us Q I rx rs h;obtain⟨z,l,ys,rfl,rfl,hq,hz,q⟩:=h;obtain⟨t,rfl⟩:=rx;obtain⟨u,rfl,ru⟩:=vals1 rs;cases ru;obtain⟨its,rv,pl,_⟩:=I.list hq;refine join_list pl.isList (by simpa using lp rv) hz λt' k=>?_
 have e:Txt.join z ys=Str.join z ys:=StrLaws.glued_eq_join z ys;rw[e];exact⟨.str _,H,I.tok _,⟨_,rfl⟩,q⟩
end
section
variable {X:Cx} {e:Expr} {te:TE}
theorem tT(p:Nat->Bool):∀(l:List Nat),l.drop (l.takeWhile p).length=l.dropWhile p
 |[]=>rfl
 |x::l=>by
  by_cases h:p x
  ·simp[Nx,MC,h,tT p l]
  ·simp[Nx,MC,h]
end
open AutoSeq1 (wpAny_loadPart')
section
variable {prog:Program} {w:World} {A:Around} {E:Value->Shared->Prop} {s:Shared}
theorem j7{l:Addr}{x:Value}(hit:s.heap.IsTupleIter it l i)(hl:s.heap.IsTuple l items)(hx:items[i]?=some x)
  (hQ:∀h',h'.IsTupleIter it l (i+1)->Heap.SameBut it s.heap h'->Q x {s with heap:=h'}):wpAny (model prog w) A (Builtin.SmallTypes.nextOf (.ref it)) Q E s:=by
 obtain⟨o,ho,hc,hd⟩:=id hit;obtain⟨ol,hol,_,nl,hdl⟩:=hl;unfold Builtin.SmallTypes.nextOf;refine JJ (KJ (name:=Str.ofString "__next__") hit.typeIs LK (KZ LK hit.typeIs N8 ?_ (N2 _)));show wpAny _ _ (field (.ref it) 0 >>= _) _ _ s;refine JJ (Mf ho hd (x:=.ref l) rfl ?_);show wpAny _ _ (if (Value.ref l == Value.none)=true then _ else _) _ _ s
 rw[JN (show ¬ ((Value.ref l == Value.none)=true) from JZ)];show wpAny _ _ (field (.ref it) 1 >>= _) _ _ s;refine JJ (Mf ho hd (x:=.int i 0) rfl ?_);show wpAny _ _ (seqItems? (.ref l) >>= _) _ _ s;refine JJ (Mq hol hdl ?_);simp only[Ky,hx];refine JJ (N3 ho hd (by simp) (JV ⟨x,rfl,JV (hQ _ ?_ (Lf ..))⟩))
 exact⟨_,Mm _ ho (Obj.isFreed_of_fields (MI hd _)),(Obj.cls_mapFields ..).trans hc,by rw[MI hd];simp[rawInt]⟩
theorem jV{l:Addr}(hh:A.handled=none)(hit:s.heap.IsTupleIter it l i)(hl:s.heap.IsTuple l items)(hx:items[i]?=none)
  (hE:∀h' e,Heap.ExtBut it s.heap h'->(∃o,h'.get? e=some o/\o.cls=.type "StopIteration")->E (.ref e) {s with heap:=h'}):wpAny (model prog w) A (Builtin.SmallTypes.nextOf (.ref it)) Q E s:=by
 obtain⟨o,ho,hc,hd⟩:=id hit;obtain⟨ol,hol,_,nl,hdl⟩:=hl;unfold Builtin.SmallTypes.nextOf;refine JJ (KJ (name:=Str.ofString "__next__") hit.typeIs LK (KZ LK hit.typeIs N8 ?_ (N2 _)));show wpAny _ _ (field (.ref it) 0 >>= _) _ _ s;refine JJ (Mf ho hd (x:=.ref l) rfl ?_);show wpAny _ _ (if (Value.ref l == Value.none)=true then _ else _) _ _ s
 rw[JN (show ¬ ((Value.ref l == Value.none)=true) from JZ)];show wpAny _ _ (field (.ref it) 1 >>= _) _ _ s;refine JJ (Mf ho hd (x:=.int i 0) rfl ?_);show wpAny _ _ (seqItems? (.ref l) >>= _) _ _ s;refine JJ (Mq hol hdl ?_);simp only[Ky,hx];refine JJ (NQ (JJ (N3 ho hd (by simp) ?_)))
 show wpAny _ _ (newExc (.type "StopIteration") [] >>= _) _ _ _;refine JJ ?_;simp only[newExc,newTuple];refine JJ (Ln ?_ (by size_fits))
 refine JJ (m:=firstArgMember _ _) (wpAny_of_eq (a:=Value.none) (by first|rfl | (simp only[firstArgMember];rfl)) ?_)
 refine Ln ?_ (by size_fits)
 simp only[raiseNew];refine JJ (wpAny_handled ?_)
 first|rw[show A.in1.handled=none from hh]|rw[hh]
 refine JJ (JV (wpAny_throw ?_));exact hE _ _ (((Lf ..).extBut.push _).push _) ⟨_,Kc _ rfl,rfl⟩
theorem ja(hh:A.handled=none)(it l:Addr)(hne:l≠it)(items:Array Value):
  Draws prog w A it [it,l] items.size (λi v=>items[i]?=some v) (λi h=>h.IsTupleIter it l i/\h.IsTuple l items) where
 live:=λ_ _ st=>let ⟨o,ho,_⟩:=st.1;⟨o,ho⟩
 frame:=λ_ _ _ st hk=>⟨let ⟨o,e,r⟩:=st.1;⟨o,hk it (by simp) o e,r⟩,let ⟨o,e,r⟩:=st.2;⟨o,hk l (by simp) o e,r⟩⟩
 item:=λi s Q E hi st hQ=>by
  refine j7 st.1 st.2 (x:=items[i]) (by simp[hi]) λh' hit' hs'=>?_
  exact hQ _ h' s.toks (by simp[hi]) ⟨hit',st.2.extBut hs'.extBut hne⟩ hs'
 done:=λs Q E st hE=>jV hh st.1 st.2 (by simp) hE
theorem lC(l:Addr)(items:Array Value)(n:Nat)(dct:Option Addr)(sl:Array (Option Value)):
  Meets (Builtin.«enumerate.__new__» ⟨[.type "enumerate",.ref l],[]⟩) (λ_ R s=>s.heap.get? l=some {cls:=.type "tuple",dict:=dct,data:=.seq items n,slots:=sl} /\
   R (.ok (.ret (.ref (s.heap.push {cls:=.type "tuple_iterator",data:=.fields #[.ref l,.int 0 0]}).objs.size)))
    {s with heap:=(s.heap.push {cls:=.type "tuple_iterator",data:=.fields #[.ref l,.int 0 0]}).push {cls:=.type "enumerate",data:=.fields #[.none,.bool false,.ref s.heap.objs.size,rawInt 0,.none,.none]}}):=
 .of_wp λprog w A R s h=>by
  obtain⟨hp,g,d,tk,os⟩:=s;obtain⟨hl,h⟩:=h;have hsub:=sub_enumerate;have hL:Heap.IsTuple (Shared.heap ⟨hp,g,d,tk,os⟩) l items:=⟨_,hl,rfl,n,rfl⟩;wp_walk using Nj hl;refine wpAny_stack_any λst=>JV ?_;split
  ·rename_i c _ _ _ _ _
   cases (c == Value.type "enumerate")<;>(wp_walk using Nj hl,Mc hL;exact⟨_,rfl,h⟩)
  ·wp_walk using Nj hl,Mc hL;exact⟨_,rfl,h⟩
theorem mr{l:Addr}(hL:s.heap.IsTuple l items)
  (h:∀h',IsEnum h' (s.heap.objs.size+1) s.heap.objs.size 0 .none->h'.IsTupleIter s.heap.objs.size l 0->h'.objs.size=s.heap.objs.size+2 ->
   (∀b o,s.heap.get? b=some o->h'.get? b=some o)->Q (.ref (s.heap.objs.size+1)) {s with heap:=h'}) :
  wpAny (model prog w) A (call (.type "enumerate") [.ref l]) Q E s:=by
 obtain⟨⟨c,dct,dt,sl⟩,hl,hc,n,hd⟩:=hL
 replace hc:c=.type "tuple":=hc
 replace hd:dt=.seq items n:=hd
 subst hc hd;refine OT F.called_enumerate (by decide) (F.typeCall_enumerate_1 _) (F.newCall_enumerate_1 _) (λobj=>F.args_object_init_2 obj _) F.entry_enumerate_new (lC l items n dct sl) ⟨hl,?_⟩
 have hz:(s.heap.push {cls:=.type "tuple_iterator",data:=.fields #[.ref l,.int 0 0]}).objs.size=s.heap.objs.size+1:=Lm ..;show _/\_;rw[hz];have he:IsEnum ((s.heap.push {cls:=.type "tuple_iterator",data:=.fields #[.ref l,.int 0 0]}).push {cls:=.type "enumerate",data:=.fields #[.none,.bool false,.ref s.heap.objs.size,rawInt 0,.none,.none]}) (s.heap.objs.size+1) s.heap.objs.size 0 .none:=by
  have:=Kc (s.heap.push {cls:=.type "tuple_iterator",data:=.fields #[.ref l,.int 0 0]}) (o:={cls:=.type "enumerate",data:=.fields #[.none,.bool false,.ref s.heap.objs.size,rawInt 0,.none,.none]}) rfl;rw[hz] at this;exact this
 refine⟨⟨_,he,rfl⟩,h _ he ⟨_,JM _ (Kc _ rfl),rfl,rfl⟩ (by rw[Lm,hz]) λb o x=>JM _ (JM _ x)⟩
end
section
variable {X:Cx} {pins:List (Addr×Obj)} {σ:St} {H:Hp} {s:Shared} {h':Heap}
theorem Inv.turns{t':Nat}(I:Inv X pins σ H s)(hf:∀b∈fp,ml X pins H b)(k:∀b o,b∉fp->s.heap.get? b=some o->h'.get? b=some o):Inv X pins σ H {s with heap:=h',toks:=t'}:=by
 have nf:∀b u,H b=some u->b∉fp:=λb u e z=>by rw[(hf b z).1] at e;cases e
 refine I.step (g':=s.gens) (d':=s.drawn) (ch:=fp) (λb hb=>?_) (λb o _ _ hc e _=>k b o hc e) (λb o _ _ hc e _=>⟨o.slots,k b o hc e⟩) (λ_ _ _ _ n=>n)
  (λb o hc e=>⟨o,k b o hc e⟩) (λ_ _ e=>e) (λ_ _ _ e=>e) (λb ps e=>⟨#[],by rw[e];simp⟩) (λm hm=>?_) (λb u e=>?_) I.bare
 ·obtain⟨_,g1,g2,g3,g4,g5⟩:=hf b hb;exact⟨g3,g1,g4,g5⟩
 ·obtain⟨o,es,ep,ho,r⟩:=hm;exact⟨o,es,ep,k _ o (λz=>(hf _ z).2.1 rfl) ho,r⟩
 ·refine (I.bc b u e).nc (λc v hc q=>k c v ?_ q) (λ_ q=>q) (λ_ _ q=>q) λ_ _ _ q=>q;rcases hc with z|z
  ·rw[z];exact nf b u e
  ·exact nf c _ z
theorem Inv.oj{t':Nat}(I:Inv X pins σ H s)(hf:∀b∈fp,ml X pins H b)(hp:s.heap.objs.size<=p)(k:∀b o,b∉fp->s.heap.get? b=some o->h'.get? b=some o)
  (new:bS X.prog X.w (upd H p o) h' p o):Inv X pins σ (upd H p o) {s with heap:=h',toks:=t'}:=by
 have nf:∀b u,H b=some u->b∉fp:=λb u e z=>by rw[(hf b z).1] at e;cases e
 have fr:H p=none:=I.bc.fresh hp;have np:∀b u,H b=some u->b≠p:=λb u e=>au e fr;have ne:∀b o,s.heap.get? b=some o->b≠p:=λb o e z=>by rw[z] at e;exact absurd (Kp (Ke e) hp) (Lk _)
 refine I.step (g':=s.gens) (d':=s.drawn) (ch:=fp) (λb hb=>?_) (λb o _ _ hc e _=>k b o hc e) (λb o _ _ hc e _=>⟨o.slots,k b o hc e⟩) (λb o _ e n=>by rw[ao (ne b o e)];exact n)
  (λb o hc e=>⟨o,k b o hc e⟩) (λb xs e=>by rw[ao (np b _ e)];exact e) (λb o u e=>by rw[ao (np b _ e)];exact e) (λb ps e=>⟨#[],by rw[ao (np b _ e),e];simp⟩) (λm hm=>?_) (λb u e=>?_) I.bare
 ·obtain⟨_,g1,g2,g3,g4,g5⟩:=hf b hb;exact⟨g3,g1,g4,g5⟩
 ·obtain⟨o,es,ep,ho,r⟩:=hm;exact⟨o,es,ep,k _ o (λz=>(hf _ z).2.1 rfl) ho,r⟩
 ·by_cases hb:b=p
  ·subst hb;rw[ae] at e;cases e;exact new
  ·rw[ao hb] at e;refine (I.bc b u e).nc (λc v hc q=>k c v ?_ q) (λc q=>by rw[ao (np c _ q)];exact q) (λc xs q=>by rw[ao (np c _ q)];exact q) λc _ _ q=>by rw[ao (np c _ q)];exact q
   rcases hc with z|z
   ·rw[z];exact nf b u e
   ·exact nf c _ z
end
noncomputable def getL(K:W.Frag)(a:Addr):Nat->Hp->V->Prop:=λi H x=>∃xs,cf K H a xs/\xs[i]?=some x
noncomputable def Jk(K:W.Frag)(a:Addr):Nat->Hp->V->Prop:=λi H x=>∃xs,bB K H a xs/\xs[i]?=some x
noncomputable def IX(K:W.Frag)(a:Addr):Nat->Hp->Prop:=λi H=>∃xs,cf K H a xs/\xs.length=i
noncomputable def IM(K:W.Frag)(a:Addr):Nat->Hp->Prop:=λi H=>∃xs,bB K H a xs/\xs.length=i
noncomputable def Bz(K:W.Frag)(a:Addr):It:=
 ⟨λi H=>∃x,Jk K a i H x,λi H x H'=>∃p y,(∀xs,bB K H a xs->xs[i]?=some y)/\H p=none/\x=.ref p/\H'=upd H p (.tup [.int i,y]),IM K a⟩
theorem rg{tk:Nat}{tp:Pos}(a it e:Addr)(hne:e≠it):Turn P w K (.Tuple es tk tp) (Bz K a) [e,it] e (λi h=>(∃old,IsEnum h e it i old)/\h.IsTupleIter it a i) where
 mem:=by simp
 obj:=λi h st b hb=>by
  obtain⟨⟨old,he⟩,o,eo,c,d⟩:=st;rcases JR.mp hb with z|z
  ·subst z;exact⟨_,he,λv z=>by cases z⟩
  ·have z:b=it:=by simpa using z
   subst z;exact⟨o,eo,λv z=>by rw[d] at z;cases z⟩
 keep:=λi h h' st k=>by
  obtain⟨⟨old,he⟩,o,eo,r⟩:=st;exact⟨⟨old,k e (by simp) _ he⟩,o,k it (by simp) o eo,r⟩
 item:=by
  intro X hP hw hK hc i pins s σ H E I hf st hg;subst hP hw hK;obtain⟨x,xs,hq,hx⟩:=hg;obtain⟨⟨old,he⟩,hit⟩:=st;obtain⟨its,rv,p,hz⟩:=I.tuple hq;obtain⟨u,hu,ru⟩:=rv.get hx;obtain⟨g0,g1,g2,g3,g4,g5⟩:=hf e (by simp)
  obtain⟨f0,f1,f2,f3,f4,f5⟩:=hf it (by simp)
  have ht:s.heap.IsTuple a its.toArray:=p;have ha:a≠it:=by
   rintro rfl;obtain⟨o,e1,c1,_⟩:=hit;obtain⟨o',e2,c2,_⟩:=ht;rw[e1] at e2;cases e2;rw[c1] at c2;exact absurd (Value.type.inj c2) (by decide)
  have hea:e≠a:=by
   rintro rfl;obtain⟨o',e2,c2,_⟩:=ht;have e1:s.heap.get? e=some _:=he;rw[e1] at e2;cases e2;exact absurd (Value.type.inj c2) (by decide)
  have hi:i<its.toArray.size:=by
   have:=(JO.mp hu).1
   simpa using this
  refine Oi (ja (A:=X.A.in1) (I.ok.hd hc) it a ha its.toArray) he ⟨hit,ht⟩ hi hne (by simp[hne,hea]) λx' h' tk' hP ho hs' hT hsz hk=>?_
  have ex:x'=u:=by
   have hP':its.toArray[i]?=some x':=hP;rw[KQ,hu] at hP';exact (Option.some.inj hP').symm
  subst ex;refine⟨.ref s.heap.objs.size,rfl,NG ho λh2 he2 hs2=>?_⟩;have fr:H s.heap.objs.size=none:=I.bc.fresh (JS _);have hle:e≠s.heap.objs.size:=Kn (Ke he);have hT2:h2.get? s.heap.objs.size=some {cls:=.type "tuple",data:=.seq #[.int i tk',x']}:=(hs2.2 _ (Ll hle)).trans hT;have I2:Inv X pins σ (upd H s.heap.objs.size (.tup [.int i,x])) {s with heap:=h2,toks:=tk'+1}:=by
   refine I.oj (fp:=[e,it]) hf (JS _) (λb o hb eb=>?_) ⟨by show 2<=sizeLine;decide,[.int i tk',x'],.cons ⟨_,rfl⟩ (.cons ru .nil),⟨_,hT2,rfl,_,rfl,rfl⟩⟩
   have n1:b≠e:=λz=>hb (by simp[z])
   have n2:b≠it:=λz=>hb (by simp[z])
   exact (hs2.2 b n1).trans (hk b o n1 n2 eb)
  refine⟨.ref s.heap.objs.size,_,I2,rfl,⟨s.heap.objs.size,x,λys hy=>by rw[I.iY hy hq];exact hx,fr,rfl,rfl⟩,⟨⟨x',?_⟩,?_⟩,λb hb=>?_⟩
  ·have e:(((i+1:Nat)):Int)=(i:Int)+1:=by lia
   rw[e];exact he2
  ·obtain⟨o,e1,r⟩:=hs'.1;exact⟨o,(hs2.2 it (Ll hne)).trans e1,r⟩
  ·have n:b≠s.heap.objs.size:=by
    rcases JR.mp hb with z|z
    ·subst z;exact hle
    ·have z:b=it:=by simpa using z
     subst z;obtain⟨o,e1,_⟩:=hit;exact Kn (Ke e1)
   rw[ao n];exact (hf b hb).1
 done:=by
  intro X hP hw hK hc i pins s σ H E I hf st hg;subst hP hw hK;obtain⟨xs,hq,hx⟩:=hg;obtain⟨⟨old,he⟩,hit⟩:=st;obtain⟨its,rv,p,hz⟩:=I.tuple hq;have ht:s.heap.IsTuple a its.toArray:=p;have ha:a≠it:=by
   rintro rfl;obtain⟨o,e1,c1,_⟩:=hit;obtain⟨o',e2,c2,_⟩:=ht;rw[e1] at e2;cases e2;rw[c1] at c2;exact absurd (Value.type.inj c2) (by decide)
  have hl:=rv.length;have hsz:its.toArray.size=i:=by simp;lia
  refine Oz (ja (A:=X.A.in1) (I.ok.hd hc) it a ha its.toArray) he (by rw[hsz];exact⟨hit,ht⟩) λh' eb=>⟨rfl,?_⟩
  exact I.turns (t':=s.toks) hf λb o hb e1=>eb b o (λz=>hb (by simp[z])) e1
 self:=λA i s Q E st h=>by
  obtain⟨⟨old,he⟩,_⟩:=st;exact MQ he h
section
variable {X:Cx} {es:List Expr} {tk:Nat} {tp:Pos}
noncomputable def qz(K:W.Frag)(ta:TA):TI:=λσ H R=>ta σ H λvs H1=>∃a,vs=[.ref a]/\(∃xs,bB K H1 a xs)/\R (Bz K a) H1
theorem Bb{ta:TA}{p pos:Pos}(hg:Gl X "enumerate")(hm:X.mg "enumerate"=none)(ha:PA X [e] ta)(h1:autoParam (gc e=true) ℜ0)(hv:autoParam (bootBuiltins "enumerate"=some (.type "enumerate")) ℜ6):
  PI X (.Tuple es tk tp) (.Call (.Name "enumerate" p) [e] [] pos) (qz X.K ta):=by
 intro pins s σ H R I h;refine Call_ (ik I hg hm hv (Lp (cz (ha pos pins s σ H _ I h) λus s1 hq1=>?_) (eJ h1) rfl));obtain⟨vs,H1,I1,r1,q1⟩:=hq1;obtain⟨a,e,⟨xs,hq⟩,q⟩:=q1;subst e;obtain⟨u,rfl,ru⟩:=vals1 r1;cases ru;obtain⟨its,rv,pt,hz⟩:=I1.tuple hq;refine mr (show s1.heap.IsTuple a its.toArray from pt) λh' he hit hsz hk=>?_;refine MQ he ?_;have I2:Inv X pins σ H1 {s1 with heap:=h'}:=I1.kept (t':=s1.toks) hk
 refine⟨s1.heap.objs.size+1,[s1.heap.objs.size+1,s1.heap.objs.size],_,_,H1,rfl,I2,rg a s1.heap.objs.size (s1.heap.objs.size+1) (Ls (Mt _)),⟨⟨_,he⟩,hit⟩,λb hb=>?_,q⟩;have hb':s1.heap.objs.size<=b:=by
  rcases JR.mp hb with z|z
  ·rw[z];exact KI _
  ·have z:b=s1.heap.objs.size:=by simpa using z
   rw[z];exact JS _
 exact I1.oP hb' (I1.bc.fresh hb')
noncomputable def zx(K:W.Frag)(tl:TE):TI:=λσ H R=>tl σ H λx H1=>match x with
 |.ref a=>match sq H1 a with
  |some (true,_)=>R (wO K a) H1
  |some (false,_)=>R (uV K a) H1
  |none=>(∃xs,bB K H1 a xs)/\R (uV K a) H1
 |_=>False
theorem FO{l:Expr}{tl:TE}(hl:PE X l tl):PI X tg l (zx X.K tl):=by
 intro pins s σ H R I h;refine cz (hl pins s σ H _ I h) λv s1 hq2=>?_;obtain⟨x,H1,I1,r1,q1⟩:=hq2;obtain⟨a,rfl,q⟩:∃a,x=V.ref a/\(((∃xs,cf X.K H1 a xs)/\R (wO X.K a) H1)\/((∃xs,bB X.K H1 a xs)/\R (uV X.K a) H1)):=by
  match x,q1 with
  |.ref a,q1 =>
   simp only at q1
   split at q1
   ·rename_i xs e;exact⟨a,rfl,.inl ⟨⟨xs,gT e⟩,q1⟩⟩
   ·rename_i xs e;exact⟨a,rfl,.inr ⟨⟨xs,gr e⟩,q1⟩⟩
   ·exact⟨a,rfl,.inr q1⟩
 cases r1;rcases q with ⟨⟨xs,hq⟩,q⟩|⟨⟨xs,hq⟩,q⟩
 ·obtain⟨its,rv,p,hz⟩:=I1.list hq;refine MR p.isList ?_;refine⟨s1.heap.objs.size,[s1.heap.objs.size],_,_,H1,rfl,I1.kept (t':=s1.toks) λb o e=>JM _ e,mB a _,⟨_,Kc _ rfl,rfl,rfl⟩,λb hb=>?_,q⟩;have e:b=s1.heap.objs.size:=by simpa using hb
  subst e;exact I1.oP (JS _) (I1.bc.fresh (JS _))
 ·obtain⟨its,rv,p,hz⟩:=I1.tuple hq;refine Mc (show s1.heap.IsTuple a its.toArray from p) ?_;refine⟨s1.heap.objs.size,[s1.heap.objs.size],_,_,H1,rfl,I1.kept (t':=s1.toks) λb o e=>JM _ e,kT a _,⟨_,Kc _ rfl,rfl,rfl⟩,λb hb=>?_,q⟩;have e:b=s1.heap.objs.size:=by simpa using hb
  subst e;exact I1.oP (JS _) (I1.bc.fresh (JS _))
end
noncomputable def rY(J:It)(g:TG)(tb:TS)(D:Ends)(σ:St)(H:Hp):Prop:=∃W:Nat->Nat->St->Hp->Prop,(∃m,W 0 m σ H)/\∀i m σ H,W i m σ H ->
 (J.stop i H/\D.nx σ H)\/(J.go i H/\∃N:St->Hp->Prop,(∀σ' H',N σ' H'->∃m',m'<m/\W (i+1) m' σ' H')/\∀x H',J.Dy i H x H'->g x σ H' λσ2 H2=>tb {D with nx:=N,ct:=N,bk:=D.nx} σ2 H2)
theorem C8(wi:TI)(g:TG)(tb:TS)(D:Ends)(σ:St)(H:Hp):EN wi g tb D σ H=wi σ H λJ H1=>rY J g tb D σ H1:=rfl
noncomputable def tU(J:It)(k:Nat)(g:TG)(tc:TT)(te:TE)(Q:VK)(σ:St)(H1:Hp):Prop:=∀D,H1 D=none ->
 ∃W:Nat->Nat->List V->St->Hp->Prop,(∃m,W 0 m [] (List.replicate k none++σ) (upd H1 D (.lst [])))/\∀i m ys σ' H',W i m ys σ' H'->H' D=some (.lst ys) /\
  ((J.stop i H'/\Q (.ref D) H')\/(J.go i H'/\ys.length<sizeLine/\∀x H2,J.Dy i H' x H2->g x σ' H2 λσ3 H3=>tc σ3 H3 λb H4 =>
   if b=true then te σ3 H4 λv H5=>H5 D=some (.lst ys)/\∃m',m'<m/\W (i+1) m' (ys++[v]) σ3 (upd H5 D (.lst (ys++[v])))
   else ∃m',m'<m/\W (i+1) m' ys σ3 H4))
theorem yg(wi:TI)(k:Nat)(g:TG)(tc:TT)(te:TE)(σ:St)(H:Hp)(Q:VK):i3 wi k g tc te σ H Q=wi σ H λJ H1=>tU J k g tc te Q σ H1:=rfl
section
variable {K:W.Frag} {g:TG} {tb:TS} {D:Ends} {σ:St} {H:Hp} {te:TE} {Q:VK}
theorem mV(Pv:Nat->St->Hp->Prop)(h0:Pv 0 σ H)(hl:∀i σ H,i<=xs.length->Pv i σ H->cf K H a xs)
  (hs:∀i x σ H,xs[i]?=some x->Pv i σ H->g x σ H λσ2 H2=>tb {D with nx:=Pv (i+1),ct:=Pv (i+1),bk:=D.nx} σ2 H2) (hd:∀σ H,Pv xs.length σ H->D.nx σ H):rY (wO K a) g tb D σ H:=yq Pv h0 hl hs hd
theorem zK(Pv:Nat->St->Hp->Prop)(h0:Pv 0 σ H)(hl:∀i σ H,i<=xs.length->Pv i σ H->bB K H a xs)
  (hs:∀i x σ H,xs[i]?=some x->Pv i σ H->g x σ H λσ2 H2=>tb {D with nx:=Pv (i+1),ct:=Pv (i+1),bk:=D.nx} σ2 H2) (hd:∀σ H,Pv xs.length σ H->D.nx σ H):rY (uV K a) g tb D σ H:=B0 Pv h0 hl hs hd
theorem eF{lo:Int}{n:Nat}(Pv:Nat->St->Hp->Prop)(h0:Pv 0 σ H)
  (hs:∀i σ H,i<n->Pv i σ H->g (.int (lo+i)) σ H λσ2 H2=>tb {D with nx:=Pv (i+1),ct:=Pv (i+1),bk:=D.nx} σ2 H2) (hd:∀σ H,Pv n σ H->D.nx σ H):rY (CV lo n) g tb D σ H:=w8 Pv h0 hs hd
theorem qZ(Pv:Nat->St->Hp->Prop)(h0:Pv 0 σ H)(hl:∀i σ H,i<=xs.length->Pv i σ H->bB K H a xs)
  (hs:∀i x σ H p,xs[i]?=some x->Pv i σ H->H p=none->g (.ref p) σ (upd H p (.tup [.int i,x])) λσ2 H2=>tb {D with nx:=Pv (i+1),ct:=Pv (i+1),bk:=D.nx} σ2 H2) (hd:∀σ H,Pv xs.length σ H->D.nx σ H) :
  rY (Bz K a) g tb D σ H:=by
 refine⟨λi m σ H=>m=xs.length-i/\i<=xs.length/\Pv i σ H,⟨xs.length,by simp,Kh _,h0⟩,?_⟩
 rintro i m σ H ⟨rfl,hi,p⟩;have q:=hl i σ H hi p;by_cases hlt:i<xs.length
 ·refine .inr ⟨⟨xs[i],xs,q,by simp[hlt]⟩,Pv (i+1),λσ' H' p'=>⟨xs.length-(i+1),by lia,rfl,hlt,p'⟩,λx H' y=>?_⟩
  obtain⟨b,y,hy,fr,rfl,rfl⟩:=y;exact hs i y σ H b (hy xs q) p fr
 ·have e:i=xs.length:=by lia
  subst e;exact .inl ⟨⟨xs,q,rfl⟩,hd σ H p⟩
theorem cE(hn:xs.length<=sizeLine)(Pv:Addr->Nat->List V->Hp->Prop)(h0:∀D,H D=none->Pv D 0 [] (upd H D (.lst [])))(hD:∀D i ys H',Pv D i ys H'->H' D=some (.lst ys)/\ys.length=i)
  (hl:∀D i ys H',Pv D i ys H'->bB K H' a xs)
  (hs:∀D i ys H' x (R:VK),xs[i]?=some x->Pv D i ys H'->(∀v H5,H5 D=some (.lst ys)->Pv D (i+1) (ys++[v]) (upd H5 D (.lst (ys++[v])))->R v H5)->te (some x::σ) H' R) (hd:∀D ys H',Pv D xs.length ys H'->Q (.ref D) H') :
  tU (uV K a) 1 (bT 0) jx te Q σ H:=by
 intro D hD0;refine⟨λi m ys σ' H'=>m=xs.length-i/\i<=xs.length/\Pv D i ys H'/\∃o,σ'=o::σ,⟨xs.length,by simp,Kh _,h0 D hD0,none,rfl⟩,?_⟩
 rintro i m ys σ' H' ⟨rfl,hi,p,o,rfl⟩;obtain⟨hDi,hly⟩:=hD _ _ _ _ p;have q:=hl _ _ _ _ p;refine⟨hDi,?_⟩;by_cases hlt:i<xs.length
 ·refine .inr ⟨⟨xs,xs[i],q,by simp[hlt]⟩,by lia,λx H2 y=>?_⟩
  obtain⟨rfl,y⟩:=y;unfold bT jx;dsimp only;rw[if_pos rfl];exact hs D i ys H2 x _ (y xs q) p λv H5 q1 q2=>⟨q1,xs.length-(i+1),by lia,rfl,hlt,q2,_,rfl⟩
 ·have e:i=xs.length:=by lia
  subst e;exact .inl ⟨⟨xs,q,JS _⟩,hd D ys H' p⟩
end
namespace Ap
theorem vj(i:Nat)(σ:St)(H:Hp)(Q:VK):L2.vj i σ H Q=∃v,σ[i]?=some (some v)/\Q v H:=rfl
theorem tC(v:V)(σ:St)(H:Hp)(Q:VK):L2.tC v σ H Q=Q v H:=rfl
theorem xo(r:R2)(ta tb:TE)(σ:St)(H:Hp)(Q:VK):L2.xo r ta tb σ H Q=ta σ H λx H1=>tb σ H1 λy H2=>r x y H2 Q:=rfl
theorem GP(r:V->Hp->VK->Prop)(ta:TE)(σ:St)(H:Hp)(Q:VK):L2.GP r ta σ H Q=ta σ H λx H1=>r x H1 Q:=rfl
theorem qi(t:TE)(σ:St)(H:Hp)(Q:Bool->Hp->Prop):L2.qi t σ H Q=t σ H λx H'=>∃k,x=.bl k/\Q k H':=rfl
theorem GS(t:TT)(ta tb:TE)(σ:St)(H:Hp)(Q:VK):L2.GS t ta tb σ H Q=t σ H λc H1=>if c=true then ta σ H1 Q else tb σ H1 Q:=rfl
theorem yQ(t u:TT)(σ:St)(H:Hp)(Q:Bool->Hp->Prop):L2.yQ t u σ H Q=t σ H λc H1=>if c=true then u σ H1 Q else Q false H1:=rfl
theorem Hv(t u:TT)(σ:St)(H:Hp)(Q:Bool->Hp->Prop):L2.Hv t u σ H Q=t σ H λc H1=>if c=true then Q true H1 else u σ H1 Q:=rfl
theorem z_(t:TT)(σ:St)(H:Hp)(Q:Bool->Hp->Prop):L2.z_ t σ H Q=t σ H λc H1=>Q (!c) H1:=rfl
theorem ka(r r':R2)(ta tb tc:TE)(σ:St)(H:Hp)(Q:VK):L2.ka r r' ta tb tc σ H Q=ta σ H λx H1=>tb σ H1 λy H2=>r x y H2 λz H3=>∃k,z=.bl k/\(if k=true then tc σ H3 λw' H4=>r' y w' H4 Q else Q (.bl false) H3):=rfl
theorem tK(vs:List V)(σ:St)(H:Hp)(Q:List V->Hp->Prop):L2.tK vs σ H Q=Q vs H:=rfl
theorem oH(σ:St)(H:Hp)(Q:List V->Hp->Prop):L2.oH σ H Q=Q [] H:=rfl
theorem jt(ta:TE)(tr:TA)(σ:St)(H:Hp)(Q:List V->Hp->Prop):L2.jt ta tr σ H Q=ta σ H λx H1=>tr σ H1 λxs H2=>Q (x::xs) H2:=rfl
theorem ye(t:TA)(σ:St)(H:Hp)(Q:VK):L2.ye t σ H Q=t σ H λxs H1=>xs.length<=sizeLine/\∀p,H1 p=none->Q (.ref p) (upd H1 p (.tup xs)):=rfl
theorem Ag(t:TA)(σ:St)(H:Hp)(Q:VK):L2.Ag t σ H Q=t σ H λxs H1=>xs.length<=sizeLine/\∀p,H1 p=none->Q (.ref p) (upd H1 p (.lst xs)):=rfl
theorem lG(sp:Sp)(dvs:List V)(E:XK)(t:TA)(σ:St)(H:Hp)(Q:VK):L2.lG sp dvs E t σ H Q=t σ H λvs H1=>sp (vs++dvs) H1 Q E:=rfl
theorem Ck(r:List V->Hp->VK->Prop)(t:TA)(σ:St)(H:Hp)(Q:VK):L2.Ck r t σ H Q=t σ H λvs H1=>r vs H1 Q:=rfl
theorem DY(K:W.Frag)(T:String)(r:V->List V->Hp->VK->Prop)(to:TE)(t:TA)(σ:St)(H:Hp)(Q:VK):L2.DY K T r to t σ H Q=to σ H λx H1=>Gm K T x H1/\t σ H1 λxs H2=>r x xs H2 Q:=rfl
theorem yA(K:W.Frag)(T:String)(r:V->List V->Hp->VK->Prop)(to:TE)(σ:St)(H:Hp)(Q:VK):L2.yA K T r to σ H Q=to σ H λx H1=>Gm K T x H1/\r x [] H1 Q:=rfl
theorem GD(r:V->Option Int->Option Int->Hp->VK->Prop)(te:TE)(tl th:TO)(σ:St)(H:Hp)(Q:VK):L2.GD r te tl th σ H Q=te σ H λx H1=>tl σ H1 λl H2=>th σ H2 λu H3=>r x l u H3 Q:=rfl
theorem iD(σ:St)(H:Hp)(Q:Option Int->Hp->Prop):L2.iD σ H Q=Q none H:=rfl
theorem qj(t:TE)(σ:St)(H:Hp)(Q:Option Int->Hp->Prop):L2.qj t σ H Q=t σ H λx H1=>∃i,x=.int i/\Q (some i) H1:=rfl
theorem vQ(t u:TS)(D:Ends)(σ:St)(H:Hp):L2.vQ t u D σ H=t {D with nx:=u D} σ H:=rfl
theorem kl(te:TE)(g:TG)(D:Ends)(σ:St)(H:Hp):L2.kl te g D σ H=te σ H λx H1=>g x σ H1 D.nx:=rfl
theorem bT(i:Nat)(v:V)(σ:St)(H:Hp)(Q:St->Hp->Prop):L2.bT i v σ H Q=Q (σ.set i (some v)) H:=rfl
theorem xy(to ti:TE)(t:CK)(v:V)(σ:St)(H:Hp)(Q:St->Hp->Prop):L2.xy to ti t v σ H Q=to σ H λo H1=>ti σ H1 λi H2=>t o i v H2 λH3=>Q σ H3:=rfl
theorem vT(K:W.Frag)(n:Nat)(t:wL)(v:V)(σ:St)(H:Hp)(Q:St->Hp->Prop):L2.vT K n t v σ H Q=∃a xs,v=.ref a/\bB K H a xs/\xs.length=n/\t xs σ H Q:=rfl
theorem kA(t:TG)(u:wL)(v:V)(vs:List V)(σ:St)(H:Hp)(Q:St->Hp->Prop):L2.kA t u (v::vs) σ H Q=t v σ H λσ' H'=>u vs σ' H' Q:=by
 refine propext ⟨λhq1=>?_,λh=>⟨v,vs,rfl,h⟩⟩;obtain⟨a,b,e,h⟩:=hq1
 cases e;exact h
theorem wj(σ:St)(H:Hp)(Q:St->Hp->Prop):L2.wj [] σ H Q=Q σ H:=propext ⟨λh=>h.2,λh=>⟨rfl,h⟩⟩
theorem zS(te:TE)(D:Ends)(σ:St)(H:Hp):L2.zS te D σ H=te σ H D.rt:=rfl
theorem pP(te:TE)(D:Ends)(σ:St)(H:Hp):L2.pP te D σ H=te σ H λ_ H1=>D.nx σ H1:=rfl
theorem wo(c:TT)(t u:TS)(D:Ends)(σ:St)(H:Hp):L2.wo c t u D σ H=c σ H λb H1=>if b=true then t D σ H1 else u D σ H1:=rfl
theorem pX(D:Ends)(σ:St)(H:Hp):L2.pX D σ H=D.nx σ H:=rfl
theorem mx(ta:TA)(σ:St)(H:Hp)(R:It->Hp->Prop):L2.mx ta σ H R=ta σ H λvs H1=>∃j:Int,vs=[.int j]/\-(2^62)<=j/\j<2^62/\R (CV 0 j.toNat) H1:=rfl
theorem zx(K:W.Frag)(tl:TE)(σ:St)(H:Hp)(R:It->Hp->Prop):L2.zx K tl σ H R=tl σ H λx H1=>match x with
 |.ref a=>match sq H1 a with
  |some (true,_)=>R (wO K a) H1
  |some (false,_)=>R (uV K a) H1
  |none=>(∃xs,bB K H1 a xs)/\R (uV K a) H1
 |_=>False:=rfl
theorem qz(K:W.Frag)(ta:TA)(σ:St)(H:Hp)(R:It->Hp->Prop):L2.qz K ta σ H R=ta σ H λvs H1=>∃a,vs=[.ref a]/\(∃xs,bB K H1 a xs)/\R (Bz K a) H1:=rfl
theorem rI(C:Int->Int->Prop)(g:Int->Int->V)(i j:Int)(H:Hp)(Q:VK):L2.rI C g (.int i) (.int j) H Q=(C i j/\Q (g i j) H):=by
 refine propext ⟨λhq2=>?_,λh=>⟨i,j,rfl,rfl,h⟩⟩;obtain⟨a,b,e1,e2,h⟩:=hq2
 cases e1;cases e2;exact h
theorem wu(g:Int->Int->V)(i j:Int)(H:Hp)(Q:VK):L2.wu g (.int i) (.int j) H Q=Q (g i j) H:=by
 refine propext ⟨λhq3=>?_,λh=>⟨i,j,rfl,rfl,h⟩⟩;obtain⟨a,b,e1,e2,h⟩:=hq3
 cases e1;cases e2;exact h
theorem rU(g:Int->V)(i:Int)(H:Hp)(Q:VK):L2.rU g (.int i) H Q=Q (g i) H:=by
 refine propext ⟨λhq4=>?_,λh=>⟨i,rfl,h⟩⟩;obtain⟨a,e1,h⟩:=hq4
 cases e1;exact h
theorem Dc(K:W.Frag)(i j:Int)(H:Hp)(Q:VK):w6 K (.int i) (.int j) H Q=Q (.int (i+j)) H:=rfl
theorem Hr(K:W.Frag)(i j:Str)(H:Hp)(Q:VK):w6 K (.str i) (.str j) H Q=(i.length+j.length<=sizeLine/\Q (.str (i++j)) H):=rfl
theorem HE(i j:Int)(H:Hp)(Q:VK):DS (.int i) (.int j) H Q=(yb i j/\Q (.int (i*j)) H):=rfl
theorem Jd(i j:Int)(H:Hp)(Q:VK):Dw (.int i) (.int j) H Q=Q (.bl (decide (i=j))) H:=by
 have e:decide (V.int i=V.int j)=decide (i=j):=by rw[Oc];constructor<;>intro h<;>(try cases h)<;>(try rw[h])<;>rfl
 unfold Dw;rw[e];exact propext ⟨λh=>h.2,λh=>⟨rfl,h⟩⟩
theorem FN(i j:Str)(H:Hp)(Q:VK):Dw (.str i) (.str j) H Q=Q (.bl (decide (i=j))) H:=by
 have e:decide (V.str i=V.str j)=decide (i=j):=by rw[Oc];constructor<;>intro h<;>(try cases h)<;>(try rw[h])<;>rfl
 unfold Dw;rw[e];exact propext ⟨λh=>h.2,λh=>⟨rfl,h⟩⟩
theorem IQ(i j:Str)(H:Hp)(Q:VK):Hd (.str i) (.str j) H Q=Q (.bl (!decide (i=j))) H:=by
 have e:decide (V.str i=V.str j)=decide (i=j):=by rw[Oc];constructor<;>intro h<;>(try cases h)<;>(try rw[h])<;>rfl
 unfold Hd;rw[e];exact propext ⟨λh=>h.2,λh=>⟨rfl,h⟩⟩
theorem IE(K:W.Frag)(b:Bool)(H:Hp)(k:Bool):zU K (.bl b) H k=(k=b):=rfl
theorem J8(CX:pZ)(P:Program)(w:World)(K:W.Frag)(mg:Str->Option Value)(base:Heap)(N:List Str)(qual:Str)(scope:Scope)(f:Addr)(cd:Value)(A:Around)(outer:List Env)(s:Shared)(H:Hp)(E:XK):(dM CX P w K mg base N qual scope f cd A outer s H E).K=K:=rfl
end Ap
noncomputable def KB(ex:List Addr)(H H':Hp):Prop:=∀b o,H b=some o->b∉ex->H' b=some o
theorem KB.refl(ex:List Addr)(H:Hp):KB ex H H:=λ_ _ e _=>e
theorem KB.trans{H1 H2:Hp}(a:KB ex H H1)(b:KB ex H1 H2):KB ex H H2:=λc o e n=>b c o (a c o e n) n
theorem KB.mono{ex':List Addr}(h:KB ex H H')(s:∀b∈ex,b∈ex'):KB ex' H H':=λb o e n=>h b o e λz=>n (s b z)
theorem KB.all(h:KB [] H H'):KB ex H H':=h.mono (by simp)
theorem KB.new(h:H p=none):KB ex H (upd H p o):=λb u e _=>by rw[ao (au e h)];exact e
theorem KB.set(h:p∈ex):KB ex H (upd H p o):=λb u e n=>by rw[ao (λ(z:b=p)=>n (by rw[z];exact h))];exact e
theorem KB.free(h:KB ex H H'){b:Addr}(n:b∉ex)(e:H' b=none):H b=none:=by
 cases q:H b with
 |none=>rfl
 |some o=>rw[h b o q n] at e;cases e
theorem KB.Hs(h:KB ex H H')(n:a∉ex)(q:cf K H a xs):cf K H' a xs:=by
 rcases q with (q|⟨o,q⟩)|q
 ·exact .inl (.inl (h _ _ q n))
 ·exact .inl (.inr ⟨o,h _ _ q n⟩)
 ·exact .inr q
theorem Fq(x:α)(r:List α):cI (x::r) 0=some x:=b9 (j:=0) rfl
theorem AE(a x:α)(r:List α):cI (a::x::r) 1=some x:=b9 (j:=1) rfl
theorem IK(a b x:α)(r:List α):cI (a::b::x::r) 2=some x:=b9 (j:=2) rfl
theorem IW(a b c x:α)(r:List α):cI (a::b::c::x::r) 3=some x:=b9 (j:=3) rfl
theorem rP{n:Nat}{i:Int}(h0:0<=i)(h:i<n):lV n i=some i.toNat:=by unfold lV;rw[JQ h0,JQ h]
namespace Ap
theorem fC(K:W.Frag)(p:Addr)(i:Int)(H:Hp)(Q:VK):BP K (.ref p) (.int i) H Q=(match sq H p with
  |some (_,xs)=>(match cI xs i with|some v=>Q v H|none=>False)
  |none=>∃xs v,bB K H p xs/\cI xs i=some v/\Q v H):=rfl
theorem GZ(K:W.Frag)(z:Str)(i:Int)(H:Hp)(Q:VK):BP K (.str z) (.int i) H Q=(z.length<=sizeLine/\(match cI z.cps.toList i with|some c=>Q (.str ⟨#[c]⟩) H|none=>False)):=rfl
theorem setRef(p:Addr)(k:Int)(v:V)(H:Hp)(Q:Hp->Prop):zc (.ref p) (.int k) v H Q=(match H p with
  |some (.lst xs)=>(match lV xs.length k with|some j=>Q (upd H p (.lst (xs.set j v)))|none=>False)
  |_=>False):=rfl
theorem Aw(K:W.Frag)(p:Addr)(H:Hp)(Q:VK):zR K [.ref p] H Q=(match sq H p with
  |some (_,ys)=>Q (.int ys.length) H
  |none=>∃ys,bB K H p ys/\Q (.int ys.length) H):=rfl
theorem Er(K:W.Frag)(y:Str)(H:Hp)(Q:VK):zR K [.str y] H Q=(y.length<=sizeLine/\Q (.int y.length) H):=rfl
theorem HV(i j:Int)(H:Hp)(Q:VK):HP [.int i,.int j] H Q=Q (.int (if j<i then j else i)) H:=rfl
theorem Jj(k:Bool)(H:Hp)(Q:VK):HL [.bl k] H Q=Q (.int (if k=true then 1 else 0)) H:=rfl
theorem Jg(i:Int)(H:Hp)(Q:VK):GC [.int i] H Q=(i.natAbs.log2<1920/\Q (.str (toString i)) H):=rfl
theorem rQ(K:W.Frag)(p:Addr)(H:Hp)(Q:VK):oq K [.ref p] H Q=(match sq H p with
  |some (true,ys)=>∀l,H l=none->Q (.ref l) (upd H l (.tup ys))
  |some (false,_)=>Q (.ref p) H
  |none=>∃ys,bB K H p ys/\Q (.ref p) H):=rfl
theorem Gz(K:W.Frag)(p:Addr)(lo hi:Option Int)(H:Hp)(Q:VK):Ir K (.ref p) lo hi H Q=(match sq H p with
  |some (true,xs)=>∀q,H q=none->Q (.ref q) (upd H q (.lst (dP xs lo hi)))
  |some (false,xs)=>rH K (.ref p) lo hi H Q
  |none=>rH K (.ref p) lo hi H Q):=rfl
theorem HY(K:W.Frag)(neg:Bool)(x:V)(p:Addr)(H:Hp)(Q:VK):Gr K neg x (.ref p) H Q=(match sq H p with
  |some (_,xs)=>cK x=true/\xs.all cK=true/\Q (.bl (if neg then !qI x xs else qI x xs)) H
  |none=>∃xs,bB K H p xs/\cK x=true/\xs.all cK=true/\Q (.bl (if neg then !qI x xs else qI x xs)) H):=rfl
theorem addRef(K:W.Frag)(a b:Addr)(H:Hp)(Q:VK):w6 K (.ref a) (.ref b) H Q=(match H a,H b with
  |some (.lst xs),some (.lst ys)=>xs.length+ys.length<=sizeLine/\∀p,H p=none->Q (.ref p) (upd H p (.lst (xs++ys)))
  |some (.tup xs),some (.tup ys)=>xs≠[]/\ys≠[]/\xs.length+ys.length<=sizeLine/\∀p,H p=none->Q (.ref p) (upd H p (.tup (xs++ys)))
  |_,_=>False):=rfl
theorem ET(H:Hp)(p:Addr)(xs:List V):sq (upd H p (.lst xs)) p=some (true,xs):=aO ae
theorem A9(H:Hp)(p:Addr)(xs:List V):sq (upd H p (.tup xs)) p=some (false,xs):=aM ae
end Ap
theorem ay{t u:TS}{D:Ends}(h:∀N,N=u D->t {D with nx:=N} σ H):vQ t u D σ H:=h _ rfl
structure QE (X:Cx) (e:Expr) (t:TE):Prop where h:PE X e t
structure QT (X:Cx) (e:Expr) (t:TT):Prop where h:PT X e t
structure QW (X:Cx) (e:Expr) (t:TT):Prop where h:PW X e t
structure QA (X:Cx) (es:List Expr) (t:TA):Prop where h:PA X es t
structure QS (X:Cx) (st:Stmt) (t:TS):Prop where h:PS X st t
structure QB (X:Cx) (sts:List Stmt) (t:TS):Prop where h:qX X sts t
structure QI (X:Cx) (tg it:Expr) (t:TI):Prop where h:PI X tg it t
structure QG (X:Cx) (e:Expr) (t:TG):Prop where h:PG X e t
structure Iy (X:Cx) (es:List Expr) (t:wL):Prop where h:HX X es t
structure QO (X:Cx) (e:Option Expr) (t:TO):Prop where h:PO X e t
structure GR (X:Cx) (es:List Expr) (t:TT):Prop where h:Gg X es t
namespace Z
noncomputable def sim(b:Expr):Bool:=match b with
 |.Name .. |.Constant .. |.Call .. |.BinOp .. |.Subscript .. |.Attribute .. |.UnaryOp .. |.Compare .. |.IfExp ..=>true
 |_=>false
theorem Jn(h:sim b=true):sO b:=by
 cases b<;>first | (intro _ _;rfl)|cases h
noncomputable def Jo(b:Expr):Bool:=match b with
 |.Name .. |.Call .. |.Subscript .. |.Attribute ..=>true
 |_=>false
theorem ptr(h:Jo b=true):∀whole,isTrue b env whole=(do let v <- whole;standAt b.pos;holding [v] (truthy v)):=by
 cases b<;>first | (intro _;rfl)|cases h
noncomputable def IC(b:Expr):Bool:=match b with
 |.ListComp .. |.SetComp .. |.DictComp ..=>false
 |_=>true
theorem Js{tg:Option Expr}{l:Nat}(h:IC b=true):swapsWith b tg l env=pure false:=by
 cases b<;>first|rfl|cases h
section
variable {X:Cx}
theorem bp(K:W.Frag)(hK:X.K=K):dc X (binaryOp .Add) (w6 K):=by subst hK;exact BG
theorem HA(K:W.Frag)(hK:X.K=K)(hu:k<cLine):dc X (compareOp .In) (Gr K false):=by subst hK;exact EB hu
theorem aP(K:W.Frag)(hK:X.K=K)(hu:k<cLine):uY X (BP K):=by subst hK;exact J7 hu
theorem Ej(K:W.Frag)(hK:X.K=K):uP X (Ir K):=by subst hK;exact B3
theorem Dm(K:W.Frag)(hK:X.K=K):uP X (EX K):=by subst hK;exact oy
theorem cY(K:W.Frag)(hK:X.K=K):bK X (.builtin "len") (zR K):=by subst hK;exact vE
theorem Eo(K:W.Frag)(hK:X.K=K):bK X (.builtin "len") (λxs H Q=>∃x n,xs=[x]/\Ih K x H n/\Q (.int n) H):=by subst hK;exact i4
theorem cQ(K:W.Frag)(hK:X.K=K):bK X (.type "tuple") (oq K):=by subst hK;exact oT
theorem GW(K:W.Frag)(hK:X.K=K)(hc:X.calm=true):bK X (.builtin "sum") (λxs H Q=>∃(p:Addr) (ns:List Int),xs=[.ref p]/\cf K H p (ns.map V.int)/\Q (.int ns.sum) H):=by subst hK;exact uS hc
theorem Ai(K:W.Frag)(hK:X.K=K):wz X "str.join" (rJoin K):=by subst hK;exact AW
end
section
variable {X:Cx} {a b c e o:Expr} {es:List Expr} {ta tb tc te to:TE} {t:TA} {pos p p2:Pos} {tA tB':TT} {rest:List Expr} {x:Str}
theorem int{i:Int}:QE X (.Constant (.int i) j pos) (tC (.int i)):=⟨xP⟩
theorem bl{i:Bool}:QE X (.Constant (.bool i) j pos) (tC (.bl i)):=⟨Ds⟩
theorem aU:QE X (.Constant .none j pos) (tC .aU):=⟨zi⟩
theorem str{i:Str}:QE X (.Constant (.str i) j pos) (tC (.str i)):=⟨yV⟩
theorem v(i:Nat)(hN:autoParam (X.N[i]?=some x) ℜ0)(hv:autoParam (HN X.env.scope x) ℜ4)(hd:autoParam ((x ==("__debug__":Str))=false) ℜ1)
  (fX:autoParam ((x ==("__classdict__":Str))=false) ℜ1):QE X (.Name x pos) (vj i):=⟨pv i hN hv hd fX⟩
theorem glob{w:V}{u:Value}(hg:Gl X x)(hm:X.mg x=some u)(r:RelV w u)(hd:autoParam ((x ==("__debug__":Str))=false) ℜ1):QE X (.Name x pos) (tC w):=⟨uw hg hm r hd⟩
theorem op{o:Operator}{r:R2}(ho:dc X (binaryOp o) r)(ha:QE X a ta)(hb:QE X b tb):QE X (.BinOp a o b pos) (xo r ta tb):=⟨Hb ho ha.h hb.h⟩
theorem un{o:UnaryOp}{r:V->Hp->VK->Prop}(ho:IA X (unaryOp o) r)(ha:QE X a ta):QE X (.UnaryOp o a pos) (GP r ta):=⟨GX ho ha.h⟩
theorem cmp{o:CmpOp}{r:R2}(ho:dc X (compareOp o) r)(ha:QE X a ta)(hb:QE X b tb)(hm:autoParam (behindInMarks o b=false) ℜ0):QE X (.Compare a [o] [b] pos) (xo r ta tb):=⟨BD ho ha.h hb.h hm⟩
theorem chain{o o':CmpOp}{r r':R2}(ho:dc X (compareOp o) r)(ho':dc X (compareOp o') r')(ha:QE X a ta)(hb:QE X b tb)(hc:QE X c tc)(hm:autoParam (lastMarks [o,o'] [b,c]=false) ℜ5):QE X (.Compare a [o,o'] [b,c] pos) (ka r r' ta tb tc):=⟨zo ho ho' ha.h hb.h hc.h hm⟩
theorem A5(hc:QT X c tA)(ha:QE X a ta)(hb:QE X b tb):QE X (.IfExp c a b pos) (GS tA ta tb):=⟨yi hc.h ha.h hb.h⟩
theorem slice{r:V->Option Int->Option Int->Hp->VK->Prop}{lo hi:Option Expr}{tl th:TO}(hr:uP X r)(he:QE X e te)(hl:QO X lo tl)(hu:QO X hi th):QE X (.Subscript e (.Slice lo hi none p2) pos) (GD r te tl th):=⟨wY hr he.h hl.h hu.h⟩
theorem vZ:QO X none iD:=⟨CI⟩
theorem oN(he:QE X e te):QO X (some e) (qj te):=⟨AX he.h⟩
theorem ix{r:R2}(hr:uY X r)(ha:QE X a ta)(hb:QE X b tb)(hs:autoParam (sim b=true) ℜ0):QE X (.Subscript a b pos) (xo r ta tb):=⟨Dr hr ha.h hb.h (Jn hs)⟩
theorem tup(h:QA X es t):QE X (.Tuple es k pos) (ye t):=⟨Fg h.h⟩
theorem lst(h:QA X es t):QE X (.List es pos) (Ag t):=⟨Ef h.h⟩
theorem nil:QA X [] oH:=⟨Al⟩
theorem cons(ha:QE X e te)(hr:QA X es t)(h:autoParam (gc e=true) ℜ0):QA X (e::es) (jt te t):=⟨Jf ha.h hr.h h⟩
theorem consts{vs:List V}(h:tR es=some vs):QA X es (tK vs):=⟨mS h⟩
theorem cb{id:String}(hc:bK X (.builtin id) r)(hg:Gl X x)(hm:X.mg x=none)(hv:bootBuiltins x=some (.builtin id))(ha:QA X (e::es) t)(h1:autoParam (gc e=true) ℜ0)(h2:autoParam (es.all gc=true) ℜ0)(hn:autoParam (x≠"__name__") ℜ1)(hdb:autoParam ((x ==("__debug__":Str))=false) ℜ1):
  QE X (.Call (.Name x p) (e::es) [] pos) (Ck r t):=⟨Hh hc hg hm hv ha.h h1 h2 hn hdb⟩
theorem ct{T:String}(hc:bK X (.type T) r)(hg:Gl X x)(hm:X.mg x=none)(hv:bootBuiltins x=some (.type T))(ha:QA X (e::es) t)(h1:autoParam (gc e=true) ℜ0)(h2:autoParam (es.all gc=true) ℜ0)(hn:autoParam (x≠"__name__") ℜ1)(hdb:autoParam ((x ==("__debug__":Str))=false) ℜ1):
  QE X (.Call (.Name x p) (e::es) [] pos) (Ck r t):=⟨Ic hc hg hm hv ha.h h1 h2 hn hdb⟩
theorem fn{CX:pZ}{ps:List Str}{E:XK}(F:ax X.prog X.w X.K X.mg X.base CX k x ps sp)(hr:bP k X.A)(hg:Gl X x)(hx:Passes CX X E)(ha:QA X (e::es) t)(h1:autoParam (gc e=true) ℜ0)(h2:autoParam (es.all gc=true) ℜ0)(hdb:autoParam ((x ==("__debug__":Str))=false) ℜ1):
  QE X (.Call (.Name x p) (e::es) [] pos) (lG sp [] E t):=⟨Hy F hr hg hx ha.h h1 h2 hdb⟩
theorem bm(K:W.Frag)(hK:X.K=K){name:Str}{apos:Pos}{T id:String}{r:V->List V->Hp->VK->Prop}(pa:PlainAttrs T)(slot:Slot T name id)(hty:typeOf (.builtin id)=pure (.type "method_descriptor"))(hm:wz X id r)(ho:QE X o to)(ha:QA X (e::es) t)
  (hbase:autoParam (attributeBase o name X.env (eval o X.env)=eval o X.env) ℜ0) (hline:autoParam ((apos.endLine == pos.line)=true) ℜ0) (h:autoParam ((e::es).all gc=true) ℜ0) (hl:autoParam ((e::es).length<30) ℜ1):QE X (.Call (.Attribute o name apos) (e::es) [] pos) (DY K T r to t):=by
 subst hK;exact⟨En pa slot hty hm ho.h ha.h hbase hline h hl⟩
theorem comp{wi:TI}{tc:TT}(S:aQ osc ON scope own N)(hosc:X.env.scope=osc)(hON:X.N=ON)(hc:X.calm=true)(hi:QI X tg iter wi)
  (hg:∀C s H fp,QG (aX X scope N C s H fp) tg g) (ht:∀C s H fp,GR (aX X scope N C s H fp) ifs tc) (he:∀C s H fp,QE (aX X scope N C s H fp) elt te) (hs:autoParam (∀x,foldedSetIterable iter X.env x=pure x) ℜ3) :
  QE X (.ListComp elt [⟨tg,iter,ifs,0⟩] scope pos) (i3 wi own.length g tc te):=⟨C4 S hosc hON hc hi.h (λC s H fp=>(hg C s H fp).h) (λC s H fp=>(ht C s H fp).h) (λC s H fp=>(he C s H fp).h) hs⟩
theorem aZ{o:CmpOp}{r:R2}(ho:dc X (compareOp o) r)(ha:QE X a ta)(hb:QE X b tb)(hm:autoParam (behindInMarks o b=false) ℜ0):QT X (.Compare a [o] [b] pos) (qi (xo r ta tb)):=⟨Bd ho ha.h hb.h hm⟩
theorem tw(h:QW X e tA):QT X e tA:=⟨h.h.pt⟩
theorem Bh(ha:QT X a tA):QT X (.UnaryOp .Not a pos) (z_ tA):=⟨ES ha.h⟩
noncomputable def B6(K:W.Frag)(ta:TE):TT:=λσ H Q=>ta σ H λx H'=>∃k,zU K x H' k/\Q k H'
theorem wg(K:W.Frag)(hK:X.K=K)(ha:QE X a ta)(he:autoParam (Jo a=true) ℜ0):QT X a (B6 K ta):=by subst hK;exact⟨yd ha.h (ptr he)⟩
theorem j0(ha:QT X a tA):QW X (.BoolOp .And [a] pos) tA:=⟨BM ha.h⟩
theorem zB(ha:QT X a tA):QW X (.BoolOp .Or [a] pos) tA:=⟨EU ha.h⟩
theorem p8(ha:QT X a tA)(hb:QW X (.BoolOp .And (b::rest) pos) tB'):QW X (.BoolOp .And (a::b::rest) pos) (yQ tA tB'):=⟨Eb ha.h hb.h⟩
theorem Ij(ha:QT X a tA)(hb:QW X (.BoolOp .Or (b::rest) pos) tB'):QW X (.BoolOp .Or (a::b::rest) pos) (Hv tA tB'):=⟨GJ ha.h hb.h⟩
theorem bu(hN:X.N.Nodup)(hi:X.N[i]?=some x)(hx:Loc X.env.scope x)(hf:autoParam (X.fn x=true\/X.env.scope.names.lookup x=some .local) ℜ2):QG X (.Name x pos) (bT i):=⟨Cq hN hi hx hf⟩
theorem q5(K:W.Frag)(hK:X.K=K){n:Nat}{tg:wL}(hc:X.calm=true)(h:Iy X es tg)(hn:autoParam ((assignEach es X.env).length=n) ℜ0)(hst:autoParam ((assignEach es X.env).findIdx? (·.1)=none) ℜ0):QG X (.Tuple es k pos) (vT K n tg):=by subst hK;exact⟨Fj hc h.h hn hst⟩
theorem j3:Iy X [] wj:=⟨AQ⟩
theorem b_{u:wL}(h1:QG X e g)(h2:Iy X es u)(hs:autoParam ((assignEach (e::es) X.env).map (·.2)=assign e X.env::(assignEach es X.env).map (·.2)) ℜ0):Iy X (e::es) (kA g u):=⟨xQ h1.h h2.h hs⟩
theorem rR{i:Expr}{ti:TE}(ho:QE X o to)(hi:QE X i ti)
  (ha:autoParam (∀v,assign (.Subscript o i pos) X.env v=(do
   let ov <- holding [v] (eval o X.env)
   let iv <- holding [v,ov] (eval i X.env)
   standAt pos
   holding [v,ov,iv] (setItem ov iv v)
   release [v,ov,iv] [])) ℜ3):QG X (.Subscript o i pos) (xy to ti zc):=⟨EV ho.h hi.h uset ha⟩
theorem Aj{ta:TA}(hg:Gl X "range")(hm:X.mg "range"=none)(ha:QA X [a] ta)(h:autoParam (gc a=true) ℜ0):QI X tg (.Call (.Name "range" p) [a] [] pos) (mx ta):=⟨rN hg hm ha.h h⟩
theorem enum(K:W.Frag)(hK:X.K=K){tp:Pos}{ta:TA}(hg:Gl X "enumerate")(hm:X.mg "enumerate"=none)(ha:QA X [e] ta)(h1:autoParam (gc e=true) ℜ0):QI X (.Tuple es k tp) (.Call (.Name "enumerate" p) [e] [] pos) (qz K ta):=by subst hK;exact⟨Bb hg hm ha.h h1⟩
theorem any(K:W.Frag)(hK:X.K=K){l:Expr}{tl:TE}(hl:QE X l tl):QI X tg l (zx K tl):=by subst hK;exact⟨FO hl.h⟩
theorem vy:GR X [] jx:=⟨AV⟩
end
section
variable {X:Cx} {e o tg:Expr} {te to:TE} {st:Stmt} {sts xs ys:List Stmt} {t u:TS} {pos pos':Pos} {x:Str}
theorem bN:QB X [] pX:=⟨BJ⟩
theorem aA(h:QS X st t):QB X [st] t:=⟨C2 h.h⟩
theorem aq(h:QS X st t)(h2:QB X sts u):QB X (st::sts) (vQ t u):=⟨yj h.h h2.h⟩
theorem set(hN:X.N.Nodup)(hi:X.N[i]?=some x)(hx:Loc X.env.scope x)(he:QE X e te)(hs:autoParam (IC e=true) ℜ0)(hf:autoParam (X.fn x=true\/X.env.scope.names.lookup x=some .local) ℜ2):
  QS X (.Assign [.Name x pos'] e pos) (kl te (bT i)):=⟨FP hN hi hx he.h (Js hs) hf⟩
theorem setC{p2:Pos}{wi:TI}(hN:X.N.Nodup)(hj:X.N[j]?=some x)(hx:Loc X.env.scope x)(S:aQ osc ON scope own N)(hosc:X.env.scope=osc)(hON:X.N=ON)(hc:X.calm=true)(hi:QI X tg iter wi)
  (hg:∀C s H fp,QG (aX X scope N C s H fp) tg g) (ht:∀C s H fp,GR (aX X scope N C s H fp) ifs tc) (he:∀C s H fp,QE (aX X scope N C s H fp) elt te)
  (hsw:autoParam (swapsWith (.ListComp elt [⟨tg,iter,ifs,0⟩] scope p2) (some (.Name x pos')) pos.line X.env=pure true) ℜ0)
  (hf:autoParam (X.fn x=true\/X.env.scope.names.lookup x=some .local) ℜ2) (hs:autoParam (∀x,foldedSetIterable iter X.env x=pure x) ℜ3) :
  QS X (.Assign [.Name x pos'] (.ListComp elt [⟨tg,iter,ifs,0⟩] scope p2) pos) (kl (i3 wi own.length g tc te) (bT j)):=⟨rE hN hj hx S hosc hON hc hi.h (λC s H fp=>(hg C s H fp).h) (λC s H fp=>(ht C s H fp).h) (λC s H fp=>(he C s H fp).h) hsw hf hs⟩
theorem asg(he:QE X e te)(hg:QG X tg g)(hs:autoParam (swapsWithSole [tg] e pos.line X.env=pure false) ℜ0)(hw:autoParam (swappedStores [tg] e X.env=pure none) ℜ0)
  (h1:autoParam ((assignEach [tg] X.env).map (·.2)=[assign tg X.env]) ℜ0):QS X (.Assign [tg] e pos) (kl te g):=⟨Ga he.h hg.h hs hw h1⟩
theorem ret(he:QE X e te):QS X (.Return (some e) pos) (zS te):=⟨FT he.h⟩
theorem expr(he:QE X e te)(hs:autoParam (IC e=true) ℜ0):QS X (.Expr e pos) (pP te):=⟨B_ he.h (Js hs)⟩
theorem dJ{c:Expr}(hc:QT X c tc)(ha:QB X xs t)(hb:QB X ys u):QS X (.If c xs ys pos) (wo tc t u):=⟨GU hc.h ha.h hb.h⟩
theorem iW{wi:TI}(hp:PassesOwn (model X.prog X.w) X.A X.env X.xe)(hc:X.calm=true)(hi:QI X tg iter wi)(hg:QG X tg g)(hb:QB X xs t)(hs:autoParam (∀x,foldedSetIterable iter X.env x=pure x) ℜ3):QS X (.For tg iter xs [] pos) (EN wi g t):=⟨Fu hp hc hi.h hg.h hb.h hs⟩
theorem nr{c:Expr}(hp:PassesOwn (model X.prog X.w) X.A X.env X.xe)(hc:QT X c tc)(hb:QB X xs t):QS X (.While c xs [] pos) (y9 tc t):=⟨xg hp hc.h hb.h⟩
end
end Z
namespace Ap
theorem B6(K:W.Frag)(ta:TE)(σ:St)(H:Hp)(Q:Bool->Hp->Prop):L2.Z.B6 K ta σ H Q=ta σ H λx H'=>∃k,zU K x H' k/\Q k H':=rfl
end Ap
theorem HasFn.fR{ps:List Str}(F:HasFn K mg x st ps)(S:az N ps (af st))(len:∀vs H Q E,sp vs H Q E->vs.length=ps.length)
  (hbody:∀(f:Addr) (cdv:Value) (A:Around) (outer:List Env) (s:Shared) (H:Hp) (vs:List V) (Q:VK) (E:XK),bP k (A.deeper (envOfC x (af st) s.heap.objs.size f cdv))->sp vs H Q E ->
   ∃t,QB (dM aT P w K mg base N x (af st) f cdv A outer s H E).lW (aI st) t/\t {nx:=λ_ H'=>Q .aU H',rt:=Q} (start N vs) H):ax P w K mg base aT (k+1) x ps sp:=
 F.ok S len λf cdv A outer s H vs Q E hr h=>let ⟨t,q,r⟩:=hbody f cdv A outer s H vs Q E hr h;⟨t,q.h,r⟩
theorem BB{ps:List Str}(F:gX K x x st f fd)(S:az N ps (af st))(len:∀vs H Q E,sp vs H Q E->vs.length=ps.length)
  (hbody:∀(cdv:Value) (A:Around) (outer:List Env) (s:Shared) (H:Hp) (vs:List V) (Q:VK) (E:XK),bP k (A.deeper (envOfC x (af st) s.heap.objs.size f cdv))->sp vs H Q E ->
   ∃t,QB (dM aT P w K mg base N x (af st) f cdv A outer s H E).lW (aI st) t/\t {nx:=λ_ H'=>Q .aU H',rt:=Q} (start N vs) H):cg P w K mg base aT (k+1) f fd ps sp:=
 F.ok S len λcdv A outer s H vs Q E hr h=>let ⟨t,q,r⟩:=hbody cdv A outer s H vs Q E hr h;⟨t,q.h,r⟩
noncomputable def Jw(e:Addr)(cls:Value)(d:Option Addr)(h:Heap):Prop:=∃o vs,h.get? e=some o/\o.cls=cls/\o.dict=d/\o.data=.fields vs
noncomputable def IY(c:Addr)(n:Nat)(h:Heap):Prop:=∃(its:List Value) (m:Nat),h.get? c=some {cls:=.type "list",data:=.seq its.toArray m}/\its.length=n/\∀v∈its,∃(i:Int) (t:Tok),v=.int i t/\0<=i
inductive T where
 |il (n:Nat)|aU|bl (b:Bool)|int (i:Int)|str (x:Str)|tup (ts:List T)|lst (ts:List T)|Jx (ts:List T)|my (lo hi:Int)|Jy (ts:List T)|Ju (ks:List Key) (ts:List T)|exc (c:Value) (f:Option (Str×Int))|adr (a:Addr)|ins (a c:Addr) (ks:List Str) (ts:List T)
variable{t u:T}{ts ys:List T}
abbrev lX:=Addr->Prop
noncomputable def Ha(K:W.Frag)(a:Addr)(xs:List V):Prop:=∃(o:Obj) (its:Array Value) (n:Nat),K.lookup a=some o/\o.cls=.type "tuple"/\o.data=.seq its n/\its.size<=sizeLine/\Vals xs its.toList
noncomputable def J9(K:W.Frag)(a:Addr)(xs:List V):Prop:=∃(o:Obj) (its:Array Value) (n:Nat),K.lookup a=some o/\o.cls=.type "list"/\o.dict=none/\o.data=.seq its n/\its.size<=sizeLine/\Vals xs its.toList
noncomputable def LB(K:W.Frag)(H:Hp)(B:lX)(a:Addr)(xs:List V):Prop:=(¬ B a/\Rd H a (.lst xs))\/J9 K a xs
mutual
inductive Rep (K:W.Frag) (H:Hp) (B:lX):V->T->Prop
 |aU:Rep K H B .aU .aU
 |bl (b:Bool):Rep K H B (.bl b) (.bl b)
 |int (i:Int):Rep K H B (.int i) (.int i)
 |str (x:Str):Rep K H B (.str x) (.str x)
 |tup {a:Addr} {vs:List V} {ts:List T} (n:¬ B a) (h:H a=some (.tup vs)) (r:dn K H B vs ts):Rep K H B (.ref a) (.tup ts)
 |Jy {a:Addr} {vs:List V} {ts:List T} (h:Ha K a vs) (r:dn K H B vs ts):Rep K H B (.ref a) (.Jy ts)
 |lst {a:Addr} {vs:List V} {ts:List T} (n:¬ B a) (h:H a=some (.lst vs)) (r:dn K H B vs ts):Rep K H B (.ref a) (.lst ts)
 |Jx {a:Addr} {vs:List V} {ts:List T} (h:LB K H B a vs) (r:dn K H B vs ts):Rep K H B (.ref a) (.Jx ts)
 |my {a:Addr} {lo hi:Int} (n:¬ B a) (h:H a=some (.my lo hi)):Rep K H B (.ref a) (.my lo hi)
 |Ju {a:Addr} {ks:List Key} {vs:List V} {ts:List T} (n:¬ B a) (h:Rd H a (.dK (ks.zip vs))) (l:ks.length=vs.length) (r:dn K H B vs ts):Rep K H B (.ref a) (.Ju ks ts)
 |exc {a:Addr} {c:Value} (n:¬ B a) (h:H a=some (.ext (Jw a c none))):Rep K H B (.ref a) (.exc c none)
 |JH {a d:Addr} {c:Value} {x:Str} {i:Int} (n:¬ B a) (h:H a=some (.ext (Jw a c (some d)))) (m:¬ B d) (g:H d=some (.xd [(x,.int i)])):Rep K H B (.ref a) (.exc c (some (x,i)))
 |il {a:Addr} {n:Nat} (m:¬ B a) (h:H a=some (.ext (IY a n))):Rep K H B (.ref a) (.il n)
 |adr (a:Addr):Rep K H B (.ref a) (.adr a)
 |ins {a dx c:Addr} {ks:List Str} {vs:List V} {ts:List T} (n:¬ B a) (h:H a=some (.ins c dx (ks.zip vs))) (l:ks.length=vs.length) (r:dn K H B vs ts):Rep K H B (.ref a) (.ins a c ks ts)
inductive dn (K:W.Frag) (H:Hp) (B:lX):List V->List T->Prop
 |nil:dn K H B [] []
 |cons {v:V} {t:T} {vs:List V} {ts:List T} (h:Rep K H B v t) (r:dn K H B vs ts):dn K H B (v::vs) (t::ts)
end
section
variable {K:W.Frag} {H:Hp} {B:lX} {v:V}
theorem dn.Jh{vs:List V}(h:dn K H B vs []):vs=[]:=by cases h;rfl
theorem dn.Dj{vs:List V}(h:dn K H B vs (t::ts)):∃v ws,vs=v::ws/\Rep K H B v t/\dn K H B ws ts:=by cases h with|cons h r=>exact⟨_,_,rfl,h,r⟩
end
theorem Paired.wC{β:Type}{P:α->β->Prop}{ys:List β}(h:Paired P [] ys):ys=[]:=by cases h;rfl
theorem Paired.j6{β:Type}{P:α->β->Prop}{x:α}{xs:List α}{ys:List β}(h:Paired P (x::xs) ys):∃y zs,ys=y::zs/\P x y/\Paired P xs zs:=by cases h with|cons h r=>exact⟨_,_,rfl,h,r⟩
section
variable {K:W.Frag} {H H':Hp} {B B':lX}
theorem dn.length{vs:List V}(r:dn K H B vs ts):vs.length=ts.length:=by
 induction ts generalizing vs with
 |nil=>obtain rfl:=r.Jh;rfl
 |cons t ts ih=>obtain⟨v,ws,rfl,_,r⟩:=r.Dj;exact K7 (·+1) (ih r)
theorem dn.get{vs:List V}{i:Nat}(r:dn K H B vs ts)(e:ts[i]?=some t):∃v,vs[i]?=some v/\Rep K H B v t:=by
 induction ts generalizing vs i with
 |nil=>cases e
 |cons u ts ih =>
  obtain⟨v,ws,rfl,h,r⟩:=r.Dj
  cases i with
  |zero=>cases e;exact⟨_,rfl,h⟩
  |succ i=>exact ih (vs:=ws) (i:=i) r e
end
noncomputable def m7:T->Bool
 |.aU|.bl _|.int _|.str _=>true
 |_=>false
inductive Sl where
 |un|tr (t:T)|bx (c:T)|pb (c:T)
abbrev Mu:=List Sl
inductive R where
 |tr (t:T)|br (i:Nat)|fr (c:T)
structure Fx where
 K:W.Frag
 H0:Hp
 P:Nat->Option Addr
 Bc:lX
 bh:∀b,Bc b->∃o,H0 b=some o
 G:Addr->Option HO
noncomputable def more(B:lX)(a:Addr):lX:=λb=>b=a\/B b
abbrev UE:=Mu->(R->Mu->Prop)->Prop
abbrev UT:=Mu->(Bool->Mu->Prop)->Prop
abbrev UA:=Mu->(List R->Mu->Prop)->Prop
structure Ed where
 nx:Mu->Prop
 rt:R->Mu->Prop
 bk:Mu->Prop:=λ_=>False
 ct:Mu->Prop:=λ_=>False
abbrev US:=Ed->Mu->Prop
namespace Y
noncomputable def CW(K:W.Frag):R2:=λx y H Q=>∃a b xs ys,x=.ref a/\y=.ref b/\bB K H a xs/\bB K H b ys/\xs.length+ys.length<=sizeLine /\
 (xs=[]->Q (.ref b) H)/\(xs≠[]->ys=[]->Q (.ref a) H)/\(xs≠[]->ys≠[]->∀p,H p=none->Q (.ref p) (upd H p (.tup (xs++ys))))
theorem zI{A:Around}{s:Shared}{t b:Addr}{ws:List Value}(ht:IsTup s.heap t ([]:List Value).toArray)(hb:IsTup s.heap b ws.toArray)(h0:Q (.ref b) s):wpAny (model prog w) A (binaryOp .Add (.ref t) (.ref b)) Q E s:=by
 obtain⟨⟨cls,dd,data,sl⟩,ho,hc,n,hd⟩:=id ht;obtain⟨⟨cls2,dd2,data2,sl2⟩,ho2,hc2,n2,hd2⟩:=id hb;simp only at hc hd hc2 hd2;subst hc hd hc2 hd2;exact concat_meets ⟨_,ho,rfl⟩ ⟨_,ho2,rfl⟩ noFill_tuple_add seq_tuple_add PySem.F.slot_tuple_add PySem.F.entry_tuple_add (PySem.F.args_tuple_add_2 _ _)
   (tuple_addW0 t b _ ws.toArray n n2 dd dd2 sl sl2 (by simp)) ⟨ho,ho2,h0⟩
theorem AM:dc X (binaryOp .Add) (CW X.K):=by
 intro pins s σ H x y v u Q I rx ry h;obtain⟨a,b,xs,ys,rfl,rfl,ha,hb,hz,q0,q1,q2⟩:=h;by_cases hx:xs=[]
 ·subst hx
  cases rx;cases ry
  obtain⟨its,r1,p1,_⟩:=I.tuple ha;obtain⟨its2,r2,p2,_⟩:=I.tuple hb;obtain rfl:=Paired.wC r1;exact zI p1 p2 ⟨.ref b,H,I,rfl,q0 rfl⟩
 ·exact uR pins s σ H _ _ v u Q I rx ry ⟨a,b,xs,ys,rfl,rfl,ha,hb,hx,hz,q1 hx,q2 hx⟩
noncomputable def yR(K:W.Frag):R2:=λx y H Q=>(∃i j,x=.int i/\y=.int j/\Q (.int (i+j)) H)\/(∃i j,x=.str i/\y=.str j/\i.length+j.length<=sizeLine/\Q (.str (i++j)) H)\/HJ x y H Q\/CW K x y H Q
theorem cF(K:W.Frag)(hK:X.K=K):dc X (binaryOp .Add) (yR K):=by subst hK;exact yf.or (lB.or (zu.or AM))
noncomputable def DN:T->T->Bool
 |.aU,.aU=>true
 |.bl a,.bl b=>a == b
 |.bl a,.int b=>(if a then 1 else 0) == b
 |.int a,.bl b=>a ==(if b then 1 else 0)
 |.int a,.int b=>a == b
 |.str a,.str b=>a == b
 |_,_=>false
theorem HG{B:lX}{x y:V}(h1:Rep K H B x t)(h2:Rep K H B y u)(f1:m7 t=true)(f2:m7 u=true):cK x=true/\cK y=true/\wI x y=DN t u:=by
 cases h1<;>first | (cases f1;done) | (cases h2<;>first | (cases f2;done)|exact⟨rfl,rfl,rfl⟩)
noncomputable def Cz(K:W.Frag)(neg:Bool):R2:=λx y H Q=>∃a b xs ys,x=.ref a/\y=.ref b/\((cf K H a xs/\cf K H b ys)\/(bB K H a xs/\bB K H b ys))/\xs.all cK=true/\ys.all cK=true /\
 ∀c,c=(xs.length == ys.length && (List.range (min xs.length ys.length)).all λj=>match xs[j]?,ys[j]? with|some x,some y=>wI x y|_,_=>true)->Q (.bl (if neg then !c else c)) H
theorem Ge(hu:X.A.units<cLine):dc X (compareOp .Eq) (Cz X.K false):=by
 intro pins s σ H x y v u Q I rx ry h;obtain⟨a,b,xs,ys,rfl,rfl,hq,fx,fy,q⟩:=h
 cases rx;cases ry
 have item:∀(its its2:List Value),Vals xs its->Vals ys its2->∀j (h1:j<its.toArray.size) (h2:j<its2.toArray.size),SeqAt.EqAt X.A.in1 s its.toArray[j] its2.toArray[j] (match xs[j]?,ys[j]? with|some x,some y=>wI x y|_,_=>true):=λits its2 r1 r2 j h1 h2=>by
  have l1:=r1.length;have l2:=r2.length;rw[JP] at h1 h2;obtain⟨u1,e1,g1⟩:=r1.get (i:=j) (x:=xs[j]) (JI (by lia))
  obtain⟨u2,e2,g2⟩:=r2.get (i:=j) (x:=ys[j]) (JI (by lia))
  rw[JI (show j<xs.length by lia),JI (show j<ys.length by lia)]
  have z1:its.toArray[j]=u1:=by
   rw[JI h1] at e1;simpa using e1
  have z2:its2.toArray[j]=u2:=by
   rw[JI h2] at e2;simpa using e2
  rw[z1,z2];exact nV g1 g2 (Lv.mp fx _ (Kf _)) (Lv.mp fy _ (Kf _))
 rcases hq with ⟨ha,hb⟩|⟨ha,hb⟩
 ·obtain⟨its,r1,p1,_⟩:=I.list ha;obtain⟨its2,r2,p2,_⟩:=I.list hb;have l1:=r1.length;have l2:=r2.length;by_cases e:xs.length=ys.length
  ·refine SeqAt.eq_listAt p1.isList p2.isList (by rw[JP,JP];lia) hu (item its its2 r1 r2) ⟨.bl _,H,I,rfl,q _ ?_⟩
   rw[JP,<- l1,<- e,LD,KY,OL]
  ·refine Oj p1.isList p2.isList (by rw[JP,JP,NR];lia) hu ⟨.bl _,H,I,rfl,q _ ?_⟩
   rw[Kv.mpr e,N1]
 ·obtain⟨its,r1,p1,_⟩:=I.tuple ha;obtain⟨its2,r2,p2,_⟩:=I.tuple hb;have l1:=r1.length;have l2:=r2.length;refine SeqAt.eq_tupleAt p1 p2 hu (item its its2 r1 r2) ⟨.bl _,H,I,rfl,q _ ?_⟩;rw[JP,JP,<- l1,<- l2,Bool.and_comm];rfl
noncomputable def Gs(K:W.Frag):R2:=λx y H Q=>Dw x y H Q\/Cz K false x y H Q
theorem EI(K:W.Frag)(hK:X.K=K)(hu:X.A.units<cLine):dc X (compareOp .Eq) (Gs K):=by subst hK;exact DH.or (Ge hu)
theorem hV{lo:Int}:∀(n:Nat) (acc:List Value) (k:Nat),acc.length=n->(∀j v,acc[j]?=some v->∃t,v=Value.int (lo+((k+j:Nat):Int)) t)->Vals ((List.range' k n).map λk=>V.int (lo+(k:Nat))) acc
 |0,acc,k,h,_=>by cases acc with|nil=>exact .nil|cons a b=>cases h
 |n+1,[],k,h,_=>by cases h
 |n+1,a::acc,k,h,g=>by
  rw[Lw,Ku];refine .cons ?_ (hV n acc (k+1) (by simpa using h) λj v e=>?_)
  ·obtain⟨t,e⟩:=g 0 a rfl;exact⟨t,by simpa using e⟩
  ·obtain⟨t,e2⟩:=g (j+1) v (by simpa using e)
   exact⟨t,by rw[e2];congr 2;lia⟩
noncomputable def CA:List V->Hp->VK->Prop:=λxs H Q=>(∃j,xs=[.int j]/\∀p,H p=none->Q (.ref p) (upd H p (.my 0 j)))\/(∃i j,xs=[.int i,.int j]/\∀p,H p=none->Q (.ref p) (upd H p (.my i j)))
theorem pW:bK X (.type "range") CA:=by
 intro pins s σ H xs us Q I r h;rcases h with ⟨j,rfl,q⟩|⟨i,j,rfl,q⟩
 ·obtain⟨u,rfl,t,rfl⟩:=vals1 r;refine call_range_1 ?_;exact⟨.ref s.heap.objs.size,_,I.laid (o:=.my 0 j) (λb ob q=>JM _ q) (JS _) (show bS X.prog X.w _ _ _ (.my 0 j) from⟨_,_,_,Kc _ rfl⟩),rfl,q _ (I.bc.fresh (JS _))⟩
 ·obtain⟨u,w',rfl,⟨t,rfl⟩,⟨t',rfl⟩⟩:=vals2 r;refine call_range_2 ?_;exact⟨.ref s.heap.objs.size,_,I.laid (o:=.my i j) (λb ob q=>JM _ q) (JS _) (show bS X.prog X.w _ _ _ (.my i j) from⟨_,_,_,Kc _ rfl⟩),rfl,q _ (I.bc.fresh (JS _))⟩
section
variable {X:Cx} {a b c e o:Expr} {es rest:List Expr} {ua ub uc ue uo:UE} {uA uB:UT} {us:UA} {pos p p2 p3:Pos} {x:Str}
noncomputable def yO(xs:List α)(lo hi:Option Int):List α:=(xs.drop (HT.bW xs.length 0 lo)).take (HT.bW xs.length xs.length hi-HT.bW xs.length 0 lo)
noncomputable def Hx(K:W.Frag):V->Option Int->Option Int->Hp->VK->Prop:=λx lo hi H Q=>∃a xs,x=.ref a/\bB K H a xs/\HT.bW xs.length 0 lo=0/\HT.bW xs.length xs.length hi=xs.length/\Q (.ref a) H
theorem i8{A:Around}{s:Shared}{t sl:Addr}{vl vu:Value}{lo hi:Option Int}(ht:IsTup s.heap t items)(hs:s.heap.IsSliceOf sl vl vu .none)(pl:IsPart vl lo)(pu:IsPart vu hi)
  (h1:HT.bW items.size 0 lo=0) (h2:HT.bW items.size items.size hi=items.size) (h:Q (.ref t) s):wpAny (model prog w) A (getItem (.ref t) (.ref sl)) Q E s:=by
 obtain⟨os,hos,hcs,uC⟩:=id hs;have hTs:s.TypeIs (.ref sl) "slice":=⟨os,hos,hcs⟩;unfold getItem
 try with_reducible refine Lb ?_
 first|refine JJ (JV ?_)|skip
 refine JJ (wpAny_sequenceKey ht.typeIs (by decide) ?_)
 refine JJ (KJ (name:=Str.ofString "__getitem__") ht.typeIs L1
  (KZ L1 ht.typeIs entry_tuple_getitem ?_ (args_tuple_getitem _ _)))
 show wpAny _ _ (Builtin.Tuple.tupleItemsOf (.ref t) >>= _) _ _ s;refine JJ (tupleItemsOf_ ht ?_);refine JJ (Nk hTs ?_);rw[JQ (by decide)]
 refine JJ (HT.fu hs pl pu ?_);show wpAny _ _ (if (((HT.bW items.size 0 lo:Nat):Int) == 0 && (1:Int) == 1 && (HT.bW items.size items.size hi-HT.bW items.size 0 lo) == items.size)=true then _ else _) _ _ s
 rw[JQ (by rw[h1,h2];simp)]
 unfold Builtin.Tuple.tupleIsExact;refine JJ ?_;refine JJ (Nk ht.typeIs (JV ?_));rw[JQ (by decide)]
 exact JJ (NQ (JV ⟨_,rfl,JV h⟩))
theorem Ft:uP X (Hx X.K):=by
 intro pins s σ H x v vl vu lo hi sl Q I rx hs pl pu h;obtain⟨a,xs,rfl,hx,h1,h2,q⟩:=h;cases rx;obtain⟨its,r,ht,hz⟩:=I.tuple hx;have hlen:its.toArray.size=xs.length:=by rw[JP];exact r.length.symm
 exact⟨"tuple",_,L1.lookup,ht.typeIs,i8 ht hs pl pu (by rw[hlen];exact h1) (by rw[hlen];exact h2) ⟨.ref a,H,I,rfl,q⟩⟩
noncomputable def yz(K:W.Frag):V->Option Int->Option Int->Hp->VK->Prop:=λx lo hi H Q=>EX K x lo hi H Q\/rH K x lo hi H Q\/Hx K x lo hi H Q
theorem vP(K:W.Frag)(hK:X.K=K):uP X (yz K):=by subst hK;exact oy.or (rG.or Ft)
end
end Y
abbrev UI:=Mu->(List T->Option (Nat×List T)->Mu->Prop)->Prop
noncomputable def yu(K:W.Frag)(tl:TE):TI:=λσ H R=>tl σ H λx H1=>∃a,x=V.ref a/\(((∃xs,cf K H1 a xs)/\R (wO K a) H1)\/((∃xs,bB K H1 a xs)/\R (uV K a) H1))
theorem FG{l:Expr}{tl:TE}(hl:PE X l tl):PI X tg l (yu X.K tl):=by
 intro pins s σ H R I h;refine cz (hl pins s σ H _ I h) λv s1 hq2=>?_;obtain⟨x,H1,I1,r1,q1⟩:=hq2;obtain⟨a,rfl,q⟩:=q1;cases r1;rcases q with ⟨⟨xs,hq⟩,q⟩|⟨⟨xs,hq⟩,q⟩
 ·obtain⟨its,rv,p,hz⟩:=I1.list hq;refine MR p.isList ?_;refine⟨s1.heap.objs.size,[s1.heap.objs.size],_,_,H1,rfl,I1.kept (t':=s1.toks) λb o e=>JM _ e,mB a _,⟨_,Kc _ rfl,rfl,rfl⟩,λb hb=>?_,q⟩;have e:b=s1.heap.objs.size:=by simpa using hb
  subst e;exact I1.oP (JS _) (I1.bc.fresh (JS _))
 ·obtain⟨its,rv,p,hz⟩:=I1.tuple hq;refine Mc (show s1.heap.IsTuple a its.toArray from p) ?_;refine⟨s1.heap.objs.size,[s1.heap.objs.size],_,_,H1,rfl,I1.kept (t':=s1.toks) λb o e=>JM _ e,kT a _,⟨_,Kc _ rfl,rfl,rfl⟩,λb hb=>?_,q⟩;have e:b=s1.heap.objs.size:=by simpa using hb
  subst e;exact I1.oP (JS _) (I1.bc.fresh (JS _))
namespace Y
theorem oo{α:Type _}{l:List α}(h:l.length=1):∃y,l=[y]:=by
 rcases l with _|⟨a,_|⟨b,t⟩⟩
 ·cases h
 ·exact⟨a,rfl⟩
 ·cases h
theorem rf{α:Type _}{l:List α}(h:l.length=2):∃y z,l=[y,z]:=by
 rcases l with _|⟨a,t⟩
 ·cases h
 ·obtain⟨b,rfl⟩:=oo (Nat.succ.inj h);exact⟨a,b,rfl⟩
theorem vd{α:Type _}{l:List α}(h:l.length=3):∃x y z,l=[x,y,z]:=by
 rcases l with _|⟨a,t⟩
 ·cases h
 ·obtain⟨b,c,rfl⟩:=rf (Nat.succ.inj h);exact⟨a,b,c,rfl⟩
theorem GH{α:Type _}{l:List α}(h:l.length=4):∃w x y z,l=[w,x,y,z]:=by
 rcases l with _|⟨a,t⟩
 ·cases h
 ·obtain⟨b,c,d,rfl⟩:=vd (Nat.succ.inj h);exact⟨a,b,c,d,rfl⟩
end Y
abbrev Jp:=List T->(R->List T->Prop)->Prop
noncomputable def Cc(K:W.Frag)(f:Addr)(cdv:Value):Prop:=∃(o:Obj) (fd:FuncData),K.lookup f=some o/\o.data=.func fd/\fd.code=cdv
noncomputable def oI(K:W.Frag)(k:Bool)(H:Hp)(a:Addr)(xs:List V):Prop:=if k=true then cf K H a xs else bB K H a xs
noncomputable def k_(k:Bool)(h:Heap)(it a:Addr)(i:Nat):Prop:=if k=true then h.IsListIter it a i else h.IsTupleIter it a i
noncomputable def eN(k:Bool)(h:Heap)(a:Addr)(items:Array Value):Prop:=if k=true then h.IsList a items else h.IsTuple a items
theorem sQ{A:Around}(k:Bool)(hh:A.handled=none)(it l:Addr)(hne:l≠it)(items:Array Value):Draws prog w A it [it,l] items.size (λi v=>items[i]?=some v) (λi h=>k_ k h it l i/\eN k h l items):=by
 cases k with
 |true=>exact Draws.list hh it l hne items
 |false=>exact ja hh it l hne items
theorem Inv.xX{s:Shared}{k:Bool}(I:Inv X pins σ H s)(h:oI X.K k H a xs):∃its:List Value,Vals xs its/\eN k s.heap a its.toArray:=by
 cases k with
 |true=>obtain⟨its,r,p,_⟩:=I.list h;exact⟨its,r,p.isList⟩
 |false=>obtain⟨its,r,p,_⟩:=I.tuple h;exact⟨its,r,p⟩
theorem Inv.zX{s:Shared}{k:Bool}{ys:List V}(I:Inv X pins σ H s)(h:oI X.K k H a xs)(h':oI X.K k H a ys):xs=ys:=by
 cases k with
 |true=>exact I.jZ h h'
 |false=>exact I.iY h h'
theorem eN.ty{k:Bool}(x:eN k h a items):∃o,h.get? a=some o/\(o.cls=.type "list"\/o.cls=.type "tuple")/\∃n,o.data=.seq items n:=by
 cases k with
 |true=>obtain⟨o,e,c,n,d⟩:=(show h.IsList a items from x);exact⟨o,e,.inl c,n,d⟩
 |false=>obtain⟨o,e,c,n,d⟩:=(show h.IsTuple a items from x);exact⟨o,e,.inr c,n,d⟩
theorem k_.ty{k:Bool}(x:k_ k h it a i):∃o,h.get? it=some o/\(o.cls=.type "list_iterator"\/o.cls=.type "tuple_iterator")/\o.data=.fields #[.ref a,.int i 0]:=by
 cases k with
 |true=>obtain⟨o,e,c,d⟩:=(show h.IsListIter it a i from x);exact⟨o,e,.inl c,d⟩
 |false=>obtain⟨o,e,c,d⟩:=(show h.IsTupleIter it a i from x);exact⟨o,e,.inr c,d⟩
noncomputable def Gn(k:Bool):String:=if k=true then "list_iterator" else "tuple_iterator"
theorem yE(x:h.IsTuple a items)(o:Obj):(h.push o).IsTuple a items:=by
 obtain⟨ob,e,r⟩:=x;exact⟨ob,JM _ e,r⟩
theorem HI{k:Bool}(e:h.get? it=some {cls:=.type (Gn k),data:=.fields #[.ref a,.int 0 0]}):k_ k h it a 0:=by
 cases k with
 |true=>exact⟨_,e,rfl,rfl⟩
 |false=>exact⟨_,e,rfl,rfl⟩
noncomputable def oQ(K:W.Frag):Sp:=λvs H Q _=>∃(a:Addr) (ns:List Int),vs=[.ref a]/\cf K H a (ns.map V.int)/\ns.length<=63/\∀H',Q (.bl true) H'
namespace Y
theorem D_(hu:X.A.units<cLine):dc X (compareOp .NotEq) (Cz X.K true):=by
 intro pins s σ H x y v u Q I rx ry h;obtain⟨a,b,xs,ys,rfl,rfl,hq,fx,fy,q⟩:=h
 cases rx;cases ry
 have item:∀(its its2:List Value),Vals xs its->Vals ys its2->∀j (h1:j<its.toArray.size) (h2:j<its2.toArray.size),SeqAt.EqAt X.A.in1 s its.toArray[j] its2.toArray[j] (match xs[j]?,ys[j]? with|some x,some y=>wI x y|_,_=>true):=λits its2 r1 r2 j h1 h2=>by
  have l1:=r1.length;have l2:=r2.length;rw[JP] at h1 h2;obtain⟨u1,e1,g1⟩:=r1.get (i:=j) (x:=xs[j]) (JI (by lia))
  obtain⟨u2,e2,g2⟩:=r2.get (i:=j) (x:=ys[j]) (JI (by lia))
  rw[JI (show j<xs.length by lia),JI (show j<ys.length by lia)]
  have z1:its.toArray[j]=u1:=by
   rw[JI h1] at e1;simpa using e1
  have z2:its2.toArray[j]=u2:=by
   rw[JI h2] at e2;simpa using e2
  rw[z1,z2];exact nV g1 g2 (Lv.mp fx _ (Kf _)) (Lv.mp fy _ (Kf _))
 rcases hq with ⟨ha,hb⟩|⟨ha,hb⟩
 ·obtain⟨its,r1,p1,_⟩:=I.list ha;obtain⟨its2,r2,p2,_⟩:=I.list hb;have l1:=r1.length;have l2:=r2.length;by_cases e:xs.length=ys.length
  ·refine SeqAt.RcNeAt.lists p1.isList p2.isList (by rw[JP,JP];lia) hu (item its its2 r1 r2) X.prog X.w X.xe _ ⟨.bl _,H,I,rfl,q _ ?_⟩
   rw[JP,<- l1,<- e,LD,KY,OL]
   try rfl
  ·refine NH p1.isList p2.isList (by rw[JP,JP,NR];lia) hu X.prog X.w X.xe _ ⟨.bl true,H,I,rfl,?_⟩
   exact q false (by rw[Kv.mpr e,N1])
 ·obtain⟨its,r1,p1,_⟩:=I.tuple ha;obtain⟨its2,r2,p2,_⟩:=I.tuple hb;have l1:=r1.length;have l2:=r2.length;refine SeqAt.RcNeAt.tuples p1 p2 hu (item its its2 r1 r2) X.prog X.w X.xe _ ⟨.bl _,H,I,rfl,q _ ?_⟩;rw[JP,JP,<- l1,<- l2,Bool.and_comm]
  try rfl
noncomputable def Hj(K:W.Frag):R2:=λx y H Q=>Hd x y H Q\/Cz K true x y H Q
theorem DV(K:W.Frag)(hK:X.K=K)(hu:X.A.units<cLine):dc X (compareOp .NotEq) (Hj K):=by subst hK;exact DF.or (D_ hu)
theorem lU:fillsNumberSlot (.type "tuple") "mul"=pure false:=
 PySem.fillsNumberSlot_seq (id:="tuple.__mul__") (r:=some (.builtin "tuple.__rmul__")) PySem.F.slot_tuple_mul.lookup (by decide +kernel) PySem.F.slot_tuple_rmul.lookup (by decide +kernel)
theorem rW:seqRepeat? (.type "tuple")=pure (some (.builtin "tuple.__mul__")):=by
 unfold seqRepeat?;rw[PySem.seqSlot_of (T:="tuple") (name:="__mul__") (id:="tuple.__mul__") PySem.F.slot_tuple_mul.lookup (by decide +kernel),PySem.seqSlot_of (T:="tuple") (name:="__rmul__") (id:="tuple.__rmul__") PySem.F.slot_tuple_rmul.lookup (by decide +kernel)];rfl
theorem yn(a:Int)(t:Tok)(l:Addr)(ob:Obj)(items:Array Value)(n:Nat)(hc:ob.cls=.type "tuple")(hd:ob.data=.seq items n):
  Meets (Builtin.«int.__rmul__» ⟨[.int a t,.ref l],[]⟩) (λ_ R s=>s.heap.get? l=some ob/\R (.ok (.ret Value.notImplemented)) s):=
 .of_wp λprog w A R s h=>by
  obtain⟨hp,g,d,tk,os⟩:=s;obtain⟨hl,h⟩:=h;obtain⟨c,dd,da,sl⟩:=ob;simp only at hc hd;subst hc hd
  wp_walk
  exact⟨_,rfl,h⟩
theorem AD(l:Addr)(items:Array Value)(ob:Obj)(n:Nat)(k:Int)(t:Tok)(hc:ob.cls=.type "tuple")(hd:ob.data=.seq items n)(hne:items.isEmpty=false)(h1:1<k)(h2:k<=1000)(hsz:items.size<=1000):
  Meets (Builtin.«tuple.__mul__» ⟨[.ref l,.int k t],[]⟩) (λ_ R s=>s.heap.get? l=some ob/\R (.ok (.ret (.ref s.heap.objs.size))) {s with heap:=s.heap.push {cls:=.type "tuple",data:=.seq ((List.replicate k.toNat items).foldl (·++·) #[])}}):=
 .of_wp λprog w A R s h=>by
  obtain⟨hp,g,d,tk,os⟩:=s;obtain⟨hl,h⟩:=h;obtain⟨c,dd,da,sl⟩:=ob;simp only at hc hd;subst hc hd;have e1:(decide (k < -(2^63)) || decide (k >= 2^63))=false:=by rw[Ko (by lia),Ko (by lia)];rfl
  have e2:(items.isEmpty || k == 1)=false:=by rw[hne,Kv.mpr (by lia)];rfl
  have e3:(decide (k<=0) || items.isEmpty)=false:=by rw[hne,Ko (by lia)];rfl
  wp_walk using AutoSeq1.wpAny_loadPart' hl;rw[JN (by rw[e1];exact JZ)]
  have ht:IsTup (Shared.heap ⟨hp,g,d,tk,os⟩) l items:=⟨_,hl,rfl,n,rfl⟩;show wpAny _ _ (Builtin.Tuple.tupleItemsOf (.ref l) >>= _) _ _ _;refine JJ (tupleItemsOf_ ht ?_);rw[JN (by rw[e2];exact JZ)]
  show wpAny _ _ (if (decide (k<=0) || items.isEmpty)=true then _ else _) _ _ _
  rw[JN (by rw[e3];exact JZ)]
  have hm:(items.size:Int)*k<=1000*1000:=Int.mul_le_mul (by lia) h2 (by lia) (by lia)
  show wpAny _ _ (if (items.size:Int)*k >(2^63-1) / 8 then _ else _) _ _ _
  rw[JN (by lia)]
  show wpAny _ _ (if Builtin.Tuple.tupleTooMany ((items.size:Int)*k)=true then _ else _) _ _ _
  have e4:Builtin.Tuple.tupleTooMany ((items.size:Int)*k)=false:=Ko (by
   have:((sizeLine:Nat):Int) >= 1000000:=by decide
   lia)
  rw[JN (by rw[e4];exact JZ)]
  have hl2:((List.replicate k.toNat items).foldl (·++·) #[]).size<=sizeLine:=by
   have fs:∀(m:Nat) (acc:Array Value),((List.replicate m items).foldl (·++·) acc).size=acc.size+m*items.size:=λm=>by
    induction m with
    |zero=>intro acc;simp
    |succ m ih=>intro acc;rw[K4,Ni,ih,Array.size_append,MG];lia
   rw[fs];have h3:k.toNat*items.size<=1000*1000:=Nat.mul_le_mul (by lia) hsz
   have h4:(1000000:Nat)<=sizeLine:=by decide
   simp;lia
  exact JJ (m:=Builtin.Tuple.tupleExact _) (Ln (JV ⟨_,rfl,h⟩) hl2)
theorem wH(its:List Value):∀(m:Nat) (acc:List Value),(List.replicate m its.toArray).foldl (·++·) acc.toArray=(acc++(List.replicate m its).flatten).toArray:=λm acc=>foldl_rep its m acc
noncomputable def DA(K:W.Frag):R2:=λx y H Q=>∃a k xs,x=.ref a/\y=.int k/\bB K H a xs/\xs≠[]/\xs.length<=1000/\1<k/\k<=1000/\∀p,H p=none->Q (.ref p) (upd H p (.tup (List.replicate k.toNat xs).flatten))
theorem C0:dc X (binaryOp .Mult) (DA X.K):=by
 intro pins s σ H x y v u Q I rx ry h;obtain⟨a,k,xs,rfl,rfl,hx,hne,hsz,h1,h2,q⟩:=h;cases rx;obtain⟨t,rfl⟩:=ry;obtain⟨its,r,p,hz⟩:=I.tuple hx;obtain⟨ob,ho,hc,n,hd⟩:=id p;have hlen:=r.length;have hemp:its.toArray.isEmpty=false:=by
  cases its with
  |nil=>cases r;exact absurd rfl hne
  |cons a b=>rfl
 refine NP (T:="tuple") (U:="int") (by decide) ⟨_,ho,hc⟩ (λs'=>NO s' k t) lU PySem.F.fills_int_mul PySem.F.slot_int_rmul rW PySem.F.slot_int_index.lookup
  (Ma PySem.F.slot_int_rmul (NO s k t) PySem.F.entry_int_rmul (PySem.F.args_int_rmul_2 _ _) (yn k t a ob its.toArray n hc hd)
   ⟨ho,rfl,⟨_,ho,hc⟩,Ma PySem.F.slot_tuple_mul ⟨_,ho,hc⟩ PySem.F.entry_tuple_mul (PySem.F.args_tuple_mul_2 _ _) (AD a its.toArray ob n k t hc hd hemp h1 h2 (by rw[JP];lia)) ⟨ho,?_⟩⟩)
 have e0:=wH its k.toNat [];rw[Lr] at e0;have e0':(List.replicate k.toNat its.toArray).foldl (·++·) #[]=(List.replicate k.toNat its).flatten.toArray:=e0;rw[e0'];refine⟨.ref s.heap.objs.size,_,I.laid (t':=s.toks) (o:=.tup (List.replicate k.toNat xs).flatten) (λb ob q=>JM _ q) (JS _) ?_,rfl,q _ (I.bc.fresh (JS _))⟩;refine⟨?_,_,r.rep k.toNat,eB.new _ _⟩;rw[len_rep];have h3:k.toNat*xs.length<=1000*1000:=Nat.mul_le_mul (by lia) hsz
 exact JX h3 (by decide)
noncomputable def CZ(K:W.Frag):R2:=λx y H Q=>DS x y H Q\/DA K x y H Q
theorem oF(K:W.Frag)(hK:X.K=K):dc X (binaryOp .Mult) (CZ K):=by subst hK;exact de.or C0
end Y
open PySem PySem.Spec PyProof PyProof.Rows
namespace Y
theorem fL:∀{us:List Value} {ns:List Int},IntsAre us ns->Vals (ns.map V.int) us
 |_,_,.nil=>.nil
 |_,_,.cons n t h=>.cons ⟨t,rfl⟩ (fL h)
theorem lM:∀{us:List Value} {ns:List Int},IntsAre us ns->us.length=ns.length
 |_,_,.nil=>rfl
 |_,_,.cons n t h=>by simp[lM h]
section
variable {prog:Program} {w:World} {A:Around} {E:Value->Shared->Prop} {s:Shared}
theorem oO{l:Addr}{vs:List Value}{Q:List Value->Shared->Prop}(hl:IsTup s.heap l vs.toArray)(hsz:vs.length<=sizeLine)
  (h:Q vs {s with heap:=(s.heap.push (seqObj "list" #[] 0)).update s.heap.objs.size (Obj.mapSeq (·++vs.toArray))}):wpAny (model prog w) A (collect (.ref l)) Q E s:=by
 obtain⟨o,ho,hc,n,hd⟩:=id hl;unfold collect;refine JJ (wpAny_runValue (Md entry_proto_collect' ?_));show wpAny _ _ (do again (.builtin "list.__iadd__" ⟨[<- newList [],.ref l],[]⟩)) _ _ s
 refine JJ (NI (JV ⟨Code.quiet_builtin _ (by decide +kernel),Md entry_list_iadd' ?_⟩))
 show wpAny _ _ (Builtin.List.listExtendWith (.ref s.heap.objs.size) (.ref l) (.ref s.heap.objs.size)) _ _ {s with heap:=s.heap.push (seqObj "list" #[] 0)}
 unfold Builtin.List.listExtendWith;have ho':(s.heap.push (seqObj "list" #[] 0)).get? l=some o:=JM _ ho;refine JJ (Nk (T:="tuple") ⟨o,ho',hc⟩ ?_);have ht:(Value.type "tuple" == Value.type "tuple")=true:=by rfl
 rw[JQ (by rw[ht];simp)]
 refine JJ (Od ho' hd ?_);refine JJ (Od (xs:=#[]) (n:=0) (Kc _ rfl) rfl ?_);rw[JN (by simp)]
 refine JJ (listUpdate_at (xs:=#[]) (n:=0) (Kc _ rfl) rfl ?_ (Kh _) (by show (#[]++vs.toArray).size<=sizeLine+1;simp only[Array.size_append,JP,KL];lia))
 refine JV ?_;show wpAny (model prog w) A (load s.heap.objs.size >>= _) Q E {s with heap:=(s.heap.push (seqObj "list" #[] 0)).update s.heap.objs.size (Obj.mapSeq (·++vs.toArray))}
 refine JJ (wpAny_load (Nl (Kc _ rfl) _) ?_);show wpAny _ _ (pure ((#[]:Array Value)++vs.toArray).toList) Q E _;rw[show ((#[]:Array Value)++vs.toArray).toList=vs by simp]
 exact JV h
theorem r9{l:Addr}{vs:List Value}(hl:IsTup s.heap l vs.toArray)(hI:IntsAre vs ns)(h64:vs.length<64)
  (h:∀(out:Array Value) (ns':List Int),IntsAre out.toList ns'->ns'.Perm ns->ns'.Pairwise (·<=·)->Q (.ref (s.heap.objs.size+1)) {s with heap:=sortedAll s.heap vs out}) :
  wpAny (model prog w) A (call (.builtin "sorted") [.ref l]) Q E s:=by
 have hz:vs.length<=sizeLine:=JX (LC h64) (by decide)
 refine Calls.call_function_entry kind_sorted plain_sorted entry_sorted (args_sorted1 _) ?_;unfold Builtin.«sorted»;refine JJ (m:=checkCount "sorted" 1 1 _) (JV ?_);refine JJ (oO hl hz ?_);refine JJ (NI ?_ hz);have hs:((s.heap.push (seqObj "list" #[] 0)).update s.heap.objs.size (Obj.mapSeq (·++vs.toArray))).objs.size=s.heap.objs.size+1:=by rw[Heap.size_update,size_push']
 have ho:(((s.heap.push (seqObj "list" #[] 0)).update s.heap.objs.size (Obj.mapSeq (·++vs.toArray))).push (seqObj "list" vs.toArray 0)).get? (s.heap.objs.size+1)=some (seqObj "list" vs.toArray 0):=by
  rw[<- hs];exact Kc _ rfl
 show wpAny _ _ _ _ _ {s with heap:=((s.heap.push (seqObj "list" #[] 0)).update s.heap.objs.size (Obj.mapSeq (·++vs.toArray))).push (seqObj "list" vs.toArray 0)}
 rw[hs];refine JJ (Lb (KZ slot_list_sort ⟨_,ho,rfl⟩ entry_list_sort (list_sort_tree ho hI h64 λout ns' a1 a2 a3=>⟨_,rfl,?_⟩) (args_list_sort _)));exact JV ⟨_,rfl,h out ns' a1 a2 a3⟩
end
noncomputable def Dl(K:W.Frag):List V->Hp->VK->Prop:=λxs H Q=>∃p ns,xs=[.ref p]/\bB K H p (ns.map V.int)/\ns.length<64/\∀ns':List Int,ns'.Perm ns->ns'.Pairwise (·<=·)->∀l,H l=none->Q (.ref l) (upd H l (.lst (ns'.map V.int)))
theorem va(K:W.Frag)(hK:X.K=K):bK X (.builtin "sorted") (Dl K):=by
 subst hK;intro pins s σ H xs us Q I r h;obtain⟨p,ns,rfl,hq,h64,q⟩:=h;obtain⟨u,rfl,ru⟩:=vals1 r;cases ru;obtain⟨its,rv,pl,hz⟩:=I.tuple hq;have hi:=intsAre_of rv;refine r9 pl hi (by rw[lM hi];exact h64) λout ns' a1 a2 a3=>?_
 obtain⟨e,he⟩:=sortedAll_at s.heap its out;refine⟨.ref (s.heap.objs.size+1),_,I.laid (t':=s.toks) (λb ob q=>sortedAll_old q) (KI _) (show bS X.prog X.w _ _ _ (.lst (ns'.map V.int)) from⟨?_,out.toList,e,fL a1,by simpa using he⟩),rfl,q ns' a2 a3 _ (I.bc.fresh (KI _))⟩
 rw[JK,a2.length_eq];exact JX (LC h64) (by decide)
theorem zQ(l:List Nat):∀(n a:Nat),((List.range n).map (λk=>a+k)).filterMap (l[·]?)=(l.drop a).take n
 |0,_=>by simp
 |n+1,a=>by
  rw[Oq,Kg,List.filterMap_append,zQ l n a,List.take_add_one,KR]
  cases h:l[a+n]?<;>simp[h]
theorem oX(lo hi:Option Int)(n:Nat):Builtin.Str.strSliceIndices lo hi 1 n=(List.range (HT.bW n n hi-HT.bW n 0 lo)).map (λk=>HT.bW n 0 lo+k):=by
 have ea:∀(v:Int),max 0 (min (if v<0 then v+(n:Int) else v) (n:Int))=(((if v<0 then (v+(n:Int)).toNat else min v.toNat n):Nat):Int):=by
  intro v;split<;>lia
 have e:Builtin.Str.strSliceIndices lo hi 1 n=sliceRange (HT.bW n 0 lo) (HT.bW n n hi) 1:=by
  cases lo with
  |none=>cases hi with
   |none=>rfl
   |some j=>show sliceRange 0 (max 0 (min (if j<0 then j+(n:Int) else j) (n:Int))) 1=_;rw[ea];rfl
  |some i=>cases hi with
   |none=>show sliceRange (max 0 (min (if i<0 then i+(n:Int) else i) (n:Int))) n 1=_;rw[ea];rfl
   |some j=>show sliceRange (max 0 (min (if i<0 then i+(n:Int) else i) (n:Int))) (max 0 (min (if j<0 then j+(n:Int) else j) (n:Int))) 1=_;rw[ea,ea];rfl
 rw[e];generalize HT.bW n 0 lo=a;generalize HT.bW n n hi=b;unfold sliceRange;simp only[show ((1:Int) > 0)=True from by simp,Mn,Int.one_mul]
 have c:(if (a:Int)<(b:Int) then ((b:Int)-a+1-1) / 1 else 0).toNat=b-a:=by split<;>lia
 rw[c];refine List.map_congr_left λk _=>?_;lia
theorem rm(z:Str)(lo hi:Option Int):Txt.slice z lo hi=⟨((z.cps.toList.drop (HT.bW z.cps.toList.length 0 lo)).take (HT.bW z.cps.toList.length z.cps.toList.length hi-HT.bW z.cps.toList.length 0 lo)).toArray⟩:=by
 have hl:z.cps.toList.length=z.length:=K0;rw[hl];have hp:(Builtin.Str.strSliceIndices lo hi 1 z.length).filterMap (z.cps[·]?)=(z.cps.toList.drop (HT.bW z.length 0 lo)).take (HT.bW z.length z.length hi-HT.bW z.length 0 lo):=by
  rw[oX];have:=zQ z.cps.toList (HT.bW z.length z.length hi-HT.bW z.length 0 lo) (HT.bW z.length 0 lo)
  simpa using this
 unfold Txt.slice;split
 ·rename_i h;rw[oX] at h;simp at h;have h2:=HT.rS z.length z.length (JS _) hi;have h3:=HT.rS z.length 0 (Kh _) lo;have a0:HT.bW z.length 0 lo=0:=by lia
  have b0:HT.bW z.length z.length hi=z.length:=by lia
  rw[a0,b0,Ld,Mr,<- hl,KH]
 ·rw[hp]
noncomputable def j8(z:Str)(lo hi:Option Int):Str:=⟨(yO z.cps.toList lo hi).toArray⟩
theorem vH(z:Str)(lo hi:Option Int):Txt.slice z lo hi=j8 z lo hi:=rm z lo hi
noncomputable def IU:V->Option Int->Option Int->Hp->VK->Prop:=λx lo hi H Q=>∃z,x=.str z/\z.length<=sizeLine/\Q (.str (j8 z lo hi)) H
theorem nN:uP X IU:=by
 intro pins s σ H x v vl vu lo hi sl Q I rx hs pl pu h;obtain⟨z,rfl,hz,q⟩:=h;rw[<- vH] at q;obtain⟨t,rfl⟩:=rx;refine⟨"str",_,PySem.F.slot_str_getitem.lookup,OI _ _ _,?_⟩
 cases pl<;>cases pu
 ·exact LV (l:=none) (u:=none) (st:=none) hs rfl (Nm ⟨JX (Txt.slice_le z _ _) hz,λt' k=>⟨.str _,H,I.tok _,⟨_,rfl⟩,q⟩⟩)
 ·exact LV (l:=none) (u:=some (_,_)) (st:=none) hs rfl (Nm ⟨JX (Txt.slice_le z _ _) hz,λt' k=>⟨.str _,H,I.tok _,⟨_,rfl⟩,q⟩⟩)
 ·exact LV (l:=some (_,_)) (u:=none) (st:=none) hs rfl (Nm ⟨JX (Txt.slice_le z _ _) hz,λt' k=>⟨.str _,H,I.tok _,⟨_,rfl⟩,q⟩⟩)
 ·exact LV (l:=some (_,_)) (u:=some (_,_)) (st:=none) hs rfl (Nm ⟨JX (Txt.slice_le z _ _) hz,λt' k=>⟨.str _,H,I.tok _,⟨_,rfl⟩,q⟩⟩)
noncomputable def lF(z y:Str)(i:Int):Bool:=decide (fromIndex z.length i+y.length<=z.length) && Builtin.Str.subAt z y (fromIndex z.length i)
noncomputable def Ak:V->List V->Hp->VK->Prop:=λx vs H Q=>∃z y i,x=.str z/\vs=[.str y,.int i]/\Q (.bl (lF z y i)) H
theorem rL:wz X "str.startswith" Ak:=by
 intro pins s σ H x xs v us Q I rx rs h;obtain⟨z,y,i,rfl,rfl,q⟩:=h;obtain⟨t,rfl⟩:=rx;obtain⟨_,_,rfl,r1,rs⟩:=Paired.j6 rs;obtain⟨_,_,rfl,r2,rs⟩:=Paired.j6 rs;obtain rfl:=Paired.wC rs;obtain⟨u1,rfl⟩:=r1;obtain⟨u2,rfl⟩:=r2;exact call_gives PySem.F.slot_str_startswith (OI _ _ _) PySem.F.entry_str_startswith (PySem.F.args_str_startswith_3 _ _ _) (gives_str_startswith_from z y i t _ _) ⟨.bl _,H,I,rfl,q⟩
end Y
abbrev Xw:=T->Mu->Prop
abbrev UX:=Mu->(R->Mu->Prop)->Xw->Prop
abbrev JC:=Ed->Xw->Mu->Prop
noncomputable def Fv(K:W.Frag)(mg:Str->Option Value)(x:Str)(f:Addr)(cdv:Value):Prop:=mg x=some (.ref f)/\∃(o:Obj) (fd:FuncData),K.lookup f=some o/\o.data=.func fd/\fd.code=cdv
abbrev UJ:=Mu->(Mu->Prop)->Prop
noncomputable def ng(n m:Nat)(e:Nat->Bool):Bool:=(List.range (min n m)).all e && n == m
inductive lY:Nat->T->T->Bool->Prop
 |flat {n:Nat} {t u:T} (f1:m7 t=true) (f2:m7 u=true):lY n t u (Y.DN t u)
 |tup {n:Nat} {xs ys:List T} (e:Nat->Bool) (h:∀(j:Nat) (x y:T),xs[j]?=some x->ys[j]?=some y->lY n x y (e j)):lY (n+1) (.tup xs) (.tup ys) (ng xs.length ys.length e)
 |lst {n:Nat} {xs ys:List T} (e:Nat->Bool) (h:∀(j:Nat) (x y:T),xs[j]?=some x->ys[j]?=some y->lY n x y (e j)):lY (n+1) (.lst xs) (.lst ys) (ng xs.length ys.length e)
theorem xh{v:V}{B:lX}(h1:Rep K H B v t)(h2:Rep K H B v u)(f1:m7 t=true)(f2:m7 u=true):Y.DN t u=true:=by
 cases h1<;>first | (cases f1;done) | (cases h2<;>first | (cases f2;done)|simp[Y.DN])
theorem iZ{n m:Nat}{e:Nat->Bool}(h:n=m)(h2:∀j,j<n->e j=true):ng n m e=true:=by
 subst h;unfold ng;rw[LD,KY,MX,Lv];intro j hj;exact h2 j (by simpa using hj)
theorem lY.same{n:Nat}{b:Bool}(d:lY n t u b):∀{K:W.Frag} {H:Hp} {B:lX} {v:V},Rep K H B v t->Rep K H B v u->b=true:=by
 induction d with
 |flat f1 f2=>exactλh1 h2=>xh h1 h2 f1 f2
 |tup e h ih =>
  rename_i nn xs ys;intro K H B v h1 h2
  cases h1 with
  |tup n1 a1 r1=>cases h2 with
   |tup n2 a2 r2 =>
    rw[a1] at a2;cases a2;refine iZ (r1.length.symm.trans r2.length) λj hj=>?_;have hx:=JI hj;have hj2:j<ys.length:=by rw[<- r2.length,r1.length];exact hj
    have hy:=JI hj2;obtain⟨v1,g1,p1⟩:=r1.get hx;obtain⟨v2,g2,p2⟩:=r2.get hy;rw[g1] at g2;cases g2;exact ih j _ _ hx hy p1 p2
 |lst e h ih =>
  rename_i nn xs ys;intro K H B v h1 h2
  cases h1 with
  |lst n1 a1 r1=>cases h2 with
   |lst n2 a2 r2 =>
    rw[a1] at a2;cases a2;refine iZ (r1.length.symm.trans r2.length) λj hj=>?_;have hx:=JI hj;have hj2:j<ys.length:=by rw[<- r2.length,r1.length];exact hj
    have hy:=JI hj2;obtain⟨v1,g1,p1⟩:=r1.get hx;obtain⟨v2,g2,p2⟩:=r2.get hy;rw[g1] at g2;cases g2;exact ih j _ _ hx hy p1 p2
section
variable {X:Cx} {pins:List (Addr×Obj)} {σ:St} {H:Hp} {s:Shared} {B:lX}
theorem f9{A:Around}{n:Nat}{xs:List T}{vs:List V}{e:Nat->Bool}(r1:dn X.K H B vs xs)(r2:dn X.K H B ws ys)(g1:Vals vs its)(g2:Vals ws its2)
  (ih:∀(j:Nat) (x y:T),xs[j]?=some x->ys[j]?=some y->∀(v w:V) (a b:Value),Rep X.K H B v x->Rep X.K H B w y->RelV v a->RelV w b->SeqAt.EqAt A s a b (e j)) :
  ∀j (h1:j<its.toArray.size) (h2:j<its2.toArray.size),SeqAt.EqAt A s its.toArray[j] its2.toArray[j] (e j):=by
 intro j h1 h2;have l1:=g1.length;have l2:=g2.length;have l3:=r1.length;have l4:=r2.length;rw[JP] at h1 h2;have hx:=JI (show j<xs.length by lia)
 have hy:=JI (show j<ys.length by lia)
 obtain⟨v1,q1,p1⟩:=r1.get hx;obtain⟨v2,q2,p2⟩:=r2.get hy;obtain⟨u1,e1,f1⟩:=g1.get q1;obtain⟨u2,e2,f2⟩:=g2.get q2;have z1:its.toArray[j]=u1:=by
  rw[JI h1] at e1;simpa using e1
 have z2:its2.toArray[j]=u2:=by
  rw[JI h2] at e2;simpa using e2
 rw[z1,z2];exact ih j _ _ hx hy v1 v2 u1 u2 p1 p2 f1 f2
theorem fE{vs:List V}{xs:List T}(e:Nat->Bool)(r1:dn X.K H B vs xs)(r2:dn X.K H B ws ys)(g1:Vals vs its)(g2:Vals ws its2):((List.range (min its.toArray.size its2.toArray.size)).all e && its.toArray.size == its2.toArray.size)=ng xs.length ys.length e:=by
 have l1:=g1.length;have l2:=g2.length;have l3:=r1.length;have l4:=r2.length;unfold ng;rw[JP,JP,<- l1,<- l2,l3,l4]
theorem Am{n:Nat}{b:Bool}(d:lY n t u b):∀(I:Inv X pins σ H s) {A:Around} (hu:A.units+n<cLine) (v w:V) (a c:Value),Rep X.K H B v t->Rep X.K H B w u->RelV v a->RelV w c->SeqAt.EqAt A s a c b:=by
 induction d with
 |flat f1 f2 =>
  intro I A hu v w a c h1 h2 r1 r2;obtain⟨z1,z2,z3⟩:=Y.HG h1 h2 f1 f2;rw[<- z3];exact nV r1 r2 z1 z2
 |tup e h ih =>
  intro I A hu v w a c h1 h2 r1 r2;rename_i n xs ys;have h1':=h1;have h2':=h2
  cases h1 with
  |tup n1 a1 q1=>cases h2 with
   |tup n2 a2 q2 =>
    rename_i p1 vs p2 ws
    cases r1;cases r2
    by_cases z:p1=p2
    ·subst z;rw[(lY.tup (n:=n) e h).same h1' h2'];exact SeqAt.EqAt.same _
    ·obtain⟨its,g1,pl1,_⟩:=I.tuple (bB.of a1);obtain⟨its2,g2,pl2,_⟩:=I.tuple (bB.of a2);rw[<- fE (X:=X) e q1 q2 g1 g2];exact N9 z (SeqAt.RcAt.tuples pl1 pl2 (by lia) (f9 (n:=n) q1 q2 g1 g2 λj x y hx hy v w a c=>ih j x y hx hy I (A:=A.in1) (by show A.units+1+n<cLine;lia) v w a c))
 |lst e h ih =>
  intro I A hu v w a c h1 h2 r1 r2;rename_i n xs ys;have h1':=h1;have h2':=h2
  cases h1 with
  |lst n1 a1 q1=>cases h2 with
   |lst n2 a2 q2 =>
    rename_i p1 vs p2 ws
    cases r1;cases r2
    by_cases z:p1=p2
    ·subst z;rw[(lY.lst (n:=n) e h).same h1' h2'];exact SeqAt.EqAt.same _
    ·obtain⟨its,g1,pl1,_⟩:=I.list (cf.of a1);obtain⟨its2,g2,pl2,_⟩:=I.list (cf.of a2);have sz:=fE (X:=X) e q1 q2 g1 g2;rw[<- sz];by_cases hs:its.toArray.size=its2.toArray.size
     ·rw[hs,LD,KY,MX,<- hs];exact N9 z (SeqAt.RcAt.lists pl1.isList pl2.isList hs (by lia) (f9 (n:=n) q1 q2 g1 g2 λj x y hx hy v w a c=>ih j x y hx hy I (A:=A.in1) (by show A.units+1+n<cLine;lia) v w a c))
     ·rw[Kv.mpr hs,OB];exact N9 z (SeqAt.RcAt.lists_lengths pl1.isList pl2.isList (NR.mpr hs) (by lia))
end
namespace Y
noncomputable def rC(K:W.Frag)(n:Nat)(neg:Bool):R2:=λx y H Q=>∃(B:lX) (a b:Addr) (vs ws:List V) (xs ys:List T) (e:Nat->Bool),x=.ref a/\y=.ref b/\((bB K H a vs/\bB K H b ws)\/(cf K H a vs/\cf K H b ws))/\dn K H B vs xs/\dn K H B ws ys /\
 (∀(j:Nat) (x y:T),xs[j]?=some x->ys[j]?=some y->lY n x y (e j))/\Q (.bl (if neg then !ng xs.length ys.length e else ng xs.length ys.length e)) H
theorem AZ{X:Cx}{n:Nat}(hu:X.A.units+n+1<cLine):dc X (compareOp .Eq) (rC X.K n false):=by
 intro pins s σ H x y v u Q I rx ry h;obtain⟨B,a,b,vs,ws,xs,ys,e,rfl,rfl,hq,r1,r2,ih,q⟩:=h
 cases rx;cases ry
 have it:∀(j:Nat) (x y:T),xs[j]?=some x->ys[j]?=some y->∀(v w:V) (a b:Value),Rep X.K H B v x->Rep X.K H B w y->RelV v a->RelV w b->SeqAt.EqAt X.A.in1 s a b (e j):=λj x y hx hy v w a c=>Am (ih j x y hx hy) I (A:=X.A.in1) (by show X.A.units+1+n<cLine;lia) v w a c
 rcases hq with ⟨ha,hb⟩|⟨ha,hb⟩
 ·obtain⟨its,g1,p1,_⟩:=I.tuple ha;obtain⟨its2,g2,p2,_⟩:=I.tuple hb;refine SeqAt.eq_tupleAt p1 p2 (by lia) (f9 (n:=n) r1 r2 g1 g2 it) ⟨.bl _,H,I,rfl,?_⟩
  rw[fE (X:=X) e r1 r2 g1 g2];exact q
 ·obtain⟨its,g1,p1,_⟩:=I.list ha;obtain⟨its2,g2,p2,_⟩:=I.list hb;have sz:=fE (X:=X) e r1 r2 g1 g2;by_cases hs:its.toArray.size=its2.toArray.size
  ·rw[hs,LD,KY,MX,<- hs] at sz;refine SeqAt.eq_listAt p1.isList p2.isList hs (by lia) (f9 (n:=n) r1 r2 g1 g2 it) ⟨.bl _,H,I,rfl,?_⟩
   rw[sz];exact q
  ·rw[Kv.mpr hs,OB] at sz;refine Oj p1.isList p2.isList (NR.mpr hs) (by lia) ⟨.bl _,H,I,rfl,?_⟩
   rw[sz];exact q
theorem B5{X:Cx}{n:Nat}(hu:X.A.units+n+1<cLine):dc X (compareOp .NotEq) (rC X.K n true):=by
 intro pins s σ H x y v u Q I rx ry h;obtain⟨B,a,b,vs,ws,xs,ys,e,rfl,rfl,hq,r1,r2,ih,q⟩:=h
 cases rx;cases ry
 have it:∀(j:Nat) (x y:T),xs[j]?=some x->ys[j]?=some y->∀(v w:V) (a b:Value),Rep X.K H B v x->Rep X.K H B w y->RelV v a->RelV w b->SeqAt.EqAt X.A.in1 s a b (e j):=λj x y hx hy v w a c=>Am (ih j x y hx hy) I (A:=X.A.in1) (by show X.A.units+1+n<cLine;lia) v w a c
 rcases hq with ⟨ha,hb⟩|⟨ha,hb⟩
 ·obtain⟨its,g1,p1,_⟩:=I.tuple ha;obtain⟨its2,g2,p2,_⟩:=I.tuple hb;refine SeqAt.RcNeAt.tuples p1 p2 (by lia) (f9 (n:=n) r1 r2 g1 g2 it) X.prog X.w X.xe _ ⟨.bl _,H,I,rfl,?_⟩
  rw[fE (X:=X) e r1 r2 g1 g2];exact q
 ·obtain⟨its,g1,p1,_⟩:=I.list ha;obtain⟨its2,g2,p2,_⟩:=I.list hb;have sz:=fE (X:=X) e r1 r2 g1 g2;by_cases hs:its.toArray.size=its2.toArray.size
  ·rw[hs,LD,KY,MX,<- hs] at sz;refine SeqAt.RcNeAt.lists p1.isList p2.isList hs (by lia) (f9 (n:=n) r1 r2 g1 g2 it) X.prog X.w X.xe _ ⟨.bl _,H,I,rfl,?_⟩
   rw[sz];exact q
  ·rw[Kv.mpr hs,OB] at sz;refine NH p1.isList p2.isList (NR.mpr hs) (by lia) X.prog X.w X.xe _ ⟨.bl true,H,I,rfl,?_⟩
   have q2:=q;rw[<- sz] at q2;exact q2
end Y
theorem nA{A:Around}(hr:bP k A):A.units+4+1<cLine:=KN (Nat.add_le_add_left (by decide:4+1<=64) _) hr.units
namespace Y
noncomputable def IV(K:W.Frag):R2:=λx y H Q=>Gs K x y H Q\/rC K 4 false x y H Q
theorem EF(K:W.Frag)(hK:X.K=K)(hu:X.A.units+4+1<cLine):dc X (compareOp .Eq) (IV K):=by subst hK;exact (EI X.K rfl (by lia)).or (AZ hu)
noncomputable def HD(K:W.Frag):R2:=λx y H Q=>Hj K x y H Q\/rC K 4 true x y H Q
theorem rF(K:W.Frag)(hK:X.K=K)(hu:X.A.units+4+1<cLine):dc X (compareOp .NotEq) (HD K):=by subst hK;exact (DV X.K rfl (by lia)).or (B5 hu)
end Y
theorem lT{k:Str}{t t':Tok}{prog:Program}{w:World}{A:Around}{E:Value->Shared->Prop}{Q:Option Fin×Unit->Shared->Prop}(hit:items[j]?=some (.str k t'))(hno:∀m,m<j->∃y ty,items[m]?=some (.str y ty)/\y≠k):∀(m i c:Nat) (s:Shared),i+m=j->m<c->Q (some (.done (.ret (.int (j:Nat) s.toks))),()) {s with toks:=s.toks+1} ->
  wpAny (model prog w) A (forIn (List.range' i c) ((none,()):Option Fin×Unit) λi __s=>match items[i]? with
      |some y=>do
       let __do_lift <- eqBool y (Value.str k t)
       if __do_lift=true then do
         let __do_lift <- retInt (i:Nat)
         pure (ForInStep.done (some __do_lift,()))
        else pure (ForInStep.yield (none,()))
      |x=>pure (ForInStep.yield (none,()))) Q E s:=by
 intro m
 induction m with
 |zero =>
  intro i c s e hc h
  cases c with
  |zero=>exact absurd hc (LH _)
  |succ c =>
   obtain rfl:i=j:=e;rw[Lw,Mb];simp only[hit];refine JJ (JJ (NX ?_));rw[Kw rfl]
   wp_walk
   exact h
 |succ m ih =>
  intro i c s e hc h
  cases c with
  |zero=>exact absurd hc (LH _)
  |succ c =>
   obtain⟨y,ty,hy,ne⟩:=hno i (by lia)
   rw[Lw,Mb];simp only[hy];refine JJ (JJ (NX ?_));rw[Ko ne];exact JV (ih (i+1) c s (by lia) (by lia) h)
theorem v9{n:Nat}{dd:Option Addr}{sl:Array (Option Value)}{k:Str}{t t':Tok}(hit:items[j]?=some (.str k t'))(hno:∀m,m<j->∃y ty,items[m]?=some (.str y ty)/\y≠k):
  Meets (Builtin.«tuple.index» ⟨[.ref p,.str k t],[]⟩) (λA R s=>s.heap.get? p=some {cls:=.type "tuple",dict:=dd,data:=.seq items n,slots:=sl}/\R (.ok (.ret (.int (j:Nat) s.toks))) {s with toks:=s.toks+1}):=by
 intro prog w A R s h;obtain⟨hp,g,d,tk,os⟩:=s;obtain⟨ho,h⟩:=h;unfold Builtin.«tuple.index»;simp only[Std.Legacy.Range.forIn_eq_forIn_range'];wp_walk using Nj ho;have hj:j<items.size:=by
  rcases KG j items.size with z|z
  ·exact z
  ·rw[NJ.mpr z] at hit;cases hit
 refine lT hit hno j 0 _ _ (MJ _) ?_ ?_
 ·simp[Std.Legacy.Range.size];exact hj
 ·exact JV h
noncomputable def IH(K:W.Frag):V->List V->Hp->VK->Prop:=λx vs H Q=>∃(a:Addr) (ws:List Str) (k:Str) (j:Nat),x=.ref a/\bB K H a (ws.map V.str)/\vs=[.str k]/\ws[j]?=some k/\(∀m,m<j->ws[m]?≠some k)/\Q (.int (j:Nat)) H
theorem iJ:∀{ws:List Str} {its:List Value},Vals (ws.map V.str) its->∀(m:Nat) (y:Str),ws[m]?=some y->∃t,its[m]?=some (.str y t):=λr m y e=>by
 obtain⟨u,h1,h2⟩:=r.get (i:=m) (x:=V.str y) (by rw[JW,e];rfl)
 obtain⟨t,rfl⟩:=(show RelV (.str y) u from h2);exact⟨t,h1⟩
theorem Ei:wz X "tuple.index" (IH X.K):=by
 intro pins s σ H x xs v us Q I rx rs h;obtain⟨a,ws,k,j,rfl,hq,rfl,hj,hno,q⟩:=h;obtain rfl:v=Value.ref a:=rx;obtain⟨u,rfl,t,rfl⟩:=vals1 rs;obtain⟨its,r,pl,hz⟩:=I.tuple hq;obtain⟨⟨oc,od,oda,osl⟩,ho,hc,n,hd⟩:=id pl;obtain rfl:oc=.type "tuple":=hc;obtain rfl:oda=.seq its.toArray n:=hd;obtain⟨t',hit⟩:=iJ r j k hj;refine Ma PySem.F.slot_tuple_index ⟨_,ho,rfl⟩ PySem.F.entry_tuple_index (PySem.F.args_tuple_index_2 _ _) (v9 (j:=j) (t':=t') (by rw[KQ];exact hit) λm hm=>?_) ⟨ho,⟨.int (j:Nat),H,I.tok _,⟨_,rfl⟩,q⟩⟩
 have hl:m<ws.length:=Mp hm (JO.mp hj).1;have e:=JI hl;obtain⟨ty,hy⟩:=iJ r m _ e;exact⟨_,ty,by rw[KQ];exact hy,λz=>hno m hm (by rw[e,z])⟩
open Builtin Builtin.Str
open PySem PySem.Spec PyProof PyProof.Rows
noncomputable def BZ(K:W.Frag)(a:Addr):It:=
 ⟨λi H=>∃x,getL K a i H x,λi H x H'=>∃p y,(∀xs,cf K H a xs->xs[i]?=some y)/\H p=none/\x=.ref p/\H'=upd H p (.tup [.int i,y]),IX K a⟩
theorem sx{P:Program}{w:World}{K:W.Frag}{es:List Expr}{tk:Nat}{tp:Pos}(a it e:Addr)(hne:e≠it):Turn P w K (.Tuple es tk tp) (BZ K a) [e,it] e (λi h=>(∃old,IsEnum h e it i old)/\h.IsListIter it a i) where
 mem:=by simp
 obj:=λi h st b hb=>by
  obtain⟨⟨old,he⟩,o,eo,c,d⟩:=st;rcases JR.mp hb with z|z
  ·subst z;exact⟨_,he,λv z=>by cases z⟩
  ·have z:b=it:=by simpa using z
   subst z;exact⟨o,eo,λv z=>by rw[d] at z;cases z⟩
 keep:=λi h h' st k=>by
  obtain⟨⟨old,he⟩,o,eo,r⟩:=st;exact⟨⟨old,k e (by simp) _ he⟩,o,k it (by simp) o eo,r⟩
 item:=by
  intro X hP hw hK hc i pins s σ H E I hf st hg;subst hP hw hK;obtain⟨x,xs,hq,hx⟩:=hg;obtain⟨⟨old,he⟩,hit⟩:=st;obtain⟨its,rv,p,hz⟩:=I.list hq;obtain⟨u,hu,ru⟩:=rv.get hx;obtain⟨g0,g1,g2,g3,g4,g5⟩:=hf e (by simp)
  obtain⟨f0,f1,f2,f3,f4,f5⟩:=hf it (by simp)
  have ht:s.heap.IsList a its.toArray:=p.isList;have ha:a≠it:=by
   rintro rfl;obtain⟨o,e1,c1,_⟩:=hit;obtain⟨o',e2,c2,_⟩:=ht;rw[e1] at e2;cases e2;rw[c1] at c2;exact absurd (Value.type.inj c2) (by decide)
  have hea:e≠a:=by
   rintro rfl;obtain⟨o',e2,c2,_⟩:=ht;have e1:s.heap.get? e=some _:=he;rw[e1] at e2;cases e2;exact absurd (Value.type.inj c2) (by decide)
  have hi:i<its.toArray.size:=by
   have:=(JO.mp hu).1
   simpa using this
  refine Oi (Draws.list (A:=X.A.in1) (I.ok.hd hc) it a ha its.toArray) he ⟨hit,ht⟩ hi hne (by simp[hne,hea]) λx' h' tk' hP ho hs' hT hsz hk=>?_
  have ex:x'=u:=by
   have hP':its.toArray[i]?=some x':=hP;rw[KQ,hu] at hP';exact (Option.some.inj hP').symm
  subst ex;refine⟨.ref s.heap.objs.size,rfl,NG ho λh2 he2 hs2=>?_⟩;have fr:H s.heap.objs.size=none:=I.bc.fresh (JS _);have hle:e≠s.heap.objs.size:=Kn (Ke he);have hT2:h2.get? s.heap.objs.size=some {cls:=.type "tuple",data:=.seq #[.int i tk',x']}:=(hs2.2 _ (Ll hle)).trans hT;have I2:Inv X pins σ (upd H s.heap.objs.size (.tup [.int i,x])) {s with heap:=h2,toks:=tk'+1}:=by
   refine I.oj (fp:=[e,it]) hf (JS _) (λb o hb eb=>?_) ⟨by show 2<=sizeLine;decide,[.int i tk',x'],.cons ⟨_,rfl⟩ (.cons ru .nil),⟨_,hT2,rfl,_,rfl,rfl⟩⟩
   have n1:b≠e:=λz=>hb (by simp[z])
   have n2:b≠it:=λz=>hb (by simp[z])
   exact (hs2.2 b n1).trans (hk b o n1 n2 eb)
  refine⟨.ref s.heap.objs.size,_,I2,rfl,⟨s.heap.objs.size,x,λys hy=>by rw[I.jZ hy hq];exact hx,fr,rfl,rfl⟩,⟨⟨x',?_⟩,?_⟩,λb hb=>?_⟩
  ·have e:(((i+1:Nat)):Int)=(i:Int)+1:=by lia
   rw[e];exact he2
  ·obtain⟨o,e1,r⟩:=hs'.1;exact⟨o,(hs2.2 it (Ll hne)).trans e1,r⟩
  ·have n:b≠s.heap.objs.size:=by
    rcases JR.mp hb with z|z
    ·subst z;exact hle
    ·have z:b=it:=by simpa using z
     subst z;obtain⟨o,e1,_⟩:=hit;exact Kn (Ke e1)
   rw[ao n];exact (hf b hb).1
 done:=by
  intro X hP hw hK hc i pins s σ H E I hf st hg;subst hP hw hK;obtain⟨xs,hq,hx⟩:=hg;obtain⟨⟨old,he⟩,hit⟩:=st;obtain⟨its,rv,p,hz⟩:=I.list hq;have ht:s.heap.IsList a its.toArray:=p.isList;have ha:a≠it:=by
   rintro rfl;obtain⟨o,e1,c1,_⟩:=hit;obtain⟨o',e2,c2,_⟩:=ht;rw[e1] at e2;cases e2;rw[c1] at c2;exact absurd (Value.type.inj c2) (by decide)
  have hl:=rv.length;have hsz:its.toArray.size=i:=by simp;lia
  refine Oz (Draws.list (A:=X.A.in1) (I.ok.hd hc) it a ha its.toArray) he (by rw[hsz];exact⟨hit,ht⟩) λh' eb=>⟨rfl,?_⟩
  exact I.turns (t':=s.toks) hf λb o hb e1=>eb b o (λz=>hb (by simp[z])) e1
 self:=λA i s Q E st h=>by
  obtain⟨⟨old,he⟩,_⟩:=st;exact MQ he h
section
variable {X:Cx} {es:List Expr} {tk:Nat} {tp:Pos}
noncomputable def kR(K:W.Frag)(ta:TA):TI:=λσ H R=>ta σ H λvs H1=>∃a,vs=[.ref a]/\(∃xs,cf K H1 a xs)/\R (BZ K a) H1
theorem yX{e:Expr}{ta:TA}{p pos:Pos}(hg:Gl X "enumerate")(hm:X.mg "enumerate"=none)(ha:PA X [e] ta)(h1:autoParam (gc e=true) ℜ0)(hv:autoParam (bootBuiltins "enumerate"=some (.type "enumerate")) ℜ6):
  PI X (.Tuple es tk tp) (.Call (.Name "enumerate" p) [e] [] pos) (kR X.K ta):=by
 intro pins s σ H R I h;refine Call_ (ik I hg hm hv (Lp (cz (ha pos pins s σ H _ I h) λus s1 hq1=>?_) (eJ h1) rfl));obtain⟨vs,H1,I1,r1,q1⟩:=hq1;obtain⟨a,e,⟨xs,hq⟩,q⟩:=q1;subst e;obtain⟨u,rfl,ru⟩:=vals1 r1;cases ru;obtain⟨its,rv,pt,hz⟩:=I1.list hq;refine call_enumerate_list pt.isList λh' he hit hsz hk=>?_;refine MQ he ?_;have I2:Inv X pins σ H1 {s1 with heap:=h'}:=I1.kept (t':=s1.toks) hk
 refine⟨s1.heap.objs.size+1,[s1.heap.objs.size+1,s1.heap.objs.size],_,_,H1,rfl,I2,sx a s1.heap.objs.size (s1.heap.objs.size+1) (Ls (Mt _)),⟨⟨_,he⟩,hit⟩,λb hb=>?_,q⟩;have hb':s1.heap.objs.size<=b:=by
  rcases JR.mp hb with z|z
  ·rw[z];exact KI _
  ·have z:b=s1.heap.objs.size:=by simpa using z
   rw[z];exact JS _
 exact I1.oP hb' (I1.bc.fresh hb')
end
noncomputable def xI(K:W.Frag)(ws:List Str)(v:Value):Prop:=∃p,v=.ref p/\Ha K p (ws.map V.str)
structure kZ (K:W.Frag) (a:Addr) (D:List (Str×List Str)):Prop where
 low:(a == sysModules)=false
 ex:∃o es ep,K.lookup a=some o/\o.ExactDict/\o.data=.dict es ep/\KTD.Rows (xI K) es.toList D
section
variable {prog:Program} {w:World} {A:Around} {E:Value->Shared->Prop} {s:Shared} {K:W.Frag} {a:Addr} {D:List (Str×List Str)} {k:Str} {tk:Tok}
theorem kZ.typeIs(T:kZ K a D)(X:K.In s.heap):s.TypeIs (.ref a) "dict":=let ⟨o,_,_,ho,hc,_⟩:=T.ex;⟨o,X _ _ ho,hc.1⟩
theorem xa{Q:Option Value->Shared->Prop}(T:kZ K a D)(X:K.In s.heap)(h1:∀d v,KTD.datumAt k D=some d->xI K d v->Q (some v) {s with toks:=s.toks+1})(h2:KTD.datumAt k D=none->Q none {s with toks:=s.toks+1}):
  wpAny (model prog w) A (dictGet a (.str k tk)) Q E s:=by
 obtain⟨o,es,ep,ho,hc,hd,hr⟩:=T.ex;have ho:=X _ _ ho;unfold dictGet
 try with_reducible refine Lb ?_
 refine JJ (wpAny_pyHash_str (JJ (KTD.kt_dictFind_strs (s:={s with toks:=s.toks+1}) ho hd (by obtain⟨l⟩:=es;simpa using hr.exact) ?_)))
 have hq:Q (findBy (λk v=>v.isStr k) es k) {s with toks:=s.toks+1}:=by
  have hf:findBy (λk v=>v.isStr k) es k=(es.toList.find? λe=>e.key.isStr k).map (·.val):=by
   obtain⟨l⟩:=es;simp[findBy]
  rw[hf]
  cases hat:KTD.datumAt k D with
  |some d=>obtain⟨v,hv,hfl⟩:=hr.find_some hat;rw[hv];exact h1 d v hat hfl
  |none=>rw[hr.find_none hat];exact h2 hat
 rw[findBy_of_findIdx?] at hq
 cases hi:es.findIdx? λe=>e.key.isStr k with
 |none=>rw[hi] at hq;exact JV hq
 |some i=>rw[hi] at hq;exact JJ (MT (s:={s with toks:=s.toks+1}) ho hd (JV hq))
end
namespace Y
theorem mH:∀(more kvs:List (Key×V)),((kvs++more).map (·.1)).Nodup->gi kvs more=kvs++more
 |[],kvs,_=>by rw[K6];rfl
 |p::r,kvs,h=>by
  have hn:ia kvs p.1=none:=by
   cases hv:ia kvs p.1 with
   |none=>rfl
   |some v =>
    have hm:=Be hv;rw[Kg,Ku] at h;have:=List.nodup_append.mp h;exact absurd rfl (this.2.2 _ hm _ JU)
  show gi (putK kvs p.1 p.2) r=_;rw[zF p.2 hn,mH r _ (by rw[Kj];exact h),Kj]
  rfl
end Y
noncomputable def jo{α:Type}(xs:List α)(i:Nat)(y:α):List α:=xs.take i++y::xs.drop i
noncomputable def C6:V->List V->Hp->VK->Prop:=λx vs H Q=>∃l xs i y,x=.ref l/\vs=[.int i,y]/\H l=some (.lst xs)/\0<=i/\i<2^63/\xs.length<sizeLine/\Q .aU (upd H l (.lst (jo xs (min i.toNat xs.length) y)))
theorem mR{X:Cx}:Iq X "list.insert" C6:=by
 intro pins s σ H x vs v us Q I rx rv h;obtain⟨l,xs,i,y,rfl,rfl,hH,h0,h1,hz,q⟩:=h;cases rx;obtain⟨u,w',rfl,⟨t,rfl⟩,rw'⟩:=vals2 rv;obtain⟨z,its,n,r,hl,e⟩:=I.sf hH;have hfit:¬ (!Builtin.List.listFitsIndex i)=true:=by
  have:=O9 (k:=i) (by lia) h1
  rw[this];exact JZ
 refine Ma F.slot_list_insert ⟨_,e,rfl⟩ F.entry_list_insert (F.args_list_insert_3 _ _ _) (AutoSeq1.list_insert_list_int_val_1 l its.toArray n i t w' hfit (by rw[JP];lia)) ⟨e,?_⟩
 have el:its.length=xs.length:=hl.symm;refine⟨.aU,_,I.FE (its':=jo its (min i.toNat its.length) w') hH e ?_ ?_ ?_,rfl,q⟩
 ·show (have k:=if i<0 then _ else min i.toNat its.toArray.size;(its.toArray.extract 0 k).push w'++its.toArray.extract k)=_
  rw[JN (by lia)]
  apply Array.toList_inj.mp;unfold jo;simp[NS,KC]
 ·rw[el];unfold jo;exact (r.take _).append (.cons rw' (r.drop _))
 ·unfold jo;rw[JL,J_,Ki,Kq];lia
open Builtin Builtin.Str
open PySem PySem.Spec PyProof PyProof.Rows
open Builtin Builtin.Str
section
variable {prog:Program} {w:World} {A:Around} {E:Value->Shared->Prop} {h:Heap} {g:Array GenState} {d:Drawn} {t:Nat} {os:OsState} {a:Addr} {items:Array Value} {cn:Nat}
theorem BN:typeLookup (.type "list") "keys"=pure none:=am_miss_of_fast (by kernel_rfl)
theorem qT:typeLookup (.type "list") "__getattr__"=pure none:=by rw[typeLookup_type,builtinLookup_eq_fast];kernel_rfl
theorem ya{name:Str}{tk:Tok}{Q:Fin->Shared->Prop}(hx:h.get? a=some {cls:=.type "list",dict:=none,data:=.seq items cn,slots:=#[]})(hmiss:typeLookup (.type "list") name=pure none)(hnc:(["__module__","__name__","__qualname__","__doc__","__annotations__"]:List Str).contains name=false)(hh:A.handled=none)
  (hq:∀h' tk' e,Heap.NewAttrErr h h' e (.ref a) name->E (.ref e) ⟨h',g,d,tk',os⟩) (hsz:name.length+100<=sizeLine:=by size_fits) :
  wpAny (model prog w) A (Builtin.«object.__getattribute__» ⟨[.ref a,.str name tk],[]⟩) Q E ⟨h,g,d,t,os⟩:=by
 have hT:(⟨h,g,d,t,os⟩:Shared).TypeIs (.ref a) "list":=⟨_,hx,rfl⟩;unfold Builtin.«object.__getattribute__»
 repeat (any_goals (first|assumption|wp_step))
 rw[JN (by rw[hnc];decide)]
 repeat (any_goals (first|assumption|wp_step))
 exact wpAny_raiseAttrError hh hq (attrMsg_fits (by decide +kernel) hsz)
theorem Bw{name:Str}{tk:Tok}{R:Result->Shared->Prop}(hx:h.get? a=some {cls:=.type "list",dict:=none,data:=.seq items cn,slots:=#[]})(hmiss:typeLookup (.type "list") name=pure none)(hnc:(["__module__","__name__","__qualname__","__doc__","__annotations__"]:List Str).contains name=false)(hh:A.handled=none)
  (hq:∀h' tk' e,Heap.NewAttrErr h h' e (.ref a) name->R (.error (.ref e)) ⟨h',g,d,tk',os⟩) (hsz:name.length+100<=sizeLine:=by size_fits) :
  codeAny (model prog w) A (.call (.builtin "list.__getattribute__") ⟨[.ref a,.str name tk],[]⟩) R ⟨h,g,d,t,os⟩:=
 codeAny_call_builtin LO.plain F.entry_list_ga (LO.check _ _ _ _ _ _ _ _ (show (⟨h,g,d,t,os⟩:Shared).TypeIs (.ref a) "list" from⟨_,hx,rfl⟩) (F.args_list_getattribute_2 _ _) (ya hx hmiss hnc hh hq hsz))
theorem GA{name:Str}{tk:Tok}{Q:Value->Shared->Prop}(hx:h.get? a=some {cls:=.type "list",dict:=none,data:=.seq items cn,slots:=#[]})(hmiss:typeLookup (.type "list") name=pure none)(hnc:(["__module__","__name__","__qualname__","__doc__","__annotations__"]:List Str).contains name=false)(hh:A.handled=none)
  (hq:∀h' tk' e,Heap.NewAttrErr h h' e (.ref a) name->E (.ref e) ⟨h',g,d,tk',os⟩) (hsz:name.length+100<=sizeLine:=by size_fits) :
  wpAny (model prog w) A (getAttrBy (.ref a) (.str name tk) false) Q E ⟨h,g,d,t,os⟩:=by
 have hT:(⟨h,g,d,t,os⟩:Shared).TypeIs (.ref a) "list":=⟨_,hx,rfl⟩;have f1:=sub_AttributeError;have f2:=LO.lookup;have f3:=LO.bind (.ref a);have f5:=qT
 repeat (any_goals (first|assumption|wp_step))
 refine Bw hx hmiss hnc hh (λh' tk' e x=>?_) hsz;obtain⟨t',u',he⟩:=x.there;show wpAny _ _ (getattributeRaised _ _ _ _ _ _ _) _ _ _;unfold getattributeRaised
 repeat (any_goals (first|assumption|wp_step))
 exact hq _ _ _ x
theorem Bf{name:Str}{Q:Option Value->Shared->Prop}(hx:h.get? a=some {cls:=.type "list",dict:=none,data:=.seq items cn,slots:=#[]})(hmiss:typeLookup (.type "list") name=pure none)(hnc:(["__module__","__name__","__qualname__","__doc__","__annotations__"]:List Str).contains name=false)(hh:A.handled=none)
  (hq:∀h' tk',(∀b o,h.get? b=some o->h'.get? b=some o)->Q none ⟨h',g,d,tk',os⟩) (hsz:name.length+100<=sizeLine:=by size_fits) :
  wpAny (model prog w) A (getAttr? (.ref a) name) Q E ⟨h,g,d,t,os⟩:=by
 have f1:=sub_AttributeError;unfold getAttr? getAttrBy?;refine JJ (wpAny_mkText (JJ (MY (GA hx hmiss hnc hh (λh' tk' e x=>?_) hsz))));obtain⟨t',u',he⟩:=x.there;have k:=x.keeps
 repeat (any_goals (first|assumption|wp_step))
 exact hq _ _ x.keeps
end
section
variable {prog:Program} {w:World} {K:Type} [DecidableEq K] {knd:KeyKind prog w K} {A:Around} {R:Result->Shared->Prop}
theorem iC:plainId "dict.update.loop"=true:=by decide +kernel
theorem hU:entryFor table "dict.update.loop"=some Builtin.«dict.update.loop»:=entryFor_of_fast (by kernel_rfl)
theorem rX(kvs:List (K×Value))(k:K)(v:Value):(stored kvs k v).length<=kvs.length+1:=by
 unfold stored;split
 ·rw[JK];lia
 ·rw[JL];simp
theorem lh:∀(more kvs:List (K×Value)),(merged kvs more).length<=kvs.length+more.length
 |[],kvs=>by unfold merged;simp
 |p::more,kvs=>by
  have h1:=lh more (stored kvs p.1 p.2);have h2:=rX kvs p.1 p.2;have e:merged kvs (p::more)=merged (stored kvs p.1 p.2) more:=rfl;rw[e,J_];lia
theorem BQ{it l dd:Addr}{items:Array Value}{more:List (K×Value)}(hh:A.handled=none)(hn:more.length=items.size)(h1:dd≠it)(h2:dd≠l)(h3:it≠l)(ps:Nat->Addr)(hps:∀i,i<items.size->items[i]?=some (.ref (ps i))/\ps i≠it/\ps i≠dd)(hsz:more.length<=20000):
  ∀(k i:Nat) (s:Shared),items.size-i=k->i<=items.size->s.heap.IsListIter it l i->s.heap.IsList l items->s.heap.DictOf knd dd (merged [] (more.take i)) ->
  (∀j,j<items.size->∃key v,s.heap.IsTuple (ps j) #[key,v]/\∃kk,more[j]?=some (kk,v)/\knd.is kk key=true) ->
  (∀h' tk,h'.DictOf knd dd (merged [] more)->(∀b o,b≠it->b≠dd->s.heap.get? b=some o->h'.get? b=some o)->R (.ok (.ret .none)) {s with heap:=h',toks:=tk}) ->
  codeAny (model prog w) A (.builtin "dict.update.loop" ⟨[.ref dd,.ref it,rawInt i,.none],[]⟩) R s:=by
 intro k
 induction k with
 |zero =>
  intro i s hk hi hit hl hd hp hR;have hin:i=items.size:=by lia
  subst hin;refine Md hU ?_;rw[Mw iC _];show wpAny _ A.in1 (pyNext (.ref it) >>= _) _ _ s;refine JJ (wpAny_pyNext_list_end hh hit hl (by simp) λh' he=>?_)
  refine JJ (JV (JV ?_));refine hR h' s.toks ?_ λb o b1 b2 e=>he b o b1 e;rw[KC (by lia)] at hd
  exact hd.extBut he h1
 |succ k ih =>
  intro i s hk hi hit hl hd hp hR;have hlt:i<items.size:=by lia
  refine Md hU ?_;rw[Mw iC _];show wpAny _ A.in1 (pyNext (.ref it) >>= _) _ _ s;obtain⟨e1,e2,e3⟩:=hps i hlt;refine JJ (Ov hit hl e1 λh' hit' hs'=>?_);obtain⟨key,v,ht,kk,em,hkk⟩:=hp i hlt;have ht':h'.IsTuple (ps i) #[key,v]:=by obtain⟨o,ho,r⟩:=ht;exact⟨o,(hs'.2 _ e2).trans ho,r⟩
  have hd':h'.DictOf knd dd (merged [] (more.take i)):=by obtain⟨o,es,ep,ho,r⟩:=hd;exact⟨o,es,ep,(hs'.2 _ h1).trans ho,r⟩
  refine JJ (Lb (JJ (wpAny_tryCatch ?_)));unfold Dict.pairItems;refine JJ (Nk ht'.typeIs ?_);rw[JQ (by decide)]
  obtain⟨o,ho,hoc,nn,hod⟩:=id ht';refine JJ (Mq ho hod (JV ?_));show wpAny _ A.in1 (holding [key,v] (dictSet dd key v)) _ _ _;refine Lb (wpAny_dictSet_pairs hkk hd' (λh2' hd2 hs2=>?_) ?_)
  rotate_left
  ·exact JX (lh _ _) (JX (by rw[KL,MJ,Ki];exact JX (Nat.min_le_right _ _) hsz) (by decide))
  have et:merged [] (more.take (i+1))=stored (merged [] (more.take i)) kk v:=by
   have hlt':i<more.length:=by lia
   have:more[i]=(kk,v):=by rw[JI hlt'] at em;exact Option.some.inj em
   rw[Na hlt',this];unfold merged;rw[List.foldl_append];rfl
  refine JV ⟨OO iC _,?_⟩;have:=ih (i+1) {s with heap:=h2',toks:=s.toks+1} (by lia) hlt (by obtain⟨o,ho,r⟩:=hit';exact⟨o,(hs2.2 _ (Ll h1)).trans ho,r⟩) (by obtain⟨o,ho,r⟩:=hl;exact⟨o,(hs2.2 _ (Ll h2)).trans ((hs'.2 _ (Ll h3)).trans ho),r⟩) (by rw[et];exact hd2) (λj hj=>by
   obtain⟨key,v,⟨o,ho,r⟩,rr⟩:=hp j hj;obtain⟨f1,f2,f3⟩:=hps j hj;exact⟨key,v,⟨o,(hs2.2 _ f3).trans ((hs'.2 _ f2).trans ho),r⟩,rr⟩) (λh3' tk hd3 hk3=>hR h3' tk hd3 λb o b1 b2 e=>hk3 b o b1 b2 ((hs2.2 _ b2).trans ((hs'.2 _ b1).trans e)))
  exact this
theorem so{E:Value->Shared->Prop}{s:Shared}{l:Addr}{items:Array Value}{cn:Nat}{more:List (K×Value)}{Q:Value->Shared->Prop}(hl:s.heap.get? l=some {cls:=.type "list",dict:=none,data:=.seq items cn,slots:=#[]})(hh:A.handled=none)(hn:more.length=items.size)(hsz:more.length<=20000)
  (ps:Nat->Addr) (hps:∀i,i<items.size->items[i]?=some (.ref (ps i))) (hp:∀j,j<items.size->∃key v,s.heap.IsTuple (ps j) #[key,v]/\∃kk,more[j]?=some (kk,v)/\knd.is kk key=true)
  (h:∀h' tk,h'.DictOf knd s.heap.objs.size (merged [] more)->(∀b o,s.heap.get? b=some o->h'.get? b=some o)->Q (.ref s.heap.objs.size) {s with heap:=h',toks:=tk}) :
  wpAny (model prog w) A (call (.type "dict") [.ref l]) Q E s:=by
 refine callType_codes (Q₁:=λobj s₁=>obj=.ref s.heap.objs.size/\s₁={s with heap:=s.heap.push {cls:=.type "dict",data:=.dict #[]}}) F.kt_called_dict (F.kt_typeCall_dict_1 _) F.entry_dict_init (kt_code_dict_new _ ⟨rfl,rfl⟩) ?_
 rintro obj s₁ ⟨rfl,rfl⟩;have hnew:(s.heap.push {cls:=.type "dict",data:=.dict #[]}).DictOf knd s.heap.objs.size []:=Heap.DictOf.new s.heap;refine⟨hnew.typeIs,F.args_dict_init_2 _ _,?_⟩;unfold Builtin.«dict.__init__»;refine JJ ?_;unfold Builtin.Dict.selfAndRest;refine JJ (wpAny_notOrdered_dict hnew.typeIs ?_);show wpAny _ _ (pure (s.heap.objs.size,[Value.ref l])) _ _ _;refine JV ?_;show wpAny _ _ (Builtin.Dict.updateFrom "dict.__init__" s.heap.objs.size (.ref l) [] .none) _ _ _;unfold Builtin.Dict.updateFrom;have hl1:(s.heap.push {cls:=.type "dict",data:=.dict #[]}).get? l=some {cls:=.type "list",dict:=none,data:=.seq items cn,slots:=#[]}:=JM _ hl;have hT:({s with heap:=s.heap.push {cls:=.type "dict",data:=.dict #[]}}:Shared).TypeIs (.ref l) "list":=⟨_,hl1,rfl⟩
 refine JJ (Nk hT ?_);rw[JQ (by decide)]
 refine JJ ?_;refine Bf hl1 BN (by decide +kernel) hh (λh1 tk1 k1=>?_)
 rw[JQ (show (none:Option Value).isNone=true from rfl)];have hl2:h1.IsList l items:=⟨_,k1 _ _ hl1,rfl,cn,rfl⟩;have up:∀b o,s.heap.get? b=some o->h1.get? b=some o:=λb o e=>k1 b o (JM _ e);obtain⟨od,es,ep,hod,hor⟩:=hnew;have hdl:s.heap.objs.size<h1.objs.size:=Ke (k1 _ _ hod);have hll:l<s.heap.objs.size:=Ke hl;have hpl:∀j,j<items.size->ps j<s.heap.objs.size:=λj hj=>by obtain⟨key,v,⟨o,ho,_⟩,_⟩:=hp j hj;exact Ke ho
 refine JJ (NQ (JJ (MR hl2 (JV ⟨OO iC _,?_⟩))));refine BQ (knd:=knd) (it:=h1.objs.size) (l:=l) (items:=items) (more:=more) (A:=A.in1) hh hn (Kn hdl) (Ls hll) (Ls (Mp hll hdl)) ps (λi hi=>⟨hps i hi,Kn (Mp (hpl i hi) hdl),Kn (hpl i hi)⟩) hsz _ 0 _ rfl (Kh _) ⟨_,Kc _ rfl,rfl,rfl⟩ ?_ ⟨od,es,ep,JM _ (k1 _ _ hod),hor⟩ (λj hj=>?_) (λh' tk hd hk=>⟨rfl,h h' tk hd λb o e=>hk b o ?_ ?_ (JM _ (up b o e))⟩)
 ·obtain⟨o,ho,r⟩:=hl2;exact⟨o,JM _ ho,r⟩
 ·obtain⟨key,v,⟨o,ho,r⟩,rr⟩:=hp j hj;exact⟨key,v,⟨o,JM _ (up _ _ ho),r⟩,rr⟩
 ·exact Kn (Mp (Ke e) hdl)
 ·exact Kn (Ke e)
end
theorem mD{α β:Type}{F:α->β->Prop}:∀{l₁:List α} {l₂:List β},l₁.length=l₂.length->(∀(j:Nat) a b,l₁[j]?=some a->l₂[j]?=some b->F a b)->Paired F l₁ l₂
 |[],[],_,_=>.nil
 |[],_::_,h,_=>by cases h
 |_::_,[],h,_=>by cases h
 |a::l₁,b::l₂,h,f=>.cons (f 0 a b rfl rfl) (mD (Nat.succ.inj h) λj x y hx hy=>f (j+1) x y (by simpa using hx) (by simpa using hy))
noncomputable def Br(K:W.Frag)(H:Hp)(vs:List V)(kvs:List (Key×V)):Prop:=vs.length=kvs.length/\∀(j:Nat) (k:Key) (x:V),kvs[j]?=some (k,x)->∃p,vs[j]?=some (.ref p)/\H p=some (.tup [kV k,x])
noncomputable def EZ(K:W.Frag):List V->Hp->VK->Prop:=λxs H Q=>∃l vs kvs,xs=[.ref l]/\H l=some (.lst vs)/\Br K H vs kvs/\kvs.length<=20000/\∀p,H p=none->Q (.ref p) (upd H p (.dK (gi [] kvs)))
theorem p9{X:Cx}(K:W.Frag)(hc:X.calm=true):bK X (.type "dict") (EZ K):=by
 intro pins s σ H xs us Q I r h;obtain⟨l,vs,kvs,rfl,hl,hp,hk,q⟩:=h;obtain⟨u,rfl,e0⟩:=vals1 r;have e1:u=.ref l:=e0;subst e1;obtain⟨hlen,its,n,hv,hget⟩:=(show bS X.prog X.w H s.heap l (.lst vs) from I.bc l _ hl);have hsz:its.toArray.size=kvs.length:=by rw[<- hp.1,JP,<- Paired.length hv]
 have key:∀j,j<kvs.length->∃p k x,kvs[j]?=some (k,x)/\its[j]?=some (.ref p)/\∃ku xu,s.heap.IsTuple p #[ku,xu]/\iz k ku=true/\RelV x xu:=λj hj=>by
  obtain⟨p,e1,e2⟩:=hp.2 j kvs[j].1 kvs[j].2 (JI hj);obtain⟨u,e3,e4⟩:=Vals.get hv e1;have e5:u=.ref p:=e4;subst e5;obtain⟨_,ts,tv,hT⟩:=(show bS X.prog X.w H s.heap p (.tup [kV kvs[j].1,kvs[j].2]) from I.bc p _ e2);obtain⟨ku,xu,rfl,r1,r2⟩:=vals2 tv;exact⟨p,_,_,JI hj,e3,ku,xu,hT.to,t8 (P:=X.prog) (w:=X.w) r1,r2⟩
 obtain⟨f,hf⟩:=Classical.axiomOfChoice (r:=λ(j:Nat) (y:Addr×Value×Value)=>∀hj:j<kvs.length,s.heap.IsTuple y.1 #[y.2.1,y.2.2]/\iz kvs[j].1 y.2.1=true/\RelV kvs[j].2 y.2.2/\its[j]?=some (.ref y.1)) (λj=>by
  by_cases hj:j<kvs.length
  ·obtain⟨p,k,x,e1,e2,ku,xu,hT,h1,h2⟩:=key j hj;rw[JI hj] at e1;have e1':kvs[j]=(k,x):=Option.some.inj e1;exact⟨(p,ku,xu),λ_=>⟨hT,by rw[e1'];exact h1,by rw[e1'];exact h2,e2⟩⟩
  ·exact⟨(0,.none,.none),λh=>absurd h hj⟩)
 let mv:List (Key×Value):=(List.range kvs.length).map λj=>((kvs[j]?.getD (.inl 0,.aU)).1,(f j).2.2)
 have hmv:mv.length=kvs.length:=by simp[mv]
 have hmj:∀j (hj:j<kvs.length),mv[j]?=some (kvs[j].1,(f j).2.2):=λj hj=>by
  simp only[mv,JW,List.getElem?_range hj,Option.map_some,JI hj,Option.getD_some]
 have at':∀j (hj:j<kvs.length),∃ku xu,s.heap.IsTuple (f j).1 #[ku,xu]/\iz kvs[j].1 ku=true/\RelV kvs[j].2 xu/\its[j]?=some (.ref (f j).1)/\mv[j]?=some (kvs[j].1,xu):=λj hj=>by
  obtain⟨h1,h2,h3,h4⟩:=hf j hj;exact⟨_,_,h1,h2,h3,h4,hmj j hj⟩
 have hKV:KV kvs mv:=by
  refine mD (by rw[hmv]) λj a b ha hb=>?_
  have hj:j<kvs.length:=by
   rcases KG j kvs.length with c|c
   ·exact c
   ·rw[L0.mpr c] at ha;cases ha
  obtain⟨ku,xu,_,_,h2,_,h3⟩:=at' j hj;rw[JI hj] at ha;cases ha;rw[h3] at hb;cases hb;exact⟨rfl,h2⟩
 refine so (knd:=cy X.prog X.w) hget (I.ok.hd hc) (by rw[hmv,hsz]) (by rw[hmv];exact hk) (λj=>(f j).1) (λi hi=>?_) (λj hj=>?_) (λh' tk hd hkp=>?_)
 ·rw[hsz] at hi;obtain⟨_,_,_,_,_,e,_⟩:=at' i hi;rw[KQ];exact e
 ·rw[hsz] at hj;obtain⟨ku,xu,hT,h1,_,_,h3⟩:=at' j hj;exact⟨ku,xu,hT,_,h3,h1⟩
 ·have hz:(gi [] kvs).length<=sizeLine:=by
   have h1:=g_ kvs [];rw[KL] at h1;exact JX (show _<=20000 by lia) (by decide)
  exact⟨.ref s.heap.objs.size,_,I.laid (t':=tk) hkp (JS _) (za hz (Kv.mpr (Ll (Kn I.big))) (hKV.merge .nil) hd),rfl,q _ (I.bc.fresh (JS _))⟩
open PySem PySem.Spec PyProof PyProof.Rows
namespace Z
section
variable {X:Cx} {CX:pZ} {k:Nat} {f C:Addr} {fd:FuncData} {ps:List Str} {sp:Sp} {E:XK} {x m nm:Str} {p pos pos' apos:Pos} {e o i value:Expr} {es:List Expr} {ta tv td ty:TE} {t:TA}
theorem fld(K:W.Frag)(hK:X.K=K)(he:QE X e ta)(hb:autoParam (attributeBase e nm X.env (eval e X.env)=eval e X.env) ℜ0):QE X (.Attribute e nm pos) (wX K ta nm):=by subst hK;exact⟨Eg he.h hb⟩
theorem oi(K:W.Frag)(hK:X.K=K)(ha:QE X o ta)(hv:QE X value tv)(hs:autoParam (swapsWith value (some (.Attribute o nm pos')) pos.line X.env=pure false) ℜ0):QS X (.Assign [.Attribute o nm pos'] value pos) (xn K ta tv nm):=by subst hK;exact⟨Fw ha.h hv.h hs⟩
theorem rZ(K:W.Frag)(hK:X.K=K){pl:Sem Bool}(he:QE X o ta)(c:iE K C)(hm:Meth K C m f)(F:cg X.prog X.w K X.mg X.base CX k f fd ps sp)(hr:bP k X.A)(hb:Binds K fd ps [])(hx:Passes CX X E)(ha:QA X (e::es) t)
  (hst:autoParam (starEach (e::es) X.env=(false,eval e X.env)::starEach es X.env) ℜ0) (hpl:autoParam ((backTo pos (starEach es X.env)).any (·.1)=false) ℜ0)
  (ht:autoParam (eval (.Call (.Attribute o m apos) (e::es) [] pos) X.env=(do
   let ov <- eval o X.env
   standAt apos.atName
   let (f,first) <- holding [ov] (getMethod ov m pl)
   callWith pos f first (backTo pos (starEach (e::es) X.env)) (backToKw pos (keywordEach [] X.env)))) ℜ0) :
  QE X (.Call (.Attribute o m apos) (e::es) [] pos) (lK C m sp [] E ta t):=by subst hK;exact⟨AK (pl:=pl) he.h c hm F hr hb .nil hx ha.h hst hpl ht⟩
theorem d_(K:W.Frag)(hK:X.K=K){pl:Sem Bool}(he:QE X o ta)(c:iE K C)(hm:Meth K C m f)(F:cg X.prog X.w K X.mg X.base CX k f fd ps sp)(hr:bP k X.A)(hb:Binds K fd ps [])(hx:Passes CX X E)
  (ht:autoParam (eval (.Call (.Attribute o m apos) [] [] pos) X.env=(do
   let ov <- eval o X.env
   standAt apos.atName
   let (f,first) <- holding [ov] (getMethod ov m pl)
   callWith pos f first (backTo pos (starEach [] X.env)) (backToKw pos (keywordEach [] X.env)))) ℜ0) :
  QE X (.Call (.Attribute o m apos) [] [] pos) (lK C m sp [] E ta oH):=by subst hK;exact⟨ze (pl:=pl) he.h c hm F hr hb .nil hx ht⟩
theorem make(K:W.Frag)(hK:X.K=K)(M:Mk K C f)(F:cg X.prog X.w K X.mg X.base CX k f fd ps sp)(hr:bP (k+1) X.A)(hg:Gl X x)(hm:X.mg x=some (.ref C))(hb:Binds K fd ps [])(hx:Passes CX X E)
  (ha:QA X (e::es) t) (hdb:autoParam ((x ==("__debug__":Str))=false) ℜ1) (he:autoParam (starEach (e::es) X.env=(false,eval e X.env)::starEach es X.env) ℜ0) (hpl:autoParam ((backTo pos (starEach es X.env)).any (·.1)=false) ℜ0) :
  QE X (.Call (.Name x p) (e::es) [] pos) (pH C sp [] E t):=by subst hK;exact⟨AA M F hr hg hm hb .nil hx ha.h hdb he hpl⟩
theorem xm(hu:X.A.units+1<cLine)(ho:QE X o td)(hi:QE X i ty)(hs:xl i:=by exactλ_ _=>rfl):QE X (.Subscript o i pos) (pO td ty):=⟨AU hu ho.h hi.h hs⟩
theorem dput(hu:X.A.units+1<cLine)(ho:QE X o td)(hi:QE X i ty)(hv:QE X value tv)(hs:autoParam (swapsWith value (some (.Subscript o i pos')) pos.line X.env=pure false) ℜ0):QS X (.Assign [.Subscript o i pos'] value pos) (oU td ty tv):=⟨Bs hu ho.h hi.h hv.h hs⟩
end
end Z
namespace Ap
theorem wX(K:W.Frag)(ta:TE)(f:Str)(σ:St)(H:Hp)(Q:VK):L2.wX K ta f σ H Q=ta σ H λx H1=>∃a C dx fs v,x=.ref a/\H1 a=some (.ins C dx fs)/\iE K C/\bf K C f/\fs.lookup f=some v/\Q v H1:=rfl
theorem xn(K:W.Frag)(ta tv:TE)(f:Str)(D:Ends)(σ:St)(H:Hp):L2.xn K ta tv f D σ H=tv σ H λy H1=>ta σ H1 λx H2=>∃a C dx fs,x=.ref a/\H2 a=some (.ins C dx fs)/\iE K C/\bf K C f/\fs.length<1000/\D.nx σ (upd H2 a (.ins C dx (cT f y fs))):=rfl
theorem lK(C:Addr)(m:Str)(sp:Sp)(dvs:List V)(E:XK)(ta:TE)(t:TA)(σ:St)(H:Hp)(Q:VK):L2.lK C m sp dvs E ta t σ H Q=ta σ H λx H1=>∃a dx fs,x=.ref a/\H1 a=some (.ins C dx fs)/\fs.lookup m=none/\t σ H1 λvs H2=>sp (x::(vs++dvs)) H2 Q E:=rfl
theorem pH(C:Addr)(sp:Sp)(dvs:List V)(E:XK)(t:TA)(σ:St)(H:Hp)(Q:VK):L2.pH C sp dvs E t σ H Q=t σ H λvs H1=>∀x dx,H1 x=none->H1 dx=none->dx≠x->sp (.ref x::(vs++dvs)) (upd (upd H1 dx (.own x)) x (.ins C dx [])) (λv H2=>v=.aU/\Q (.ref x) H2) E:=rfl
theorem pO(td ty:TE)(σ:St)(H:Hp)(Q:VK):L2.pO td ty σ H Q=td σ H λx H1=>ty σ H1 λy H2=>∃a v,x=.ref a/\wk H2 a y (some v)/\Q v H2:=rfl
theorem oU(td ty tv:TE)(D:Ends)(σ:St)(H:Hp):L2.oU td ty tv D σ H=tv σ H λv H1=>td σ H1 λx H2=>ty σ H2 λy H3=>∃a H4,x=.ref a/\FZ H3 a y v H4/\D.nx σ H4:=rfl
end Ap
section
variable {prog:Program} {w:World} {A:Around} {E:Value->Shared->Prop} {s:Shared} {K:W.Frag} {a:Addr} {D:List (Str×List Str)} {k:Str} {tk:Tok}
theorem vX{ws:List Str}{Q:Value->Shared->Prop}(T:kZ K a D)(X:K.In s.heap)(hk:KTD.datumAt k D=some ws)(h:∀v,xI K ws v->Q v {s with toks:=s.toks+1}):wpAny (model prog w) A (getItem (.ref a) (.str k tk)) Q E s:=by
 have hT:=T.typeIs X;unfold getItem
 try with_reducible refine Lb ?_
 refine JJ (wpAny_sequenceKey hT (by decide) ?_)
 refine JJ (KJ (name:=Str.ofString "__getitem__") hT PySem.F.slot_dict_getitem
  (KZ PySem.F.slot_dict_getitem hT PySem.F.entry_dict_getitem ?_ (args_dict_getitem _ _)))
 show wpAny _ _ (dictGet a (.str k tk) >>= _) _ _ s;refine JJ (xa T X (λd v e r=>?_) λe=>?_)
 ·rw[hk] at e;cases e;exact JV ⟨v,rfl,JV (h v r)⟩
 ·rw[hk] at e;cases e
end
variable{Q:Value->Shared->Prop}{X:Cx}{body e:Expr}{c' d f kS:Addr}{D:List (Str×List Str)}{a b:List Nat}{q x:Str}{e1 ep i k:Nat}{α:Type}{p:Array Nat}{N:List Str}{σf:List (Option V)}{scope:Scope}{cl:List (Str×Addr)}{params:Arguments}{ctv pm:Value}{H H1:Hp}{h h':Heap}{P:PySem.Fin->Shared->Prop}{us:List Value}{kz:List Int}{xs:List V}{K:W.Frag}{es:Array DictEntry}{prog:Program}
noncomputable def xG(K:W.Frag)(D:List (Str×List Str))(te:TE):TE:=λσ H Q=>te σ H λy H1=>∃k ws,y=.str k/\KTD.datumAt k D=some ws/\∀p,Ha K p (ws.map V.str)->Q (.ref p) H1
theorem Fh{o:Expr}{te:TE}{pos:Pos}(ho:PE X o (tC (.ref d)))(hD:kZ X.K d D)(he:PE X e te)(hs:xl e):PE X (.Subscript o e pos) (xG X.K D te):=by
 intro pins s σ H Q I h;refine uu PySem.F.slot_dict_getitem.lookup hs (cz (ho pins s σ H (λv H'=>v=.ref d/\H'=H) I ⟨rfl,rfl⟩) λu s1 hq1=>?_);obtain⟨x,H1,I1,rx,ex,eh⟩:=hq1;subst ex eh;obtain rfl:u=Value.ref d:=rx;refine cz (he pins s1 σ H1 _ I1 h) λiv s2 hq2=>?_;obtain⟨y,H2,I2,ry,k,ws,ek,e1,q⟩:=hq2;subst ek;obtain⟨t,rfl⟩:=ry;refine⟨hD.typeIs I2.pJ,vX hD I2.pJ e1 λv r=>?_⟩;obtain⟨p,rfl,r⟩:=r;exact⟨.ref p,H2,I2.tok _,rfl,q p r⟩
theorem Z.seq{tg l:Expr}{tl:TE}(K:W.Frag)(hK:X.K=K)(hl:QE X l tl):QI X tg l (yu K tl):=by subst hK;exact⟨FG hl.h⟩
theorem Ap.yu(K:W.Frag)(tl:TE)(σ:St)(H:Hp)(R:It->Hp->Prop):L2.yu K tl σ H R=tl σ H λx H1=>∃a,x=V.ref a/\(((∃xs,cf K H1 a xs)/\R (wO K a) H1)\/((∃xs,bB K H1 a xs)/\R (uV K a) H1)):=rfl
namespace Y
noncomputable def Ia:V->List V->Hp->VK->Prop:=λx vs H Q=>∃(a:Addr) (ws:List Str) (k:Str) (j:Nat),x=.ref a/\H a=some (.lst (ws.map V.str))/\vs=[.str k]/\ws[j]?=some k/\(∀m,m<j->ws[m]?≠some k)/\Q (.int (j:Nat)) H
theorem Cj:Iq X "list.index" Ia:=by
 intro pins s σ H x xs v us Q I rx rs h;obtain⟨a,ws,k,j,rfl,hH,rfl,hj,hno,q⟩:=h;cases rx;obtain⟨u,rfl,t,rfl⟩:=vals1 rs;obtain⟨z,its,n,r,hl,e⟩:=I.sf hH;obtain⟨t',hit⟩:=iJ r j k hj;have hjl:j<ws.length:=(JO.mp hj).1;rw[JK] at z hl;have hji:j<its.toArray.size:=by rw[JP];lia
 have sz:(sizeLine:Int)<2^63-1:=by decide
 have hje:its.toArray[j]=.str k t':=by
  have:its.toArray[j]?=some (.str k t'):=by rw[KQ];exact hit
  exact (LL.mp this).2
 have hall:∀(m:Nat) (hm:m<its.toArray.size),∃y ty,its.toArray[m]=.str y ty/\ws[m]?=some y:=λm hm=>by
  have hm':m<ws.length:=by rw[JP] at hm;lia
  have e1:=JI hm';obtain⟨ty,hy⟩:=iJ r m _ e1;have:its.toArray[m]?=some (.str ws[m] ty):=by rw[KQ];exact hy
  exact⟨_,ty,(LL.mp this).2,e1⟩
 refine Ma PySem.F.slot_list_index ⟨_,e,rfl⟩ PySem.F.entry_list_index (PySem.F.args_list_index_2 _ _) (SeqAt.list_indexAt a its.toArray n none _ (.str k t) (λy=>match y with|.str y _=>y == k|_=>false) j hji (by lia) (by rw[hje];exact KY k) λm hm hmj=>?_) ⟨e,λy hy=>?_,⟨.int (j:Nat),H,I.tok _,⟨_,rfl⟩,q⟩⟩
 ·obtain⟨y,ty,ey,ew⟩:=hall m hm;rw[ey];exact Kv.mpr λz=>hno m hmj (by rw[ew,z])
 ·obtain⟨m,hm,rfl⟩:=Array.mem_iff_getElem.mp hy;obtain⟨y,ty,ey,ew⟩:=hall m hm;rw[ey];exact SeqAt.EqAt.str_str _ _ _ _
end Y
open PySem PySem.Spec PyProof PyProof.Rows PySem.W
namespace SP
section
variable (k:Nat->Int)
noncomputable def R(i j:Nat):Prop:=k i<k j\/(k i=k j/\i<j)
variable {k}
theorem R.le{a b:Nat}(h:R k a b):k a<=k b:=by unfold R at h;lia
end
structure PI (n m:Nat) (p:Array Nat) (a:List Nat):Prop where
 eq:p.toList=a++List.range' m (n-m)
 perm:a.Perm (List.range m)
 le:m<=n
section
variable {n m:Nat} {p:Array Nat} {a:List Nat}
theorem PI.len(h:PI n m p a):a.length=m:=by rw[h.perm.length_eq,Lo]
theorem PI.lt(h:PI n m p a){x:Nat}(hx:x∈a):x<m:=LN.mp (h.perm.mem_iff.mp hx)
theorem PI.size(h:PI n m p a):p.size=n:=by
 have:=h.len;have:=h.le;rw[<- K0,h.eq,JL,List.length_range',h.len];lia
theorem PI.at(h:PI n m p a){x:Nat}(hi:a[i]?=some x):p.getD i 0=x:=by
 have:p[i]?=some x:=by
  rw[<- Kx,h.eq,Ks (JO.mp hi).1];exact hi
 rw[NA,this];rfl
theorem PI.nx(h:PI n m p a)(hm:m<n):p.getD m 0=m:=by
 have:p[m]?=some m:=by
  rw[<- Kx,h.eq,Kk (by rw[h.len];exact JS m),h.len,Li,List.getElem?_range' (by lia)];simp
 rw[NA,this];rfl
theorem PI.step(h:PI n m p a)(hm:m<n):PI n (m+1) p (a++[m]):=by
 refine⟨?_,?_,hm⟩
 ·rw[h.eq,Kj,show n-m=(n-(m+1))+1 by lia,Lw];rfl
 ·rw[Oq];exact h.perm.append_right [m]
theorem PI.last(h:PI n m p a){y:Nat}(e:a=b++[y]):p.getD (m-1) 0=y:=by
 refine h.at ?_;have:=h.len;rw[e,JL] at this;simp only[J_,KL] at this;rw[e,Kk (by lia),show m-1-b.length=0 by lia];rfl
end
theorem yx{xs:Array α}{l:Nat}{y:α}(hy:xs[k]?=some y)(hl:l<=k):(bubble xs k (k-l)).toList=xs.toList.take l++y::(xs.toList.drop l).take (k-l)++xs.toList.drop (k+1):=by
 have hk:k<xs.size:=(LL.mp hy).1;have hL:xs.toList.length=xs.size:=by simp
 apply NM;intro i;rw[Kx,getElem?_bubble hk _ (by lia),show k-(k-l)=l by lia]
 rw[Kj,Mx];have ht:(xs.toList.take l).length=l:=by rw[Ki];lia
 rw[ht];by_cases h1:i<l
 ·rw[JQ h1,JN (by lia),JN (by lia),Ly,JQ h1,Kx]
 ·rw[JN h1];by_cases h2:i=l
  ·subst h2;rw[JQ rfl,Li,hy];rfl
  ·rw[JN h2,show i-l=(i-l-1)+1 by lia,Lj,List.getElem?_cons_succ,Mx]
   have hm:((xs.toList.drop l).take (k-l)).length=k-l:=by rw[Ki,Kq];lia
   rw[hm];by_cases h3:i-l-1<k-l
   ·rw[JQ h3,JQ (by lia),Ly,JQ h3,KR,Kx]
    congr 1;lia
   ·rw[JN h3,JN (by lia),KR,Kx]
    congr 1;lia
theorem yy{xs:Array α}{j:Nat}(hi:i<=j)(hj:j<=xs.size):(mirror xs i j ((j-i) / 2)).toList=xs.toList.take i++((xs.toList.drop i).take (j-i)).reverse++xs.toList.drop j:=by
 have hL:xs.toList.length=xs.size:=by simp
 apply NM;intro k;rw[Kx,getElem?_mirror_all hj,Kj,Mx];have ht:(xs.toList.take i).length=i:=by rw[Ki];lia
 have hm:((xs.toList.drop i).take (j-i)).length=j-i:=by rw[Ki,Kq];lia
 rw[ht];by_cases h1:k<i
 ·rw[JQ h1,JN (by lia),Ly,JQ h1,Kx]
 ·rw[JN h1,Mx,LQ,hm];by_cases h2:k<j
  ·rw[JQ (by lia),JQ (by lia),List.getElem?_reverse (by lia),hm,Ly,JQ (by lia),KR,Kx]
   congr 1;lia
  ·rw[JN (by lia),JN (by lia),KR,Kx]
   congr 1;lia
theorem PI.rev{n m:Nat}{c:List Nat}(h:PI n m p (b++c)):PI n m (kas_rev p b.length m) (b++c.reverse):=by
 have hl:b.length+c.length=m:=by rw[<- h.len,JL]
 refine⟨?_,((List.reverse_perm c).append_left b).trans h.perm,h.le⟩;unfold kas_rev;rw[yy (by lia) (by rw[h.size];exact h.le),h.eq,Kj b c,MP,N4,show m-b.length=c.length by lia,MP,<- Kj b c,List.drop_left' (by rw[JL];exact hl)]
theorem n_{m:Nat}(h:a.length=m)(hm:1<=m):∃b y,a=b++[y]:=by
 rcases OD a with rfl|⟨b,y,rfl⟩
 ·cases h;exact absurd hm (by decide)
 ·exact⟨b,y,by simp⟩
section
variable {k:Nat->Int} {n:Nat} {cmp:Nat->Nat->(Bool->Shared->Prop)->Shared->Prop} {I:Shared->Prop}
noncomputable def pB(k:Nat->Int)(n:Nat)(cmp:Nat->Nat->(Bool->Shared->Prop)->Shared->Prop)(I:Shared->Prop):Prop:=∀i j C s,i<n->j<n->I s->(∀s',I s'->C (decide (k i<k j)) s')->cmp i j C s
theorem qP(hc:pB k n cmp I){G:Nat->Shared->Prop}:∀(f m:Nat) (a:List Nat) (s:Shared),PI n m p a->1<=m->f=n-m->a.Pairwise (R k)->I s ->
  (∀m' a' s',PI n m' p a'->m<=m'->a'.Pairwise (R k)->I s'->(∀b y,a'=b++[y]->m'<n->k m'<k y)->G m' s')->(kas_asc p f m).kasWp cmp G s
 |0,m,a,s,h,h1,hf,hp,hI,g=>g m a s h (JS m) hp hI λ_ _ _ hl=>by have:=h.le;lia
 |f+1,m,a,s,h,h1,hf,hp,hI,g=>by
  have hm:m<n:=by lia
  obtain⟨b,y,e⟩:=n_ h.len h1;show cmp (p.getD m 0) (p.getD (m-1) 0) _ s;rw[h.nx hm,h.last e];have hy:y<m:=h.lt (by rw[e];simp)
  refine hc m y _ s hm (by lia) hI λs' hI'=>?_
  by_cases c:k m<k y
  ·rw[Kw c];exact g m a s' h (JS m) hp hI' λb' y' e' _=>by
    rw[e] at e';have:[y]=[y']:=(List.append_inj' e' rfl).2
    cases this;exact c
  ·rw[Ko c];refine qP hc f (m+1) (a++[m]) s' (h.step hm) (by lia) (by lia) ?_ hI' λm' a' s2 h' hm' hp' hI2 gl=>g m' a' s2 h' (by lia) hp' hI2 gl
   refine K_.mpr ⟨hp,by simp,λx hx z hz=>?_⟩
   rw[Ka.mp hz];have hxm:=h.lt hx;have:k x<=k y:=by
    rw[e] at hx hp;rcases K8.mp hx with hx|hx
    ·exact ((K_.mp hp).2.2 x hx y (by simp)).le
    ·rw[Ka.mp hx];exact O0 _
   unfold R;lia
structure DI (k:Nat->Int) (b c:List Nat):Prop where
 FI:b.Pairwise λx y=>R k y x
 less:∀y∈b,∀x∈c,k x<k y
 one:∀x∈c,∀y∈c,k x=k y
 up:c.Pairwise (· < ·)
theorem DI.rise{c:List Nat}(h:DI k b c):(b++c.reverse).reverse.Pairwise (R k):=by
 rw[Ny,My];refine K_.mpr ⟨?_,Nb.mpr h.FI,λx hx y hy=>.inl (h.less y (LA.mp hy) x hx)⟩;exact Oe (λ{x y} hx hy hl=>.inr ⟨h.one x hx y hy,hl⟩) h.up
theorem DI.next{c:List Nat}{x:Nat}(h:DI k b c)(hc:c≠[])(hx:∀y∈c,k x<k y):DI k (b++c.reverse) [x]:=by
 refine⟨K_.mpr ⟨h.FI,Nb.mpr (Oe (λ{x y} hx hy hl=>.inr ⟨h.one x hx y hy,hl⟩) h.up),λy hy z hz=>.inl (h.less y hy z (LA.mp hz))⟩,λy hy z hz=>?_,λy hy z hz=>?_,by simp⟩
 ·rw[Ka.mp hz];rcases K8.mp hy with hy|hy
  ·obtain⟨w,hw⟩:=NU c hc;exact Int.lt_trans (hx w hw) (h.less y hy w hw)
  ·exact hx y (LA.mp hy)
 ·rw[Ka.mp hy,Ka.mp hz]
theorem DI.more{c:List Nat}{x:Nat}(h:DI k b c)(he:∀y∈c,k x=k y)(hc:c≠[])(hl:∀y∈c,y<x):DI k b (c++[x]):=by
 refine⟨h.FI,λy hy z hz=>?_,λy hy z hz=>?_,K_.mpr ⟨h.up,by simp,λy hy z hz=>by rw[Ka.mp hz];exact hl y hy⟩⟩
 ·rcases K8.mp hz with hz|hz
  ·exact h.less y hy z hz
  ·rw[Ka.mp hz];obtain⟨w,hw⟩:=NU c hc;rw[he w hw];exact h.less y hy w hw
 ·rcases K8.mp hy with hy|hy<;>rcases K8.mp hz with hz|hz
  ·exact h.one y hy z hz
  ·rw[Ka.mp hz];exact (he y hy).symm
  ·rw[Ka.mp hy];exact he z hz
  ·rw[Ka.mp hy,Ka.mp hz]
theorem jN(hc:pB k n cmp I){G:Array Nat×Nat×Nat->Shared->Prop}:∀(f:Nat) (p:Array Nat) (m q:Nat) (b c:List Nat) (s:Shared),PI n m p (b++c)->c.length=q+1->DI k b c->f=n-m->I s ->
  (∀p' m' q' b' c' s',PI n m' p' (b'++c')->c'.length=q'+1->DI k b' c'->I s'->G (p',m',q') s')->(kas_desc f p m q).kasWp cmp G s
 |0,p,m,q,b,c,s,h,hl,hd,hf,hI,g=>g p m q b c s h hl hd hI
 |f+1,p,m,q,b,c,s,h,hl,hd,hf,hI,g=>by
  have hm:m<n:=by lia
  obtain⟨c0,y,e⟩:=n_ hl (by lia)
  have hbl:b.length+(q+1)=m:=by rw[<- hl,<- JL,h.len]
  have ne:c≠[]:=by rw[e];simp
  have hy:y∈c:=by rw[e];simp
  have hya:y<m:=h.lt (Kl _ hy);have e1:p.getD m 0=m:=h.nx hm;have e2:p.getD (m-1) 0=y:=h.last (b:=b++c0) (by rw[e,Kj])
  show cmp (p.getD m 0) (p.getD (m-1) 0) _ s;rw[e1,e2];refine hc m y _ s hm (by lia) hI λs' hI'=>?_
  by_cases c1:k m<k y
  ·rw[Kw c1];have hx:∀z∈c,k m<k z:=λz hz=>by rw[hd.one z hz y hy];exact c1
   show KasT.kasWp cmp (if q > 0 then _ else _) G s'
   by_cases hq:q > 0
   ·rw[JQ hq,show m-(q+1)=b.length by lia]
    exact jN hc f _ (m+1) 0 (b++c.reverse) [m] s' (h.rev.step hm) rfl (hd.next ne hx) (by lia) hI' g
   ·rw[JN hq];have e3:c.reverse=c:=by
     have:c.length=1:=by lia
     obtain⟨z,rfl⟩:=O1.mp this;rfl
    exact jN hc f p (m+1) 0 (b++c.reverse) [m] s' (by rw[e3];exact h.step hm) rfl (hd.next ne hx) (by lia) hI' g
  ·rw[Ko c1];show cmp y m _ s';refine hc y m _ s' (by lia) hm hI' λs2 hI2=>?_
   by_cases c2:k y<k m
   ·rw[Kw c2];exact g p m q b c s2 h hl hd hI2
   ·rw[Ko c2];refine jN hc f p (m+1) (q+1) b (c++[m]) s2 (by rw[<- Kj];exact h.step hm) (by rw[JL,hl];rfl) (hd.more (λz hz=>?_) ne λz hz=>h.lt (Kl _ hz)) (by lia) hI2 g
    rw[hd.one z hz y hy];lia
theorem uj(hc:pB k n cmp I){G:Nat×Array Nat->Shared->Prop}{m:Nat}{s:Shared}(h:PI n m p a)(h1:1<=m)(hr:a.reverse.Pairwise (R k))(hI:I s)
  (g:∀m' p' a' s',PI n m' p' a'->1<=m'->a'.Pairwise (R k)->I s'->G (m',p') s'):(kas_tail3 m n p).kasWp cmp G s:=by
 unfold kas_tail3;rw[MD];have hv:=PI.rev (b:=[]) (c:=a) h;exact qP hc (n-m) m a.reverse s hv h1 rfl hr hI λm' a' s' h' hm' hp' hI' _=>g m' _ a' s' h' (by lia) hp' hI'
theorem tJ(hc:pB k n cmp I){G:Nat×Array Nat->Shared->Prop}{m:Nat}{s:Shared}(h:PI n m p a)(hm:m<n)(hd:DI k a [m])(hI:I s)
  (g:∀m' p' a' s',PI n m' p' a'->1<=m'->a'.Pairwise (R k)->I s'->G (m',p') s'):(kas_descPart m n p).kasWp cmp G s:=by
 unfold kas_descPart;rw[MD];refine jN hc (n-(m+1)) p (m+1) 0 a [m] s (h.step hm) rfl hd rfl hI λp' m' q' b' c' s' h' hl' hd' hI'=>?_;have hbl:b'.length+(q'+1)=m':=by rw[<- hl',<- JL,h'.len]
 show KasT.kasWp cmp (if q' > 0 then _ else _) G s'
 by_cases hq:q' > 0
 ·rw[JQ hq];show (kas_tail3 m' n (kas_rev p' (m'-(q'+1)) m')).kasWp cmp G s';rw[show m'-(q'+1)=b'.length by lia]
  exact uj hc h'.rev (by lia) hd'.rise hI' g
 ·rw[JN hq];have e3:c'.reverse=c':=by
   have:c'.length=1:=by lia
   obtain⟨z,rfl⟩:=O1.mp this;rfl
  exact uj hc h' (by lia) (by rw[<- e3];exact hd'.rise) hI' g
theorem zW(hc:pB k n cmp I){G:Nat×Array Nat->Shared->Prop}{s:Shared}(hn:1<=n)(hI:I s)
  (g:∀m' p' a' s',PI n m' p' a'->1<=m'->a'.Pairwise (R k)->I s'->G (m',p') s'):(kas_count n (List.toArray (List.range n))).kasWp cmp G s:=by
 unfold kas_count;rw[MD];have h0:PI n 1 (List.toArray (List.range n)) [0]:=by
  refine⟨?_,List.Perm.refl _,hn⟩;show List.range n=[0]++List.range' 1 (n-1);rw[Nn,show n=(n-1)+1 by lia,Lw];rfl
 refine qP hc (n-1) 1 [0] s h0 (JS 1) rfl (by simp) hI λm a s' h hm hp hI' gl=>?_
 show KasT.kasWp cmp (if (m == n)=true then _ else _) G s'
 by_cases e:m=n
 ·subst e;rw[JQ (KY m)];exact g m _ a s' h hm hp hI'
 ·rw[JN (by simpa using e)]
  have hmn:m<n:=by have:=h.le;lia
  obtain⟨b,y,ea⟩:=n_ h.len hm;have ky:=gl b y ea hmn;have hya:y<m:=h.lt (by rw[ea];simp)
  by_cases h2:m > 1
  ·rw[JQ h2];obtain⟨x,r,ex⟩:∃x r,a=x::r:=by
    cases a with
    |nil=>have:=h.len;rw[KL] at this;lia
    |cons x r=>exact⟨x,r,rfl⟩
   have hxa:x<m:=h.lt (by rw[ex];simp)
   show cmp ((List.toArray (List.range n)).getD 0 0) ((List.toArray (List.range n)).getD (m-1) 0) _ s';rw[h.at (i:=0) (x:=x) (by rw[ex];rfl),h.last ea]
   refine hc x y _ s' (by lia) (by lia) hI' λs2 hI2=>?_
   by_cases c:k x<k y
   ·rw[Kw c];exact g m _ a s2 h hm hp hI2
   ·rw[Ko c];have hv:=PI.rev (b:=[]) (c:=a) h;refine tJ hc hv hmn ⟨Nb.mpr hp,λz hz w hw=>?_,λz hz w hw=>by rw[Ka.mp hz,Ka.mp hw],by simp⟩ hI2 g
    rw[Ka.mp hw];have hz':=LA.mp hz;have hxz:k x<=k z:=by
     rw[ex] at hz' hp;rcases JR.mp hz' with rfl|hz'
     ·exact O0 _
     ·exact ((Kz.mp hp).1 z hz').le
    lia
  ·rw[JN h2];have hm1:m=1:=by lia
   have hb:b=[]:=by
    have:=h.len;rw[ea,JL,hm1] at this;simp only[J_,KL] at this;exact LW.mp (by lia)
   subst hb;refine tJ hc h hmn ⟨by rw[ea];simp,λz hz w hw=>?_,λz hz w hw=>by rw[Ka.mp hz,Ka.mp hw],by simp⟩ hI' g
   rw[Ka.mp hw];rw[ea] at hz;rw[Ka.mp hz];exact ky
theorem j_(hc:pB k n cmp I){G:Nat->Shared->Prop}{t:Nat}(h:PI n t p a)(ht:t<n)(hp:a.Pairwise (R k)):∀(f l r:Nat) (s:Shared),l<=r->r<=t->r-l<=f->(∀i x,i<l->a[i]?=some x->k x<=k t)->(∀i x,r<=i->a[i]?=some x->k t<k x)->I s ->
  (∀l' s',l'<=t->(∀i x,i<l'->a[i]?=some x->k x<=k t)->(∀i x,l'<=i->a[i]?=some x->k t<k x)->I s'->G l' s')->(kas_place p t f l r).kasWp cmp G s
 |0,l,r,s,h1,h2,h3,hlo,hhi,hI,g=>g l s (by lia) hlo (λi x hi e=>hhi i x (by lia) e) hI
 |f+1,l,r,s,h1,h2,h3,hlo,hhi,hI,g=>by
  show KasT.kasWp cmp (if l >= r then _ else _) G s
  by_cases hlr:l >= r
  ·rw[JQ hlr];exact g l s (by lia) hlo (λi x hi e=>hhi i x (by lia) e) hI
  ·rw[JN hlr];have hmid:(l+r) / 2<a.length:=by rw[h.len];lia
   have em:a[(l+r) / 2]?=some a[(l+r) / 2]:=JI hmid;have hma:a[(l+r) / 2]<t:=h.lt (Kf hmid);have mono:∀i j x y,i<=j->a[i]?=some x->a[j]?=some y->k x<=k y:=λi j x y hij ex ey=>by
    rcases KG i j with c|c
    ·obtain⟨hi,rfl⟩:=JO.mp ex;obtain⟨hj,rfl⟩:=JO.mp ey;exact (LM.mp hp i j hi hj c).le
    ·have:i=j:=Nat.le_antisymm hij c;subst this;rw[ex] at ey;cases ey;exact O0 _
   show cmp (p.getD t 0) (p.getD ((l+r) / 2) 0) _ s;rw[h.nx ht,h.at em];refine hc t _ _ s ht (by lia) hI λs' hI'=>?_
   by_cases c:k t<k a[(l+r) / 2]
   ·rw[Kw c];exact j_ hc h ht hp f l ((l+r) / 2) s' (by lia) (by lia) (by lia) hlo (λi x hi e=>Int.lt_of_lt_of_le c (mono _ i _ x hi em e)) hI' g
   ·rw[Ko c];exact j_ hc h ht hp f ((l+r) / 2+1) r s' (by lia) h2 (by lia) (λi x hi e=>Int.le_trans (mono i _ x _ (by lia) e em) (by lia)) hhi hI' g
theorem yN(hc:pB k n cmp I){G:Array Nat->Shared->Prop}:∀(f:Nat) (p:Array Nat) (t:Nat) (a:List Nat) (s:Shared),PI n t p a->a.Pairwise (R k)->f=n-t->I s ->
  (∀p' a' s',PI n n p' a'->a'.Pairwise (R k)->I s'->G p' s')->(kas_bin f p t).kasWp cmp G s
 |0,p,t,a,s,h,hp,hf,hI,g=>by
  have:t=n:=by have:=h.le;lia
  subst this;exact g p a s h hp hI
 |f+1,p,t,a,s,h,hp,hf,hI,g=>by
  have ht:t<n:=by lia
  show KasT.kasWp cmp ((kas_place p t t 0 t).bind _) G s;rw[MD];refine j_ hc h ht hp t 0 t s (Kh _) (JS _) (by lia) (λi x hi _=>absurd hi (LH i)) (λi x hi e=>?_) hI λl s' hl hlo hhi hI'=>?_
  ·have:=(JO.mp e).1;rw[h.len] at this;lia
  ·have et:p[t]?=some t:=by
    rw[<- Kx,h.eq,Kk (by rw[h.len];exact JS t),h.len,Li,List.getElem?_range' (by lia)];simp
   have hla:l<=a.length:=by rw[h.len];exact hl
   have e1:(bubble p t (t-l)).toList=(a.take l++t::a.drop l)++List.range' (t+1) (n-(t+1)):=by
    rw[yx et hl,h.eq,Nu hla,Nv hla,show n-t=(n-(t+1))+1 by lia,Lw]
    have e2:(a.drop l).length=t-l:=by rw[Kq,h.len]
    have e3:∀r:List Nat,(a++t::r).drop (t+1)=r:=λr=>by
     rw[show a++t::r=(a++[t])++r by simp]
     exact List.drop_left' (by rw[JL,h.len];rfl)
    rw[List.take_left' e2,e3]
   have hP:PI n (t+1) (bubble p t (t-l)) (a.take l++t::a.drop l):=by
    refine⟨e1,?_,ht⟩;have:(a.take l++t::a.drop l).Perm (a++[t]):=by
     have h1:(a.take l++t::a.drop l).Perm (t::(a.take l++a.drop l)):=Of;rw[Lh] at h1;exact h1.trans (List.perm_append_singleton t a).symm
    rw[Oq];exact this.trans (h.perm.append_right [t])
   refine yN hc f _ (t+1) _ s' hP ?_ (by lia) hI' g
   have hp1:=(Lh l a) ▸ hp;obtain⟨q1,q2,q3⟩:=K_.mp hp1;refine K_.mpr ⟨q1,Kz.mpr ⟨λx hx=>?_,q2⟩,λx hx y hy=>?_⟩
   ·obtain⟨i,hi⟩:=Nc.mp hx;rw[KR] at hi;exact .inl (hhi (l+i) x (by lia) hi)
   ·rcases JR.mp hy with rfl|hy
    ·obtain⟨i,hi⟩:=Nc.mp hx;rw[Ly] at hi
     split at hi
     ·rename_i hil;have:=hlo i x hil hi;have hxt:=h.lt (Np hx);unfold R;lia
     ·cases hi
    ·exact q3 x hx y hy
theorem Bv(hc:pB k n cmp I){G:Array Nat->Shared->Prop}{s:Shared}(hn:1<=n)(hI:I s)(g:∀p s',p.toList.Perm (List.range n)->p.toList.Pairwise (R k)->I s'->G p s'):(kas_sort n).kasWp cmp G s:=by
 unfold kas_sort;rw[MD];have fin:∀p a s',PI n n p a->a.Pairwise (R k)->I s'->G p s':=λp a s' h hp hI'=>by
  have e:p.toList=a:=by rw[h.eq,Li,List.range'_zero,K6]
  refine g p s' ?_ ?_ hI'<;>rw[e]
  ·exact h.perm
  ·exact hp
 refine zW hc hn hI λm p a s' h h1 hp hI'=>?_;show KasT.kasWp cmp (if m<n then _ else _) G s'
 by_cases hm:m<n
 ·rw[JQ hm];show (kas_bin (n-max m 1) p (max m 1)).kasWp cmp G s';rw[show max m 1=m by lia]
  exact yN hc (n-m) p m a s' h hp rfl hI' fin
 ·rw[JN hm];have:m=n:=by have:=h.le;lia
  subst this;exact fin p a s' h hp hI'
end
end SP
abbrev EE(qual:Str)(scope:Scope)(L f:Addr)(cd:Value)(cl:List (Str×Addr)):Env:=W.envX qual scope L f cd cl
noncomputable def sU(X:Cx)(A:Around)(N:List Str)(qual:Str)(scope:Scope)(f:Addr)(cd:Value)(cl:List (Str×Addr))(s:Shared)(H:Hp):Cx where
 prog:=X.prog
 w:=X.w
 K:=X.K
 mg:=X.mg
 base:=X.base
 A:=A.deeper (EE qual scope s.heap.objs.size f cd cl)
 N:=N
 s₀:=s
 H₀:=H
 env:=EE qual scope s.heap.objs.size f cd cl
 outer:=X.stack
 stack:=EE qual scope s.heap.objs.size f cd cl::X.stack
 ex:=[]
 calm:=true
 fn:=λ_=>false
 pn:=[]
 xe:=λ_ _=>False
section
variable {X:Cx} {pins:List (Addr×Obj)} {σ:St} {H:Hp} {s:Shared}
theorem BF(I:Inv X pins σ H s){A:Around}(hA:A.frames=some X.stack)(hd:A.handled=none){qual:Str}{v:V}{u:Value}{cd:Value}{h₁:Heap}{tk:Nat}
  (hk:scope.kind=.function) (rv:RelV v u) (hloc:scope.names.lookup x=some .local) (hns:h₁.Ns s.heap.objs.size (λy=>[(x,u)].reverse.lookup y)) (old:∀b o,s.heap.get? b=some o->h₁.get? b=some o)
  (hlen:σf.length=N.length) (hcl:∀y c,cl.lookup y=some c->X.env.cells.lookup y=some c) (hhas:∀y,(scope.names.lookup y=some .cell\/scope.names.lookup y=some .free)->∃c,cl.lookup y=some c)
  (hf:∀(i:Nat) (y:Str) (v:V),N[i]?=some y->σf[i]?=some (some v)->scope.names.lookup y=some .free/\∃c u,cl.lookup y=some c/\s.heap.IsCell c (some u)/\RelV v u) :
  Inv (sU X A (x::N) qual scope f cd cl s H) [] (some v::σf) H {s with heap:=h₁,toks:=tk}:=by
 have noA:∀b:Addr,b∉(sU X A (x::N) qual scope f cd cl s H).ex:=λb z=>absurd (show b∈([]:List Addr) from z) (by simp)
 refine⟨⟨I.ok.mod,hk,rfl,rfl,JS _,λy z c e1 e2=>I.ok.inj y z c (hcl y c e1) (hcl z c e2),hhas,λy c z _=>(by cases z),λ_=>hd,Around.frames_deeper hA,.inr ⟨rfl,rfl⟩,λb z=>absurd z (noA b),I.bs,JX I.ok.A0 I.sz,λb _ _=>noA b,λb z=>absurd z (noA b),I.stack,I.nO,I.ok.tabs.un I.base⟩,
  rfl,I.bare,Un.kept old,⟨_,hns,λi y w e1 e2 e3=>?_⟩,λy c e=>?_,I.bc.fresh (JS _),λy c e=>I.fY y c (hcl y c e),λp hp=>absurd (show p∈([]:List (Addr×Obj)) from hp) (by simp),I.bc.kept old,?_⟩
 ·cases i with
  |zero =>
   have e1':some x=some y:=e1;have e2':some (some v)=some (some w):=e2
   cases e1';cases e2'
   exact⟨u,rv,.inl ⟨hloc,by simp⟩⟩
  |succ i =>
   obtain⟨h1,c,u',h2,h3,h4⟩:=hf i y w e1 e2;obtain⟨o,ho,hd'⟩:=h3;exact⟨u',h4,.inr ⟨.inr h1,c,h2,o,old _ _ ho,hd'⟩⟩
 ·obtain⟨v',o,ho,hd'⟩:=I.cell y c (hcl y c e);exact⟨v',o,old _ _ ho,hd'⟩
 ·show (some v::σf).length=(x::N).length;rw[J_,J_,hlen]
theorem zh(I:Inv X pins σ H s){A:Around}(hr:bP (k+1) A)(hA:A.frames=some X.stack){qual:Str}{v:V}{u:Value}{f:Addr}{t:TE}{Q:VK}
  (hk:scope.kind=.function) (hco:scope.isCoroutine=false) (hgen:scope.isGenerator=false) (hcell:∀y∈scope.names,y.2≠.cell) (rv:RelV v u) (hloc:scope.names.lookup x=some .local)
  (ho:s.heap.get? f=some (W.kla_obj "<lambda>" qual params body scope cl pm c' ctv)) (fX:s.heap.CodeRec (.ref c') qual)
  (hbind:∀u,bindArgs (W.kla_fn "<lambda>" qual params body scope cl pm (.ref c') ctv) ⟨[u],[]⟩=pure [(x,u)])
  (hlen:σf.length=N.length) (hcl:∀y c,cl.lookup y=some c->X.env.cells.lookup y=some c) (hhas:∀y,(scope.names.lookup y=some .cell\/scope.names.lookup y=some .free)->∃c,cl.lookup y=some c)
  (hf:∀(i:Nat) (y:Str) (v:V),N[i]?=some y->σf[i]?=some (some v)->scope.names.lookup y=some .free/\∃c u,cl.lookup y=some c/\s.heap.IsCell c (some u)/\RelV v u)
  (hb:PE (sU X A (x::N) qual scope f (.ref c') cl s H) body t) (hq:t (some v::σf) H Q) :
  wpAny (model X.prog X.w) A (call (.ref f) [u]) (EP X pins σ Q) (λ_ _=>False) s:=by
 refine wpAny_call (W.kla_callFunE hr.depth ho rfl hco hgen rfl fX ?_);rw[hbind];refine JV (wpAny_newFunctionEnv hcell (λy hy=>by rw[Ka.mp hy];exact hloc) (λh₁ hns hsb=>⟨I.nolimit.fresh _ hsb,?_⟩) hk)
 have old:∀b o,s.heap.get? b=some o->h₁.get? b=some o:=λb o e=>hsb.extBut b o (Kn (Ke e)) (JM _ e);have J:=BF (tk:=s.toks+1) (qual:=qual) (f:=f) (cd:=.ref c') I hA hr.hd hk rv hloc hns old hlen hcl hhas hf;refine W.kla_codeExpr (KP (hb [] _ _ H Q J hq) (λw s' h=>?_) λ_ _ h=>h.elim);obtain⟨v',H',J',r',q'⟩:=h;exact I.after ⟨v',H',J'.os,J'.bare,J'.base,J'.bc,r',q'⟩
end
inductive eM:Hp->Hp->Prop
 |refl {H:Hp}:eM H H
 |more {H H1:Hp} {p:Addr} {o:HO}:eM H H1->H1 p=none->eM H (upd H1 p o)
theorem eM.same(g:eM H H1):xb H H1:=by
 induction g with
 |refl=>exact xb.refl _
 |more g n ih=>exactλb o e=>by rw[ao (au (ih b o e) n)];exact ih b o e
theorem eM.trans{H2:Hp}(a:eM H H1)(b:eM H1 H2):eM H H2:=by
 induction b with
 |refl=>exact a
 |more _ n ih=>exact .more ih n
theorem j4{i j:Int}{ti tj:Tok}{c:Value}:∀l:List Value,TriplesOk l->TriplesOk (l++[.int i ti,.int j tj,c])
 |[],_=>trivial
 |.int _ _::.int _ _::_::r,h=>j4 r (show TriplesOk r from h)
theorem mw{p:Pos}{i j:Int}{ti tj:Tok}{c cv:Value}:∀l:List Value,TriplesOk l->codeAmong p (l++[.int i ti,.int j tj,c])=some cv->codeAmong p l=some cv\/cv=c
 |[],_,e=>by
  have e':(if (i == p.line && j == p.col)=true then some c else codeAmong p [])=some cv:=e
  by_cases z:(i == p.line && j == p.col)=true
  ·rw[JQ z] at e';cases e';exact .inr rfl
  ·rw[JN z] at e';cases e'
 |.int a ta::.int b tb::d::r,h,e=>by
  have e':(if (a == p.line && b == p.col)=true then some d else codeAmong p (r++[.int i ti,.int j tj,c]))=some cv:=e
  show (if (a == p.line && b == p.col)=true then some d else codeAmong p r)=some cv\/_
  by_cases z:(a == p.line && b == p.col)=true
  ·rw[JQ z] at e' ⊢;exact .inl e'
  ·rw[JN z] at e' ⊢;exact mw r (show TriplesOk r from h) e'
theorem ug(q:Str)(more:Array Value):xp (#[.str q 0]++more)=q:=by
 unfold xp;rw[LR];rfl
structure j5 (H:Hp) (f:Addr) (q:Str) (params:Arguments) (body:Expr) (scope:Scope) (cl:List (Str×Addr)) (c':Addr) (pm ctv:Value):Prop where
 fn:H f=some (.jS (W.kla_obj "<lambda>" q params body scope cl pm c' ctv) (.own f))
 cd:Df H q (.ref c')
section
variable {X:Cx} {pins:List (Addr×Obj)} {σ:St} {H:Hp} {s:Shared} {E:Value->Shared->Prop}
theorem j5.up(x:j5 H f q params body scope cl c' pm ctv)(g:∀b o u,H b=some (.jS o u)->H1 b=some (.jS o u)):j5 H1 f q params body scope cl c' pm ctv:=
 ⟨g _ _ _ x.fn,let ⟨c,oc,vs,t,e1,e2,e3⟩:=x.cd;⟨c,oc,vs,t,e1,g _ _ _ e2,e3⟩⟩
theorem j5.get(x:j5 H f q params body scope cl c' pm ctv)(I:Inv X pins σ H s):
  s.heap.get? f=some (W.kla_obj "<lambda>" q params body scope cl pm c' ctv)/\s.heap.CodeRec (.ref c') q:=by
 obtain⟨c,oc,vs,t,e1,e2,e3,e4⟩:=x.cd;exact⟨(I.bc f _ x.fn).1,c,oc,vs,t,e1,(I.bc c _ e2).1,e3,e4⟩
theorem Inv.y8{o:Obj}{t':Nat}(I:Inv X pins σ H s)(k:∀b u,s.heap.get? b=some u->h'.get? b=some u)(hp:s.heap.objs.size<=f)(e:h'.get? f=some o):Inv X pins σ (upd H f (.jS o (.own f))) {s with heap:=h',toks:=t'}:=
 I.laid k hp ⟨e,o,e⟩
theorem wR(I:Inv X pins σ H s){c P:Addr}(hx:x∈dR)(ht:W.tabIn X.K x=some (c,P))(hcode:X.env.code=.ref c)(hq:X.env.qual=x++".<locals>."){pos:Pos}
  (hdef:defaultsOf params X.env=([],[])) (hcl:closureFor scope X.env=pure cl)
  (h:∀f c' pm ctv H1 s1,eM H H1->Inv X pins σ H1 s1->j5 H1 f ((x++".<locals>.")++"<lambda>") params body scope cl c' pm ctv->Q (.ref f) s1) :
  wpAny (model X.prog X.w) X.A (eval (.Lambda params body scope pos) X.env) Q E s:=by
 have hm:(c,P,(x++".<locals>.")++"<lambda>")∈cx X.K:=ME.mpr ⟨x,hx,by rw[ht];rfl⟩
 obtain⟨more,hP⟩:=(I.ok.tabs.un I.base) _ hm;have C:W.CodeHd s.heap c P:=(I.ok.mod.codes _ hm).keeps I.bk;obtain⟨qs,eP,tr,fa⟩:=I.bc P _ hP;have hns:=I.ok.mod.glob.keeps I.bk;have hgP:mainGlobals≠P:=λz=>by
  obtain⟨o,es,ep,e,_⟩:=I.ok.mod.glob;have:=(I.bs _ _ e).2;rw[z,hP] at this;cases this
 have hb:s.heap.BuiltinsAt X.mg P:=by
  obtain⟨bm,ob,b1,b2,b3,b4,b5⟩:=I.ok.mod.bm;refine⟨bm,ob,b1,b2,λz=>?_,λz=>?_,I.bk _ _ b3,b4,b5⟩
  ·obtain⟨o,es,ep,e,hd,_⟩:=I.ok.mod.glob;rw[z,e] at b3;cases b3;rw[hd] at b5;cases b5.2
  ·have:=(I.bs _ _ b3).2;rw[z,hP] at this;cases this
 refine W.kla_eval hdef ?_;rw[hq]
 cases ca:codeAmong pos qs.toList with
 |some cv =>
  have il:=fa pos cv ca;rw[ug] at il;obtain⟨c',oc,vs,t,rfl,e2,e3⟩:=il;refine W.kla_makeFunctionHit hcl I.ok.glob hns hcode C eP tr ca hb λctv h' tk hk hsz=>?_;have n0:H h'.objs.size=none:=I.bc.fresh hsz;have J:=I.y8 (f:=h'.objs.size) (t':=tk) (h':=h'.push {cls:=.type "function",data:=.func (W.kla_fn "<lambda>" ((x++".<locals>.")++"<lambda>") params body scope cl ((X.mg "__name__").getD .none) (.ref c') ctv)}) (λb u e=>JM _ (hk b u e)) hsz (Kc _ rfl);exact h _ c' _ ctv _ _ (.more .refl n0) J ⟨ae,c',oc,vs,t,rfl,by rw[ao (au e2 n0)];exact e2,e3⟩
 |none =>
  refine W.kla_makeFunction hcl I.ok.glob hns hcode C eP tr ca hgP hb λc' ctv h' tk hx2 hge hlt hrec htb=>?_;obtain⟨c2,oc,vs,t,e2,hoc,hd,hv⟩:=hrec;cases e2;have nP:P≠c':=λz=>absurd (Ke eP) (by rw[z];exact OJ.mpr hge)
  have n1:H c'=none:=I.bc.fresh hge;have keep:∀b u,b≠P->s.heap.get? b=some u->h'.get? b=some u:=λb u hb' e=>hx2 b u hb' e;have H1ne:∀b u,H b=some u->upd H c' (.jS oc (.own c')) b=some u:=λb u e=>by rw[ao (au e n1)];exact e
  have hoP:∀y,H P≠some (.own y):=λy z=>by rw[hP] at z;cases z
  have J1:Inv X pins σ (upd H c' (.jS oc (.own c'))) {s with heap:=h',toks:=tk}:=by
   refine I.un ⟨λb o e n _ _=>keep b o (λz=>by rw[z,hP] at n;cases n) e,λb o e n _ _=>⟨o.slots,keep b o (λz=>by rw[z,hP] at n;cases n) e⟩,λb o e n _=>?_,λb o e _=>?_,λb xs e=>H1ne b _ e,λb o u e=>H1ne b _ e,λb ps e=>⟨#[],by rw[H1ne b _ e,N7]⟩⟩ λb u e=>?_
   ·rw[ao (λz=>absurd (Ke e) (by rw[z];exact OJ.mpr hge))];exact n
   ·by_cases z:b=P
    ·rw[z];exact⟨_,htb⟩
    ·exact⟨o,keep b o z e⟩
   ·by_cases z:b=c'
    ·subst z;rw[ae] at e;cases e;exact⟨hoc,oc,hoc⟩
    ·rw[ao z] at e;by_cases z2:b=P
     ·subst z2;rw[hP] at e;cases e;refine⟨_,htb,by rw[LR];exact j4 _ tr,λp cv hc=>?_⟩
      rw[LR] at hc;rcases mw _ tr hc with q|q
      ·obtain⟨c2,oc2,vs2,t2,g1,g2,g3⟩:=fa p cv q;exact⟨c2,oc2,vs2,t2,g1,H1ne _ _ g2,g3⟩
      ·rw[ug];exact⟨c',oc,vs,t,q,ae,hd,hv⟩
     ·refine (I.bc b u e).nc (λc v hc q=>keep c v ?_ q) (λc q=>H1ne c _ q) (λc xs q=>H1ne c _ q) λc _ _ q=>H1ne c _ q;rcases hc with rfl|hc
      ·exact z2
      ·exactλz3=>hoP b (by rw[<- z3];exact hc)
  have n2:upd H c' (.jS oc (.own c')) h'.objs.size=none:=J1.bc.fresh (JS _);have J:=J1.y8 (f:=h'.objs.size) (t':=tk) (h':=h'.push (W.kla_obj "<lambda>" ((x++".<locals>.")++"<lambda>") params body scope cl ((X.mg "__name__").getD .none) c' ctv)) (λb u e=>JM _ e) (JS _) (Kc _ rfl);exact h _ c' _ ctv _ _ (.more (.more .refl n1) n2) J ⟨ae,c',oc,vs,t,rfl,by rw[ao (au ae n2)];exact ae,hd,hv⟩
end
section
variable {α β:Type}
noncomputable def iB(p:Int×α):List (Int×α)->List (Int×α)
 |[]=>[p]
 |q::r=>if p.1<=q.1 then p::q::r else q::iB p r
noncomputable def fv:List (Int×α)->List (Int×α)
 |[]=>[]
 |p::r=>iB p (fv r)
abbrev Gq(l:List (Int×α)):Prop:=l.Pairwise λp q=>p.1<=q.1
noncomputable def atK(a:Int)(l:List (Int×α)):List (Int×α):=l.filter λp=>decide (p.1=a)
theorem gN(p:Int×α):∀l,(iB p l).Perm (p::l)
 |[]=>.refl _
 |q::r=>by
  unfold iB;split
  ·exact .refl _
  ·exact ((gN p r).cons q).trans (List.Perm.swap p q r)
theorem eK:∀l:List (Int×α),(fv l).Perm l
 |[]=>.refl _
 |p::r=>(gN p _).trans ((eK r).cons p)
theorem uy{p:Int×α}:∀{l:List (Int×α)},Gq l->Gq (iB p l)
 |[],_=>Ol _ _
 |q::r,h=>by
  obtain⟨h1,h2⟩:=Kz.mp h;unfold iB;split
  ·rename_i c;exact Kz.mpr ⟨λz hz=>by
    rcases JR.mp hz with rfl|hz
    ·exact c
    ·exact Int.le_trans c (h1 z hz),h⟩
  ·rename_i c;refine Kz.mpr ⟨λz hz=>?_,uy h2⟩;rcases JR.mp ((gN p r).mem_iff.mp hz) with rfl|hz
   ·lia
   ·exact h1 z hz
theorem qA:∀l:List (Int×α),Gq (fv l)
 |[]=>List.Pairwise.nil
 |_::r=>uy (qA r)
theorem bF(a:Int)(p:Int×α)(l:List (Int×α)):atK a (p::l)=if p.1=a then p::atK a l else atK a l:=by
 unfold atK;rw[List.filter_cons];by_cases z:p.1=a
 ·rw[JQ z,JQ (Kw z)]
 ·rw[JN z,JN (by simp[z])]
theorem tG{a:Int}{p:Int×α}:∀{l:List (Int×α)},atK a (iB p l)=atK a (p::l)
 |[]=>rfl
 |q::r=>by
  unfold iB;split
  ·rfl
  ·rename_i c;rw[bF,tG,bF,bF,bF];by_cases z:p.1=a
   ·have z2:¬ q.1=a:=by lia
    simp only[z,z2,Mn,Mv]
   ·simp only[z,Mv]
theorem oY{a:Int}:∀l:List (Int×α),atK a (fv l)=atK a l
 |[]=>rfl
 |p::r=>by
  show atK a (iB p (fv r))=_;rw[tG,bF,bF,oY r]
theorem lE{a:Int}:∀{l:List (Int×α)},(∀p∈l,a<p.1)->atK a l=[]
 |[],_=>rfl
 |p::r,h=>by
  have:=h p (JU ..);rw[bF,JN (by lia),lE λq hq=>h q (JT _ hq)]
theorem m5:∀{l m:List (Int×α)},Gq l->Gq m->(∀a,atK a l=atK a m)->l=m
 |[],[],_,_,_=>rfl
 |[],q::m,_,_,h=>by
  have:=h q.1;rw[bF,JQ rfl] at this;cases this
 |p::l,[],_,_,h=>by
  have:=h p.1;rw[bF,JQ rfl] at this;cases this
 |p::l,q::m,hl,hm,h=>by
  obtain⟨l1,l2⟩:=Kz.mp hl;obtain⟨m1,m2⟩:=Kz.mp hm;have e:p.1=q.1:=by
   rcases Int.lt_trichotomy p.1 q.1 with z|z|z
   ·have q1:=h p.1;rw[bF,JQ rfl,bF,JN (by lia),lE (l:=m) λr hr=>by have:=m1 r hr;lia] at q1
    cases q1
   ·exact z
   ·have q1:=h q.1;rw[bF,JN (by lia),bF,JQ rfl,lE (l:=l) λr hr=>by have:=l1 r hr;lia] at q1
    cases q1
  have q1:=h p.1;rw[bF,JQ rfl,bF,JQ e.symm] at q1;obtain⟨q2,q3⟩:=List.cons.inj q1;subst q2;congr 1;refine m5 l2 m2 λa=>?_;have q4:=h a;rw[bF,bF] at q4;by_cases z:p.1=a
  ·rw[JQ z,JQ z] at q4;exact (List.cons.inj q4).2
  ·rw[JN z,JN z] at q4;exact q4
theorem yc{l m:List (Int×α)}(hm:Gq m)(h:∀a,atK a m=atK a l):m=fv l:=m5 hm (qA l) λa=>by rw[h a,oY]
abbrev Gj(R:α->β->Prop):List (Int×α)->List (Int×β)->Prop:=Paired λp q=>p.1=q.1/\R p.2 q.2
theorem Ao{R:α->β->Prop}{p:Int×α}{q:Int×β}(h:p.1=q.1/\R p.2 q.2){l:List (Int×α)}{m:List (Int×β)}(k:Gj R l m):Gj R (iB p l) (iB q m):=by
 induction k with
 |nil=>exact .cons h .nil
 |cons r t ih =>
  unfold iB;split
  ·rename_i z;rw[JQ (by rw[<- h.1,<- r.1];exact z)]
   exact .cons h (.cons r t)
  ·rename_i z;rw[JN (by rw[<- h.1,<- r.1];exact z)]
   exact .cons r ih
theorem uX{R:α->β->Prop}{l:List (Int×α)}{m:List (Int×β)}(k:Gj R l m):Gj R (fv l) (fv m):=by
 induction k with
 |nil=>exact .nil
 |cons r t ih=>exact Ao r ih
theorem xU{R:α->β->Prop}{ks:List Int}{l:List α}{m:List β}(k:Paired R l m):Gj R (ks.zip l) (ks.zip m):=by
 induction k generalizing ks with
 |nil=>rw[List.zip_nil_right,List.zip_nil_right];exact .nil
 |cons r t ih =>
  cases ks with
  |nil=>exact .nil
  |cons k ks=>exact .cons ⟨rfl,r⟩ ih
theorem xD{R:α->β->Prop}{l:List (Int×α)}{m:List (Int×β)}(k:Gj R l m):Paired R (l.map (·.2)) (m.map (·.2)):=by
 induction k with
 |nil=>exact .nil
 |cons r t ih=>exact .cons r.2 ih
noncomputable def jO(ks:List Int)(l:List α):List α:=(fv (ks.zip l)).map (·.2)
theorem tV{R:α->β->Prop}{ks:List Int}{l:List α}{m:List β}(h:Paired R l m):Paired R (jO ks l) (jO ks m):=xD (uX (xU h))
theorem tq{ks:List Int}{l:List α}(h:ks.length=l.length):(jO ks l).length=l.length:=by
 unfold jO;rw[JK,(eK _).length_eq,Ot,h,LD]
theorem lL{ks:List Int}{l:List α}(h:ks.length=l.length):(jO ks l).Perm l:=by
 have h2:((ks.zip l).map (·.2))=l:=List.map_snd_zip (by lia)
 have h3:=(eK (ks.zip l)).map (·.2);rw[h2] at h3;exact h3
end
theorem jv:∀{xs:List V} {us:List Value},Vals xs us->Paired RelV xs us
 |_,_,.nil=>.nil
 |_,_,.cons r t=>.cons r (jv t)
theorem jr:∀{xs:List V} {us:List Value},Paired RelV xs us->Vals xs us
 |_,_,.nil=>.nil
 |_,_,.cons r t=>.cons r (jr t)
theorem tZ:∀{us:List Value} {ns:List Int},IntsAre us ns->∀{i:Nat},i<ns.length->∃t,us.getD i Value.none=.int (ns.getD i 0) t
 |_,_,.cons n t h,0,_=>⟨t,rfl⟩
 |_,_,.cons n t h,i+1,hi=>tZ h (i:=i) (by simpa using hi)
theorem yB{p:List Nat}(hl:kz.length=us.length)(hp:p.Perm (List.range us.length))(hr:p.Pairwise (SP.R λi=>kz.getD i 0)):p.map (λi=>us.getD i Value.none)=jO kz us:=by
 have ez:(List.range us.length).map (λi=>(kz.getD i 0,us.getD i Value.none))=kz.zip us:=by
  apply Mz
  ·rw[JK,Lo,Ot,hl,LD]
  ·intro i h1 h2;rw[JK,Lo] at h1;rw[List.getElem_map,List.getElem_range,List.getElem_zip];simp[h1,hl]
 have e1:p.map (λi=>(kz.getD i 0,us.getD i Value.none))=fv (kz.zip us):=by
  refine yc ?_ λa=>?_
  ·exact NN.mpr (hr.imp λh=>h.le)
  ·have fl:∀l:List Nat,atK a (l.map λi=>(kz.getD i 0,us.getD i Value.none))=(l.filter λi=>decide (kz.getD i 0=a)).map λi=>(kz.getD i 0,us.getD i Value.none):=λl=>by
    unfold atK;rw[List.filter_map];rfl
   rw[<- ez,fl,fl];congr 1;refine List.Perm.eq_of_pairwise (le:=(· < ·)) (λa b _ _ h g=>absurd h (Nat.lt_asymm g)) ?_ (O2.filter _) (hp.filter _);rw[List.pairwise_filter];refine hr.imp λ{i j} h hi hj=>?_;have hi:=Le hi;have hj:=Le hj;rcases h with h|h
   ·exfalso;have h':kz.getD i 0<kz.getD j 0:=h;lia
   ·exact h.2
 unfold jO;rw[<- e1,L5];rfl
section
variable {X:Cx} {pins:List (Addr×Obj)} {σ:St} {H:Hp} {s:Shared} {E:Value->Shared->Prop}
theorem Inv.take{D:Addr}{ob:Obj}{o:HO}{t':Nat}(I:Inv X ((D,ob)::pins) σ H s)(hs0:X.s₀.heap.objs.size<=D)(hnp:∀p∈X.pn++pins,p.1≠D)(k:∀b u,b≠D->s.heap.get? b=some u->h'.get? b=some u)(new:bS X.prog X.w (upd H D o) h' D o):
  Inv X pins σ (upd H D o) {s with heap:=h',toks:=t'}:=by
 obtain⟨g1,g2,g3,g4,g5⟩:=I.pin (D,ob) (Kl _ (JU ..));have I0:Inv X pins σ H s:=⟨I.ok,I.os,I.bare,I.base,I.loc,I.cell,I.free,I.fY,λp hp=>I.pin p ((K8.mp hp).elim (λz=>L3 _ z) λz=>Kl _ (JT _ z)),I.bc,I.len⟩;have ne:∀b u,H b=some u->b≠D:=λb u e=>au e g2;refine I0.step (g':=s.gens) (d':=s.drawn) (ch:=[D]) (λb hb=>?_) (λb o' _ _ hc e _=>k b o' (λz=>hc (by rw[z];exact Ka.mpr rfl)) e) (λb o' _ _ hc e _=>⟨o'.slots,k b o' (λz=>hc (by rw[z];exact Ka.mpr rfl)) e⟩) (λb o' hc e n=>by rw[ao (λz=>hc (by rw[z];exact Ka.mpr rfl))];exact n)
  (λb o' hc e=>⟨o',k b o' (λz=>hc (by rw[z];exact Ka.mpr rfl)) e⟩) (λb xs e=>by rw[ao (ne b _ e)];exact e) (λb o' u e=>by rw[ao (ne b _ e)];exact e) (λb ps e=>⟨#[],by rw[ao (ne b _ e),e,N7]⟩) (λm hm=>?_) (λb u e=>?_) I.bare
 ·rw[Ka.mp hb];refine⟨.inr hs0,g3,λx c e z=>?_,hnp⟩;obtain⟨v,o',ho',hd⟩:=I.cell x c e;rw[z,g1] at ho';cases ho';exact g5 v hd
 ·obtain⟨o',es,ep,ho',r⟩:=hm;exact⟨o',es,ep,k _ _ (Ll g3) ho',r⟩
 ·by_cases z:b=D
  ·subst z;rw[ae] at e;cases e;exact new
  ·rw[ao z] at e;refine (I.bc b u e).nc (λc v hc q=>k c v ?_ q) (λc q=>by rw[ao (ne c _ q)];exact q) (λc xs q=>by rw[ao (ne c _ q)];exact q) λc _ _ q=>by rw[ao (ne c _ q)];exact q
   rcases hc with rfl|hc
   ·exact z
   ·exact ne c _ hc
theorem tu{A:Around}{D:Nat}{st:SortSt}
  (I:Inv X ((D,seqObj "list" #[] e1)::pins) σ (upd H kS (.lst (kz.map V.int))) s) (hkS:H kS=none) (hD:H D=none) (hkD:kS≠D) (hs0:X.s₀.heap.objs.size<=D) (hnp:∀p∈X.pn++pins,p.1≠D)
  (hv:Vals xs us) (hlen:kz.length=us.length) (h64:us.length<64) (ho:((arrOf st).map (·.2)).toList=jO kz us) (hfl:failedOf st=none)
  (h:∀s',Inv X pins σ (upd (upd H kS (.lst [])) D (.lst (jO kz xs))) s'->P (.done (.ret .none)) s') :
  wpAny (model X.prog X.w) A (ksk_tail D false e1 (.ref kS) st) P E s:=by
 obtain⟨_,its,n,vr,ek⟩:=I.bc kS _ ae;have hz:its.toArray.size<=sizeLine:=by
  rw[JP,<- vr.length,JK,hlen,Lu];lia
 have pD:=I.pin _ (Kl _ (JU ..));have hout:((arrOf st).map (·.2)).size=us.length:=by
  rw[<- K0,ho,tq hlen]
 have s1:=Lf s.heap kS (Obj.mapSeq λ_=>(#[]:Array Value));obtain⟨c1,hc1⟩:∃c,(s.heap.update kS (Obj.mapSeq λ_=>(#[]:Array Value))).get? kS=some (seqObj "list" #[] c):=⟨_,Nl ek λ_=>#[]⟩;have J1:Inv X ((D,seqObj "list" #[] e1)::pins) σ (upd H kS (.lst [])) {s with heap:=s.heap.update kS (Obj.mapSeq λ_=>(#[]:Array Value))}:=by
  have J:=I.write (x:=kS) (e:=kS) (o:=.lst []) (t':=s.toks) (h':=s.heap.update kS (Obj.mapSeq λ_=>(#[]:Array Value))) (by rw[ae];trivial) (.inl rfl) (λb u hb q=>(s1.2 b hb).trans q) ⟨_,hc1⟩ ⟨Kh _,[],c1,.nil,hc1⟩
  rw[nI] at J;exact J
 have pD1:=J1.pin _ (List.mem_append_right _ (List.mem_cons_self ..));have s2:=Heap.SameBut.update (s.heap.update kS (Obj.mapSeq λ_=>(#[]:Array Value))) D (Obj.mapSeq λ_=>(arrOf st).map (·.2));obtain⟨c2,hc2⟩:∃c,((s.heap.update kS (Obj.mapSeq λ_=>(#[]:Array Value))).update D (Obj.mapSeq λ_=>(arrOf st).map (·.2))).get? D=some (seqObj "list" ((arrOf st).map (·.2)) c):=⟨_,get?_update_seq pD1.1 λ_=>(arrOf st).map (·.2)⟩;have vB:Vals (jO kz xs) (jO kz us):=jr (tV (jv hv));unfold ksk_tail;dsimp only;refine wpAny_bind (listUpdate_at ek rfl ?_ hz (Nat.zero_le _));refine wpAny_bind (wpAny_letGo ?_);refine wpAny_bind (seqEpoch_at pD1.1 rfl ?_);refine wpAny_bind (listUpdate_at pD1.1 rfl ?_ (Nat.zero_le _) (by show ((arrOf st).map (·.2)).size<=_;rw[hout,sizeLine_eq];lia))
 rw[hfl];simp only[bne_self_eq_false,MH,Mv];refine JV (h _ (J1.take hs0 hnp (λb u hb q=>(s2.2 b hb).trans q) ⟨?_,jO kz us,c2,vB,?_⟩))
 ·rw[vB.length,tq hlen,Lu];lia
 ·rw[<- ho,M0];exact hc2
theorem DU{A:Around}{D:Nat}{us:List Value}{kz:List Int}{keys:Array Value}
  (I:Inv X ((D,seqObj "list" #[] e1)::pins) σ (upd H kS (.lst (kz.map V.int))) s) (hkS:H kS=none) (hD:H D=none) (hkD:kS≠D) (hs0:X.s₀.heap.objs.size<=D) (hnp:∀p∈X.pn++pins,p.1≠D)
  (hv:Vals xs us) (hlen:kz.length=us.length) (h64:us.length<64) (hk:IntsAre keys.toList kz)
  (h:∀s',Inv X pins σ (upd (upd H kS (.lst [])) D (.lst (jO kz xs))) s'->P (.done (.ret .none)) s') :
  wpAny (model X.prog X.w) A (ksk_end D false us.toArray e1 (.ref kS) keys) P E s:=by
 have hsz:keys.size=us.length:=by
  have z:=hk.length;rw[K0] at z;exact z.trans hlen
 have hzs:(keys.zip us.toArray).size=us.length:=by
  rw[Array.size_zip,hsz,JP,LD]
 unfold ksk_end;dsimp only;rw[if_neg Bool.false_ne_true,if_neg Bool.false_ne_true];by_cases h2:us.toArray.size<2
 ·rw[if_pos h2,if_pos h2];refine wpAny_bind (wpAny_pure ?_);rw[StateT.run_pure];refine wpAny_bind (wpAny_pure ?_);dsimp only;refine tu I hkS hD hkD hs0 hnp hv hlen h64 ?_ rfl h;rw[List.size_toArray] at h2;have:=yB (us:=us) (kz:=kz) (p:=List.range us.length) hlen (List.Perm.refl _) (by
   rcases us with _|⟨x,_|⟨y,r⟩⟩
   ·exact .nil
   ·simp
   ·exfalso;simp only[J_] at h2;lia)
  rw[<- this];show ((keys.zip us.toArray).map (·.2)).toList=_;rw[Array.toList_map,Array.toList_zip,List.map_snd_zip (by simp only[K0,JP];lia)]
  apply Mz
  ·simp
  ·intro i h1 h2;have h1':i<us.length:=h1;simp[h1']
 ·rw[JN h2,JN h2];rw[JP] at h2;rw[ksk_kind hk (by lia)]
  refine JJ (JV ?_);have ek:keys=keys.toList.toArray:=(M0).symm;have hkl:keys.toList.length=us.length:=by rw[K0,hsz]
  have hat:∀i,i<us.length->∃t,keys.toList.getD i Value.none=.int (kz.getD i 0) t:=λi hi=>tZ hk (by rw[hlen];exact hi)
  generalize keys.toList=ks at *;subst ek;refine JJ (KP (W.kat_run (ks:=ks) (vs:=us) (κ:=oneType') (Q:=λst' s'=>s'=s/\failedOf st'=none/\((arrOf st').map (·.2)).toList=jO kz us)
   (G:=λp s'=>s'=s/\p.toList.Perm (List.range us.length)/\p.toList.Pairwise (SP.R λi=>kz.getD i 0)) hkl (by lia) h64 (λp st' s' a1 a2 a3 a4=>⟨a4.1,a3,by rw[W.kat_snds hkl a2];exact yB hlen a4.2.1 a4.2.2⟩) ?_) ?_ λ_ _ e=>e)
  ·refine SP.Bv (k:=λi=>kz.getD i 0) (I:=λs'=>s'=s) (λi j C s' hi hj hI hC=>?_) (by lia) rfl λp s' hp hr hI=>⟨hI,hp,hr⟩
   subst hI;obtain⟨t1,e1⟩:=hat i hi;obtain⟨t2,e2⟩:=hat j hj;unfold W.kas_ask;rw[e1,e2];exact W.kat_lt_int (hC _ rfl)
  rintro⟨⟨⟩,st'⟩ s' ⟨rfl,hf,ho⟩;dsimp only;exact tu I hkS hD hkD hs0 hnp hv hlen h64 ho hf h
theorem kh:∀{us:List Value} {ns:List Int},Vals (ns.map V.int) us->IntsAre us ns
 |_,[],.nil=>.nil
 |_,n::ns,.cons ⟨t,e⟩ r=>by subst e;exact .cons n t (kh r)
theorem CB{A:Around}{D:Nat}{f:Value}
  (I:Inv X ((D,seqObj "list" #[] e1)::pins) σ (upd H kS (.lst [])) s) (hkS:H kS=none) (hD:H D=none) (hkD:kS≠D) (hs0:X.s₀.heap.objs.size<=D) (hnp:∀p∈X.pn++pins,p.1≠D)
  (hv:Vals xs us) (hlen:kz.length=us.length) (h64:us.length<64)
  (turn:∀(i:Nat) (u:Value) (k:Int),us[i]?=some u->kz[i]?=some k->∀pins' H' s',eM H H'->Inv X pins' σ H' s'->wpAny (model X.prog X.w) A (call f [u]) (λr s2=>(∃t,r=.int k t)/\Inv X pins' σ H' s2) (λ_ _=>False) s')
  (h:∀s',Inv X pins σ (upd (upd H kS (.lst [])) D (.lst (jO kz xs))) s'->P (.done (.ret .none)) s') :
  wpAny (model X.prog X.w) A (ksk_rest D f false us.toArray e1 (.ref kS)) P E s:=by
 unfold ksk_rest;refine JJ (NQ ?_)
 first
  |rw[List.forIn_toArray]
  | (rw[<- Array.forIn_toList];simp only[Nz])
 refine JJ (ksk_fold (λi s'=>Inv X ((D,seqObj "list" #[] e1)::pins) σ (upd H kS (.lst ((kz.take i).map V.int))) s') us 0 s I ?one ?all)
 case one =>
  intro j u s' hu J;rw[MJ] at J ⊢;have hj:j<us.length:=(JO.mp hu).1;obtain⟨k,hkj⟩:∃k,kz[j]?=some k:=⟨_,JI (by lia)⟩
  refine wpAny_bind (wpAny_attempt (wpAny_mono (turn j u k hu hkj _ _ s' (.more .refl hkS) J) (λr s2 hr=>?_) λ_ _ z=>z.elim));obtain⟨⟨t,rfl⟩,J2⟩:=hr;dsimp only;obtain⟨_,its,n,vr,ek⟩:=J2.bc kS _ ae;have lenI:its.length<=us.length:=by
   rw[<- vr.length,JK,Ki];lia
  have s1:=Lf s2.heap kS (Obj.mapSeq (·.push (.int k t)));obtain⟨c1,hc1⟩:∃c,(s2.heap.update kS (Obj.mapSeq (·.push (.int k t)))).get? kS=some (seqObj "list" (its.toArray.push (.int k t)) c):=⟨_,Nl ek (·.push (.int k t))⟩;have et:kz.take (j+1)=kz.take j++[k]:=by
   rw[List.take_add_one,hkj];rfl
  have vr2:Vals ((kz.take (j+1)).map V.int) (its++[.int k t]):=by
   rw[et,Kg];exact vr.append (.cons ⟨t,rfl⟩ .nil)
  refine JJ (listUpdate_at ek rfl ?_ (by rw[JP,Lu];lia) (by show (its.toArray.push (.int k t)).size<=_;rw[Array.size_push,JP,Lu];lia))
  refine JV ⟨rfl,?_⟩;have J3:=J2.write (x:=kS) (e:=kS) (o:=.lst ((kz.take (j+1)).map V.int)) (t':=s2.toks) (h':=s2.heap.update kS (Obj.mapSeq (·.push (.int k t)))) (by rw[ae];trivial) (.inl rfl) (λb u hb q=>(s1.2 b hb).trans q) ⟨_,hc1⟩
   ⟨by rw[JK,Ki,Lu];lia,its++[.int k t],c1,vr2,by rw[hc1,List.push_toArray]⟩
  rw[nI] at J3;exact J3
 case all =>
  intro s' J;have ez:kz.take (0+us.length)=kz:=KC (by lia)
  have J':Inv X ((D,seqObj "list" #[] e1)::pins) σ (upd H kS (.lst (kz.map V.int))) s':=by
   rw[<- ez];rw[ez];simpa only[ez] using J
  obtain⟨_,its,n,vr,ek⟩:=J'.bc kS _ ae;refine JJ (Od ek rfl ?_);exact DU J' hkS hD hkD hs0 hnp hv hlen h64 (by rw[Nz];exact kh vr) h
theorem AR{A:Around}{D:Addr}{n0:Nat}{h0:Heap}{f:Value}
  (I:Inv X pins σ H s) (k0:∀b o,s.heap.get? b=some o->h0.get? b=some o) (hDs:s.heap.objs.size<=D) (ho:h0.get? D=some (seqObj "list" us.toArray n0)) (hv:Vals xs us) (hlen:kz.length=us.length) (h64:us.length<64)
  (turn:∀(i:Nat) (u:Value) (k:Int),us[i]?=some u->kz[i]?=some k->∀pins' H' s',eM H H'->Inv X pins' σ H' s'->wpAny (model X.prog X.w) A (call f [u]) (λr s2=>(∃t,r=.int k t)/\Inv X pins' σ H' s2) (λ_ _=>False) s')
  (h:∀H' s',eM H H'->H' D=none->Inv X pins σ (upd H' D (.lst (jO kz xs))) s'->P (.done (.ret .none)) s') :
  wpAny (model X.prog X.w) A (ksk_tree D f false) P E {s with heap:=h0}:=by
 have hsz0:D<h0.objs.size:=Ke ho;have s1:=Lf h0 D (Obj.mapSeq λ_=>(#[]:Array Value));obtain⟨e1,ho1⟩:∃e,(h0.update D (Obj.mapSeq λ_=>(#[]:Array Value))).get? D=some (seqObj "list" #[] e):=⟨_,Nl ho λ_=>#[]⟩;have hkz:((h0.update D (Obj.mapSeq λ_=>(#[]:Array Value))).push (seqObj "tuple" us.toArray 0)).objs.size=h0.objs.size+1:=by
  rw[size_push',Heap.size_update]
 have nD:∀b o,s.heap.get? b=some o->b≠D:=λb o e=>Kn (Kp (Ke e) hDs);have keep:∀b o,s.heap.get? b=some o->(((h0.update D (Obj.mapSeq λ_=>(#[]:Array Value))).push (seqObj "tuple" us.toArray 0)).push (seqObj "list" #[] 0)).get? b=some o:=λb o e =>
  JM _ (JM _ ((s1.2 b (nD b o e)).trans (k0 b o e)))
 have hle:s.heap.objs.size<=h0.objs.size+1:=JX hDs (L6 (LC hsz0));have hkD:h0.objs.size+1≠D:=Ls (NL hsz0);have hkS:H (h0.objs.size+1)=none:=I.bc.fresh hle;have hD:H D=none:=I.bc.fresh hDs;have hnp:∀p∈X.pn++pins,p.1≠D:=λp hp=>nD _ _ (I.pin p hp).1;have J0:Inv X pins σ (upd H (h0.objs.size+1) (.lst [])) {s with heap:=((h0.update D (Obj.mapSeq λ_=>(#[]:Array Value))).push (seqObj "tuple" us.toArray 0)).push (seqObj "list" #[] 0)}:=
  I.laid (t':=s.toks) keep hle ⟨Kh _,[],0,.nil,by rw[<- hkz];exact Kc _ rfl⟩
 have J:Inv X ((D,seqObj "list" #[] e1)::pins) σ (upd H (h0.objs.size+1) (.lst [])) {s with heap:=((h0.update D (Obj.mapSeq λ_=>(#[]:Array Value))).push (seqObj "tuple" us.toArray 0)).push (seqObj "list" #[] 0)}:=by
  refine J0.nu λp hp=>?_;rcases JR.mp hp with rfl|hp
  ·exact⟨JM _ (JM _ ho1),by rw[ao (Ll hkD)];exact hD,λz=>absurd I.lt (by rw[<- z];exact OJ.mpr hDs),I.Ig hDs,λv z=>by cases z⟩
  ·exact J0.pin p (Kl _ hp)
 unfold ksk_tree;refine JJ (Od ho rfl ?_);refine JJ (listUpdate_at ho rfl ?_ (by rw[JP,Lu];lia) (Kh _))
 refine JJ (seqEpoch_at ho1 rfl ?_);refine JJ (wpAny_newTuple ?_ (by show us.length<=_;rw[Lu];lia))
 refine JJ (NI ?_ (Kh _));refine Lb ?_;show wpAny _ _ (ksk_rest D f false us.toArray e1 (.ref ((h0.update D (Obj.mapSeq λ_=>(#[]:Array Value))).push (seqObj "tuple" us.toArray 0)).objs.size)) _ _ _;rw[hkz];exact CB J hkS hD hkD (JX I.sz hDs) hnp hv hlen h64 turn λs' K=>h _ s' (.more .refl hkS) (by rw[ao (Ll hkD)];exact hD) K
end
noncomputable def BE(q:Str)(params:Arguments)(body:Expr)(scope:Scope)(cl:List (Str×Addr)):TE:=λ_ H Q=>∀f c' pm ctv H1,eM H H1->j5 H1 f q params body scope cl c' pm ctv->Q (.ref f) H1
theorem Et{c P:Addr}(hx:x∈dR)(ht:W.tabIn X.K x=some (c,P))(hcode:X.env.code=.ref c)(hq:X.env.qual=x++".<locals>."){pos:Pos}
  (hdef:defaultsOf params X.env=([],[])) (hcl:closureFor scope X.env=pure cl):PE X (.Lambda params body scope pos) (BE ((x++".<locals>.")++"<lambda>") params body scope cl):=λpins s σ H Q I h =>
 wR I hx ht hcode hq hdef hcl λf c' pm ctv H1 s1 g J l=>⟨.ref f,H1,J,rfl,h f c' pm ctv H1 g l⟩
section
variable {X:Cx} {pins:List (Addr×Obj)} {σ:St} {H:Hp} {s:Shared} {E:Value->Shared->Prop}
noncomputable def zT(X:Cx)(A:Around)(s:Shared)(l:Addr)(xs:List V):Prop:=∀(Q:List Value->Shared->Prop) (E:Value->Shared->Prop),(∀h0 tk us,(∀b o,s.heap.get? b=some o->h0.get? b=some o)->s.heap.objs.size<=h0.objs.size->Vals xs us->Q us {s with heap:=h0,toks:=tk})->wpAny (model X.prog X.w) A (collect (.ref l)) Q E s
theorem vx{A:Around}{l:Addr}{Q:VK}(I:Inv X pins σ H s)(hcol:zT X A.in1 s l xs)(hlen:kz.length=xs.length)(h64:xs.length<64)
  (turn:∀(i:Nat) (v:V) (u:Value) (k:Int),xs[i]?=some v->RelV v u->kz[i]?=some k->∀pins' H' s',eM H H'->Inv X pins' σ H' s'->wpAny (model X.prog X.w) A.in1.in1 (call (.ref f) [u]) (λr s2=>(∃t,r=.int k t)/\Inv X pins' σ H' s2) (λ_ _=>False) s')
  (h:∀H' D,eM H H'->H' D=none->Q (.ref D) (upd H' D (.lst (jO kz xs)))) :
  wpAny (model X.prog X.w) A (call (.builtin "sorted") [.ref l] [(Str.ofString "key",.ref f)]) (EP X pins σ Q) E s:=by
 refine call_function_entry_kw kind_sorted plain_sorted entry_sorted (ksk_s1 _ _) ?_;unfold Builtin.«sorted»;refine JJ (m:=checkCount "sorted" 1 1 _) (JV (JJ (hcol _ _ λh0 tk us k0 hz hv=>?_)));have ul:us.length=xs.length:=hv.length.symm;refine JJ (NI ?_ (by rw[ul,Lu];lia))
 have hoL:(h0.push (seqObj "list" us.toArray 0)).get? h0.objs.size=some (seqObj "list" us.toArray 0):=Kc _ rfl;refine JJ (Lb (wpAny_call_entry_kw slot_list_sort ⟨_,hoL,rfl⟩ entry_list_sort ?srt (ksk_l1 _ _)))
 case srt =>
  show wpAny _ A.in1.in1 (Builtin.«list.sort» ⟨[.ref h0.objs.size],[(Str.ofString "key",.ref f)]⟩) _ _ _;rw[ksk_t1];refine AR (s:={s with toks:=tk}) (h0:=h0.push (seqObj "list" us.toArray 0)) (I.tok tk) (λb o e=>JM _ (k0 b o e)) hz hoL hv (by rw[ul];exact hlen) (by rw[ul];exact h64)
   (λi u k hu hk pins' H' s' g J=>?_) λH' s' g n J=>⟨_,rfl,?_⟩
  ·have hi:i<xs.length:=by rw[<- ul];exact (JO.mp hu).1
   obtain⟨u',hu',rv⟩:=hv.get (JI hi);rw[hu] at hu';cases hu';exact turn i _ u k (JI hi) rv hk pins' H' s' g J
  ·exact JV ⟨_,rfl,.ref h0.objs.size,_,J,rfl,h H' _ g n⟩
noncomputable def xY(src:Hp->Addr->List V->Prop)(pre:V->Int->Hp->St->Prop)(fr:St->St)(t:TA):TE:=λσ H Q=>t σ H λvs H1=>∃l xs kz,vs=[.ref l]/\src H1 l xs/\kz.length=xs.length/\xs.length<64 /\
 (∀(i:Nat) (v:V) (k:Int),xs[i]?=some v->kz[i]?=some k->∀H',eM H1 H'->pre v k H' (fr σ))/\∀H2 D,eM H1 H2->H2 D=none->Q (.ref D) (upd H2 D (.lst (jO kz xs)))
theorem xR{t:TA}{p pos kpos lpos:Pos}{src:Hp->Addr->List V->Prop}{pre:V->Int->Hp->St->Prop}{fr:St->St}
  (hg:Gl X "sorted") (hm:X.mg "sorted"=none) (ha:PA X [e] t) (h1:gc e=true) (hr:bP (k+3) X.A) (hL:PE X (.Lambda params body scope lpos) (BE q params body scope cl))
  (hsrc:∀pins σ H s H1 l xs A,Inv X pins σ H s->src H1 l xs->eM H1 H->A.handled=none->xs.length<64->zT X A s l xs)
  (hk:scope.kind=.function) (hco:scope.isCoroutine=false) (hgen:scope.isGenerator=false) (hcell:∀y∈scope.names,y.2≠.cell) (hloc:scope.names.lookup x=some .local)
  (hbind:∀c' pm ctv u,bindArgs (W.kla_fn "<lambda>" q params body scope cl pm (.ref c') ctv) ⟨[u],[]⟩=pure [(x,u)])
  (hlen:∀σ:St,(fr σ).length=N.length) (hcl:∀y c,cl.lookup y=some c->X.env.cells.lookup y=some c) (hhas:∀y,(scope.names.lookup y=some .cell\/scope.names.lookup y=some .free)->∃c,cl.lookup y=some c)
  (hf:∀pins σ H s,Inv X pins σ H s->∀(i:Nat) (y:Str) (v:V),N[i]?=some y->(fr σ)[i]?=some (some v)->scope.names.lookup y=some .free/\∃c u,cl.lookup y=some c/\s.heap.IsCell c (some u)/\RelV v u)
  (hbody:∀A f c' s' H' σf v i,pre v i H' σf->∃t,PE (sU X A (x::N) q scope f (.ref c') cl s' H') body t/\t (some v::σf) H' (λw H2=>w=.int i/\H2=H')) :
  PE X (.Call (.Name "sorted" p) [e] [⟨some "key",.Lambda params body scope lpos,kpos⟩] pos) (xY src pre fr t):=by
 intro pins s σ H Q I h;refine L_ (ik I hg hm (u:=.builtin "sorted") (by decide +kernel) ?_ (by decide) (by decide))
 have hkw:PK X [⟨some "key",.Lambda params body scope lpos,kpos⟩] (jt (BE q params body scope cl) oH):=CO hL FH;refine callWith_kw ?_ (by rw[eJ h1];rfl) (by rw[eJ h1];rfl) rfl rfl
 refine cz (ha pos pins s σ H _ I h) λus s1 hq1=>?_;obtain⟨vs,H1,I1,r1,q1⟩:=hq1;obtain⟨l,xs,kz,rfl,hs,hle,h64,hpre,qq⟩:=q1;obtain⟨u,rfl,ru⟩:=vals1 r1;cases ru;refine cz (hkw pos pins s1 σ H1 (λzs H2=>∃f c' pm ctv,zs=[.ref f]/\eM H1 H2/\j5 H2 f ((q)) params body scope cl c' pm ctv) I1 λf c' pm ctv H2 g lm=>⟨f,c',pm,ctv,rfl,g,lm⟩) λws s2 hq2=>?_;obtain⟨zs,H2,I2,rz,f,c',pm,ctv,e1,g,lm⟩:=hq2;subst e1;obtain⟨wv,rfl,rw1⟩:=vals1 rz;cases rw1;have hr1:bP (k+2) X.A.in1:=hr.in1;refine vx I2 (hsrc _ _ _ _ _ _ _ _ I2 hs g hr1.hd h64) hle h64 (λi v u j hv rv hj pins' H' s' g' J=>?_) λH' D g' n=>qq H' D (g.trans g') n;obtain⟨ho,fX⟩:=(lm.up λb o u e=>g'.same b _ e).get J;obtain⟨tb,hb,hq⟩:=hbody X.A.in1.in1 f c' s' H' (fr σ) v j (hpre i v j hv hj H' (g.trans g'));refine KP (zh J hr1.in1 J.ok.frames hk hco hgen hcell rv hloc ho fX (hbind c' pm ctv) (hlen σ) hcl hhas (hf _ _ _ _ J) hb hq) (λr s4 hr4=>?_) λ_ _ z=>z;obtain⟨w,H4,J4,rw4,e4,e5⟩:=hr4;subst e4 e5;exact⟨rw4,J4⟩
end
theorem nH{a:α}{l:List (Str×α)}:List.lookup x ((x,a)::l)=some a:=by rw[K9,KY]
theorem jI{y:Str}{a:α}{l:List (Str×α)}(h:y≠x):List.lookup y ((x,a)::l)=List.lookup y l:=by rw[K9,Kv.mpr h]
abbrev kj(n:Nat):List V:=(List.range n).map λk=>V.int ((k:Nat):Int)
section
variable {X:Cx} {pins:List (Addr×Obj)} {σ:St} {H:Hp} {s:Shared}
theorem qu{A:Around}{r:Addr}{n:Nat}(hh:A.handled=none)(I:Inv X pins σ H s)(hr:H r=some (.my 0 n))(h64:n<64):zT X A s r (kj n):=λQ E h=>by
 obtain⟨t,u,v,e⟩:=I.bc r _ hr;have hn2:Builtin.Range.rangeSize 0 (n:Int) 1=n:=by rw[rangeSize_one];split<;>lia
 have hsm:Builtin.Range.small 0 (n:Int) 1=true:=small_one (by lia) (by lia) (by lia) (by lia)
 have oS:(s.heap.push {cls:=.type "list",data:=.seq ([]:List Value).toArray}).get? s.heap.objs.size=some {cls:=.type "list",data:=.seq #[] 0}:=Kc _ rfl;unfold collect;refine JJ (wpAny_runValue (Md PySem.F.entry_proto_collect ?_));rw[Mw PySem.F.plain_proto_collect _];refine JJ (m:=newList []) (Ln (JV ⟨OO PySem.F.plain_list_iadd _,Md PySem.F.entry_list_iadd ?_⟩));rw[Mw PySem.F.plain_list_iadd _];show wpAny _ A.in1 (Builtin.List.listExtendWith _ _ _) _ _ _;refine wpAny_extend_range (R:=λr s'=>match r with|.ok (.ret v)=>wpAny (model X.prog X.w) A (match v with|.ref a=>do (match (<- load a).data with|.seq xs _=>pure xs.toList|_=>unsupported "internal:collect")|_=>unsupported "internal:collect") Q E s'|.ok _=>_|.error e=>E e s') (s:={s with heap:=s.heap.push {cls:=.type "list",data:=.seq ([]:List Value).toArray}}) hh (JM _ e) hsm hn2 (by lia) s.heap.objs.size (.ref s.heap.objs.size) 0 oS λh' tk acc c' hk hS hI=>?_
 refine JJ (m:=load s.heap.objs.size) (wpAny_load hS (JV (h h' tk acc.toList (λb o e=>hk b o (Kn (Ke e)) (JM _ e)) (LC (Ke hS)) ?_)));have hv:=Y.hV (lo:=0) n acc.toList 0 (by simpa using hI.1) λj v e=>by
  obtain⟨t,e2⟩:=hI.2 j v (by simpa using e)
  exact⟨t,by rw[e2];simp⟩
 show Vals ((List.range n).map λk=>V.int ((k:Nat):Int)) acc.toList;rw[Nn]
 simpa using hv
end
theorem bB.same{H':Hp}{a:Addr}(g:xb H H')(h:bB K H a xs):bB K H' a xs:=by
 rcases h with (h|⟨o,h⟩)|h
 ·exact .inl (.inl (g _ _ h))
 ·exact .inl (.inr ⟨o,g _ _ h⟩)
 ·exact .inr h
noncomputable def Jr(j:Nat)(σ:St):St:=[(σ[j]?).getD none]
noncomputable def kU(K:W.Frag)(j:Nat)(t:TA):TE:=xY (λH l xs=>∃n:Nat,H l=some (.my 0 n)/\xs=kj n) (λv k H' σf=>∃i q ls,v=.int i/\σf=[some (.ref q)]/\bB K H' q ls/\cI ls i=some (.int k)) (Jr j) t
theorem zb{t:TA}{p pos kpos lpos p1 p2 p3:Pos}{y:Str}{c:Addr}{j:Nat}(hg:Gl X "sorted")(hm:X.mg "sorted"=none)(ha:PA X [e] t)(h1:gc e=true)(hr:bP (k+3) X.A)
  (hL:PE X (.Lambda params (.Subscript (.Name y p1) (.Name x p2) p3) scope lpos) (BE q params (.Subscript (.Name y p1) (.Name x p2) p3) scope [(y,c)]))
  (hsc:scope={kind:=.function,names:=[(x,.local),(y,.free)],isGenerator:=false,isCoroutine:=false,more:=[]}) (hxy:y≠x) (hx1:(x ==("__debug__":Str))=false) (hx2:(x ==("__classdict__":Str))=false) (hy1:(y ==("__debug__":Str))=false) (hy2:(y ==("__classdict__":Str))=false)
  (hj:X.N[j]?=some y) (hyc:X.env.scope.names.lookup y=some .cell) (hyl:X.env.cells.lookup y=some c)
  (hbind:∀c' pm ctv u,bindArgs (W.kla_fn "<lambda>" q params (.Subscript (.Name y p1) (.Name x p2) p3) scope [(y,c)] pm (.ref c') ctv) ⟨[u],[]⟩=pure [(x,u)]) :
  PE X (.Call (.Name "sorted" p) [e] [⟨some "key",.Lambda params (.Subscript (.Name y p1) (.Name x p2) p3) scope lpos,kpos⟩] pos) (kU X.K j t):=by
 subst hsc;have lx:List.lookup x [(x,NameKind.local),(y,NameKind.free)]=some .local:=nH;have ly:List.lookup y [(x,NameKind.local),(y,NameKind.free)]=some .free:=by rw[jI hxy,nH]
 have lz:∀z,z≠x->z≠y->List.lookup z [(x,NameKind.local),(y,NameKind.free)]=none:=λz h1 h2=>by rw[jI h1,jI h2];rfl
 have lc:List.lookup y [(y,c)]=some c:=nH;have lcz:∀z d,List.lookup z [(y,c)]=some d->z=y/\d=c:=λz d e=>by
  by_cases h:z=y
  ·rw[h,lc] at e;cases e;exact⟨h,rfl⟩
  ·rw[jI h] at e;cases e
 refine xR (N:=[y]) hg hm ha h1 hr hL (λpins σ H s H1 l xs A I hs g hh h64=>?_) rfl rfl rfl (λz hz=>?_) lx hbind (λ_=>rfl) (λz d e=>?_) (λz hz=>?_) (λpins σ H s I i z v e1 e2=>?_) λA f c' s' H' σf v i hp=>?_
 ·obtain⟨n,hs,rfl⟩:=hs;rw[JK,Lo] at h64;exact qu hh I (g.same _ _ hs) h64
 ·rcases JR.mp hz with rfl|hz
  ·nofun
  ·rw[Ka.mp hz];nofun
 ·obtain⟨rfl,rfl⟩:=lcz z d e;exact hyl
 ·by_cases z1:z=x
  ·have hz':List.lookup z [(x,NameKind.local),(y,NameKind.free)]=some .cell\/List.lookup z [(x,NameKind.local),(y,NameKind.free)]=some .free:=hz;rw[z1,lx] at hz';rcases hz' with h|h<;>cases h
  ·by_cases z2:z=y
   ·rw[z2];exact⟨c,lc⟩
   ·have hz':List.lookup z [(x,NameKind.local),(y,NameKind.free)]=some .cell\/List.lookup z [(x,NameKind.local),(y,NameKind.free)]=some .free:=hz;rw[lz z z1 z2] at hz';rcases hz' with h|h<;>cases h
 ·cases i with
  |succ i=>cases e1
  |zero =>
   have e1':some y=some z:=e1;cases e1';have e2':some ((σ[j]?).getD none)=some (some v):=e2;have e3:σ[j]?=some (some v):=by
    cases hσ:σ[j]? with
    |none=>rw[hσ] at e2';cases e2'
    |some o=>rw[hσ] at e2';exact e2'
   obtain⟨m,_,hl⟩:=I.loc;obtain⟨u,rv,lk⟩:=hl j y v hj e3 (.inr (.inl hyc));refine⟨ly,c,u,lc,?_,rv⟩;rcases lk with ⟨z,_⟩|⟨_,d,z1,z2⟩
   ·have z':X.env.scope.names.lookup y=some .local:=z;rw[hyc] at z';cases z'
   ·rw[hyl] at z1;cases z1;exact z2
 ·obtain⟨ix,a,ls,rfl,rfl,hq,ha'⟩:=hp;refine⟨_,Dr sm (pv 1 rfl (.inr (.inr ly)) hy1 hy2) (pv 0 rfl (.inl lx) hx1 hx2) (Z.Jn rfl),?_⟩;exact⟨_,rfl,_,rfl,a,ls,ix,.int i,rfl,rfl,hq,ha',rfl,rfl⟩
theorem Ce{β:Type}{g:α->β}{ks:List Int}{l:List α}:jO ks (l.map g)=(jO ks l).map g:=by
 have p:∀l:List α,Paired (λa b=>b=g a) l (l.map g):=λl=>by
  induction l with
  |nil=>exact .nil
  |cons a l ih=>exact .cons rfl ih
 have q:∀{l:List α} {m:List β},Paired (λa b=>b=g a) l m->m=l.map g:=λ{l m} h=>by
  induction h with
  |nil=>rfl
  |cons r _ ih=>rw[r,ih];rfl
 exact q (tV (p l))
structure uO (K:W.Frag) (mg:Str->Option Value) (x:Str):Prop where
 ex:∃c P,W.tabIn K x=some (c,P)/\∀f cdv,Fv K mg x f cdv->cdv=.ref c
theorem pj{c P:Addr}{oc oc':Value}{od od':Option Addr}{sl sl':Array (Option Value)}{fd:FuncData}{vs:Array Value}(a:W.nsIn K mainGlobals x=some (some (.ref f)))(l:K.lookup f=some ⟨oc,od,.func fd,sl⟩)(hc:fd.code=.ref c)
  (lc:K.lookup c=some ⟨oc',od',.fields vs,sl'⟩) (hv:vs[11]?=some (.ref P)):W.tabIn K x=some (c,P):=by
 unfold W.tabIn;rw[a];dsimp only;rw[l];dsimp only;rw[hc];dsimp only;rw[lc];dsimp only;rw[hv]
theorem jT(a:W.nsIn K mainGlobals x=some none):W.tabIn K x=none:=by
 unfold W.tabIn;rw[a]
theorem uO.mk'{mg:Str->Option Value}{c P:Addr}(X:K.In h)(G:h.Ns mainGlobals mg)(ht:W.tabIn K x=some (c,P)):uO K mg x:=
 ⟨c,P,ht,λf cdv ⟨m,o,fd,lk,hd,e⟩=>by rw[<- e];exact W.law_code X G ht m (X _ _ lk) hd⟩
theorem iG.of{q:Program}{o1 o2 o3:Option (Addr×Addr)}(nt:W.noTabs K=true)(t1:W.tabIn K "by_worth"=o1)(t2:W.tabIn K "by_weight"=o2)(t3:W.tabIn K "code_of"=o3)(nd:((o1.toList++(o2.toList++o3.toList)).map (·.2)).Nodup)
  (f1:o1=none\/((recsOf q).find? (λe=>e.name ==("by_worth":Str))).isSome=true) (f2:o2=none\/((recsOf q).find? (λe=>e.name ==("by_weight":Str))).isSome=true) (f3:o3=none\/((recsOf q).find? (λe=>e.name ==("code_of":Str))).isSome=true):iG q K:=by
 refine⟨nt,?_,λx hx=>?_⟩
 ·have e:(cx K).map (·.2.1)=(o1.toList++(o2.toList++o3.toList)).map (·.2):=by
   unfold cx dR
   cases o1<;>cases o2<;>cases o3<;>simp[List.filterMap,t1,t2,t3]
  rw[e];exact nd
 ·unfold dR at hx;rcases JR.mp hx with rfl|hx
  ·rw[t1];exact f1
  ·rcases JR.mp hx with rfl|hx
   ·rw[t2];exact f2
   ·rw[Ka.mp hx,t3];exact f3
namespace Y
noncomputable def CL:V->List V->Hp->VK->Prop:=λx vs H Q=>∃z y,x=.str z/\vs=[.str y]/\z.length<=sizeLine/\Q (.str (Txt.rstripChars z y)) H
theorem mJ:wz X "str.rstrip" CL:=by
 intro pins s σ H x xs v us Q I rx rs h;obtain⟨z,y,rfl,rfl,hz,q⟩:=h;obtain⟨t,rfl⟩:=rx;obtain⟨u,rfl,k,rfl⟩:=vals1 rs;exact SC.rstripChars (λt' k=>⟨.str _,H,I.tok _,⟨_,rfl⟩,q⟩) hz
noncomputable def Fm:V->List V->Hp->VK->Prop:=λx vs H Q=>∃z i y,x=.str z/\vs=[.int i,.str y]/\0<=i/\i<1000/\y.length=1/\Q (.str (Txt.ljustF z i (y.cps.getD 0 0))) H
theorem qh:wz X "str.ljust" Fm:=by
 intro pins s σ H x xs v us Q I rx rs h;obtain⟨z,i,y,rfl,rfl,h0,h1,hy,q⟩:=h;obtain⟨t,rfl⟩:=rx;obtain⟨u1,u2,rfl,⟨t1,rfl⟩,⟨t2,rfl⟩⟩:=vals2 rs;exact ljust_fill (padOk_of (by lia) (by lia)) hy λt' k=>⟨.str _,H,I.tok _,⟨_,rfl⟩,q⟩
end Y
theorem qp(x y:Str):(Txt.rstripChars x y).cps.toList.reverse=x.cps.toList.reverse.dropWhile y.cps.contains:=by
 have key:∀(p:Nat->Bool) (l:List Nat),(l.take (l.length-(l.reverse.takeWhile p).length)).reverse=l.reverse.dropWhile p:=λp l=>by
  have h:(l.reverse.takeWhile p).length<=l.length:=by simpa using (List.takeWhile_sublist p (l:=l.reverse)).length_le
  rw[List.reverse_take,<- tT];congr 1;lia
 have hl:x.length=x.cps.toList.length:=by rw[K0];rfl
 rw[<- key];unfold Txt.rstripChars Txt.stripBy;split
 ·rename_i h;unfold stripSame at h;rw[KO] at h;have h2:x.length-(x.cps.toList.reverse.takeWhile y.cps.contains).length=x.length:=by simpa[stripLo,stripHi] using h.2
  rw[<- hl,h2,hl,KH]
 ·have e:∀(a:Array Nat) (j:Nat),(a.extract 0 j).toList=a.toList.take j:=λa j=>by simp
  have e2:=e x.cps (x.length-(x.cps.toList.reverse.takeWhile y.cps.contains).length);rw[hl] at e2;exact K7 List.reverse e2
namespace Y
noncomputable def HQ:R2:=λx y H Q=>∃(c:Nat) (k:Int),x=.str ⟨#[c]⟩/\y=.int k/\0<=k/\k<=1000/\Q (.str ⟨(List.replicate k.toNat c).toArray⟩) H
theorem sS:dc X (binaryOp .Mult) HQ:=by
 intro pins s σ H x y v u Q I rx ry h;obtain⟨c,k,rfl,rfl,h0,h1,q⟩:=h;obtain⟨t,rfl⟩:=rx;obtain⟨t2,rfl⟩:=ry;have e:Txt.mul ⟨#[c]⟩ k=⟨(List.replicate k.toNat c).toArray⟩:=by
  have:=mul_one_list c k
  cases hz:Txt.mul ⟨#[c]⟩ k with
  |mk a=>rw[hz] at this;rw[<- this,M0]
 have ok:MulOk ⟨#[c]⟩ k:=by
  refine⟨by simp only[Bool.or_eq_false_iff,decide_eq_false_iff_not];lia,λz _=>?_,λz _=>?_⟩
  ·have hl:((⟨#[c]⟩:Str).length:Int)=1:=rfl;rw[hl];have:1<=(2^63-1) / k:=by
    rw[O3 (by lia)];lia
   lia
  ·have hl:(⟨#[c]⟩:Str).length=1:=rfl;rw[hl,Nat.one_mul];exact Ko (OJ.mpr (JX (show k.toNat<=1000 by lia) (by decide)))
 exact SB.mul ok λt' j=>⟨.str _,H,I.tok _,⟨t',by rw[e]⟩,q⟩
noncomputable def xt(K:W.Frag):List V->Hp->VK->Prop:=λxs H Q=>Dl K xs H Q\/∃p ns,xs=[.ref p]/\cf K H p (ns.map V.int)/\ns.length<64/\∀ns':List Int,ns'.Perm ns->ns'.Pairwise (·<=·)->∀l,H l=none->Q (.ref l) (upd H l (.lst (ns'.map V.int)))
theorem qW(K:W.Frag)(hK:X.K=K):bK X (.builtin "sorted") (xt K):=by
 refine (va K hK).or ?_;subst hK;intro pins s σ H xs us Q I r h;obtain⟨p,ns,rfl,hq,h64,q⟩:=h;obtain⟨u,rfl,ru⟩:=vals1 r;cases ru;obtain⟨its,rv,pl,hz⟩:=I.list hq;have hi:=intsAre_of rv;refine sorted_ints pl.isList hi (by rw[lM hi];exact h64) λout ns' a1 a2 a3=>?_
 obtain⟨e,he⟩:=sortedAll_at s.heap its out;refine⟨.ref (s.heap.objs.size+1),_,I.laid (t':=s.toks) (λb ob q=>sortedAll_old q) (KI _) (show bS X.prog X.w _ _ _ (.lst (ns'.map V.int)) from⟨?_,out.toList,e,fL a1,by simpa using he⟩),rfl,q ns' a2 a3 _ (I.bc.fresh (KI _))⟩
 rw[JK,a2.length_eq];exact JX (LC h64) (by decide)
noncomputable def GV:V->List V->Hp->VK->Prop:=λx vs H Q=>∃a:Int,x=.int a/\vs=[]/\Q (.int (Builtin.Int.intBits a:Nat)) H
theorem um:wz X "int.bit_length" GV:=by
 intro pins s σ H x xs v us Q I rx rs h;obtain⟨a,rfl,rfl,q⟩:=h;obtain⟨t,rfl⟩:=rx;obtain rfl:=Paired.wC rs;exact call_int_bit_length ⟨.int _,H,I.tok _,⟨_,rfl⟩,q⟩
end Y
noncomputable def jf(h:Heap)(d:Addr)(es:Array DictEntry)(ep:Nat):Prop:=∃o,h.get? d=some o/\o.ExactDict/\o.data=.dict es ep
section
variable {prog:Program} {w:World} {A:Around} {E:Value->Shared->Prop} {s:Shared}
theorem jf.ty(x:jf s.heap d es ep):s.TypeIs (.ref d) "dict":=let ⟨o,ho,hc,_⟩:=x;⟨o,ho,hc.1⟩
theorem jf.keep(x:jf h d es ep)(k:∀o,h.get? d=some o->h'.get? d=some o):jf h' d es ep:=let ⟨o,ho,r⟩:=x;⟨o,k _ ho,r⟩
theorem jf.lt(x:jf h d es ep):d<h.objs.size:=let ⟨_,ho,_⟩:=x;Ke ho
theorem Bt(low:(d == sysModules)=false)(x:jf s.heap d es ep)
  (q:Q (.ref s.heap.objs.size) {s with heap:=s.heap.push {cls:=.type "dict_keyiterator",data:=.fields #[.ref d,.int 0 0,.int es.size 0,.int ep 0]}}):wpAny (model prog w) A (pyIter (.ref d)) Q E s:=by
 obtain⟨o,ho,hx,hdat⟩:=id x;refine wpAny_pyIter_slot x.ty PySem.F.slot_dict_iter (KZ PySem.F.slot_dict_iter x.ty PySem.F.entry_dict_iter ?_ (PySem.F.args_dict_iter_1 _));unfold Builtin.«dict.__iter__» Builtin.Dict.dictSlotNone;refine JJ (JJ (wpAny_notOrdered_dict x.ty ?_));show wpAny _ _ (pure (Value.ref d)) _ _ s;refine JV ?_;show wpAny _ _ (Builtin.Dict.showsAll d >>= _) _ _ s;unfold Builtin.Dict.showsAll;rw[low,JN JZ];refine JJ (JV (JJ (MT ho hdat (JJ (Ou ho hdat ?_)))));exact JJ (Ln (JV ⟨_,rfl,"dict_keyiterator",_,⟨_,Kc _ rfl,rfl⟩,PySem.F.slot_dict_keyiterator_next.lookup,q⟩))
theorem B1{it:Addr}{Q:Option Value->Shared->Prop}(hit:s.heap.IsKeyIter it d i es.size ep)(x:jf s.heap d es ep)(hi:i<es.size)
  (q:∀h',h'.IsKeyIter it d (i+1) es.size ep->Heap.SameBut it s.heap h'->Q (some es[i].key) {s with heap:=h'}):wpAny (model prog w) A (pyNext (.ref it)) Q E s:=by
 obtain⟨o,ho,hc,hd⟩:=id hit;obtain⟨od,hod,hx,hdd⟩:=id x;unfold pyNext;refine JJ (MY (KJ (name:=Str.ofString "__next__") hit.typeIs PySem.F.slot_dict_keyiterator_next (KZ PySem.F.slot_dict_keyiterator_next hit.typeIs PySem.F.entry_dict_keyiterator_next ?_ (PySem.F.args_dict_keyiterator_next_1 _))));refine JJ (JV (JJ (JJ ?_)))
 first|refine JJ (L8 hit.typeIs (JV (JJ (N5 ho hd ?_))))|refine JJ (LP hit.typeIs (JV (JJ (N5 ho hd ?_))))
 simp only[show Builtin.Dict_items.ownsTuple "dict_keyiterator"=false by decide,MH,Mv]
 show wpAny _ _ (if (Value.ref d == Value.none)=true then _ else _) _ _ s;rw[JN (show ¬ ((Value.ref d == Value.none)=true) from JZ)]
 refine JJ (JV (JJ (MT hod hdd ?_)));rw[JN (by simp)]
 refine JJ (JV (JJ (Ou hod hdd ?_)));rw[JN (by simp)]
 refine JV ?_;simp only[show ¬ ((i:Int)<0) by lia,Mv,Ky,NV hi]
 refine JJ ?_
 first|refine JJ (L8 hit.typeIs (JV (JJ (Nd hit.typeIs ?_))))|refine JJ (LP hit.typeIs (JV (JJ (Nd hit.typeIs ?_))))
 show wpAny _ _ (setField (.ref it) 1 (rawInt ((i:Int)+1)) >>= _) _ _ s;refine JJ (N3 ho hd (by simp) ?_)
 have h2:(s.heap.update it (Obj.mapFields (·.setIfInBounds 1 (rawInt ((i:Int)+1))))).IsKeyIter it d (i+1) es.size ep:=⟨_,Mm _ ho (Obj.isFreed_of_fields (MI hd _)),(Obj.cls_mapFields ..).trans hc,by rw[MI hd];simp[rawInt]⟩
 refine JJ (Lb (JJ (Nd (s:={s with heap:=s.heap.update it (Obj.mapFields (·.setIfInBounds 1 (rawInt ((i:Int)+1))))}) h2.typeIs ?_)))
 show wpAny _ _ (pure es[i].key) _ _ _;exact JV (JV ⟨_,rfl,JV (q _ h2 (Lf ..))⟩)
theorem Co{it:Addr}{Q:Option Value->Shared->Prop}(hh:A.handled=none)(hit:s.heap.IsKeyIter it d es.size es.size ep)(x:jf s.heap d es ep)
  (q:∀h',Heap.ExtBut it s.heap h'->Q none {s with heap:=h'}):wpAny (model prog w) A (pyNext (.ref it)) Q E s:=by
 obtain⟨o,ho,hc,hd⟩:=id hit;obtain⟨od,hod,hx,hdd⟩:=id x;unfold pyNext;refine JJ (MY (KJ (name:=Str.ofString "__next__") hit.typeIs PySem.F.slot_dict_keyiterator_next (KZ PySem.F.slot_dict_keyiterator_next hit.typeIs PySem.F.entry_dict_keyiterator_next ?_ (PySem.F.args_dict_keyiterator_next_1 _))));refine JJ (JV (JJ (JJ ?_)))
 first|refine JJ (L8 hit.typeIs (JV (JJ (N5 ho hd ?_))))|refine JJ (LP hit.typeIs (JV (JJ (N5 ho hd ?_))))
 simp only[show Builtin.Dict_items.ownsTuple "dict_keyiterator"=false by decide,MH,Mv]
 show wpAny _ _ (if (Value.ref d == Value.none)=true then _ else _) _ _ s;rw[JN (show ¬ ((Value.ref d == Value.none)=true) from JZ)]
 refine JJ (JV (JJ (MT hod hdd ?_)));rw[JN (by simp)]
 refine JJ (JV (JJ (Ou hod hdd ?_)));rw[JN (by simp)]
 refine JV ?_;simp only[show ¬ ((es.size:Int)<0) by lia,Mv,Ky,O4 (JS es.size)]
 refine JJ ?_
 first|refine JJ (L8 hit.typeIs (JV ?_))|refine JJ (LP hit.typeIs (JV ?_))
 show wpAny _ _ (setField (.ref it) 0 .none >>= _) _ _ s;refine JJ (N3 ho hd (by simp) ?_)
 show wpAny _ _ (newExc (.type "StopIteration") [] >>= _) _ _ _;refine JJ ?_;simp only[newExc,newTuple];refine JJ (Ln ?_ (by size_fits))
 refine JJ (m:=firstArgMember _ _) (wpAny_of_eq (a:=Value.none) (by first|rfl | (simp only[firstArgMember];rfl)) (Ln ?_ (by size_fits)))
 simp only[raiseNew];refine JJ (wpAny_handled ?_);rw[show A.in1.handled=none from hh];refine JJ (JV (wpAny_throw ?_));refine JJ (wpAny_isInstance (T:="StopIteration") (b:=true) ⟨_,Kc _ rfl,rfl⟩ isSubtype_stop ?_);exact JV (q _ (((Lf ..).extBut.push _).push _))
end
theorem zw{w:World}{A:Around}(hh:A.handled=none)(I d:Addr)(ne:d≠I)(es:Array DictEntry)(ep:Nat):
  Walks prog w A I [I,d] [I] es.size (λi v=>∃h:i<es.size,v=es[i].key) (λi h=>h.IsKeyIter I d i es.size ep/\jf h d es ep) where
 sub:=λb hb=>by simp at hb;simp[hb]
 frame:=λ_ _ _ st hk=>⟨st.1.at λo e=>hk I (by simp) o e,st.2.keep λo e=>hk d (by simp) o e⟩
 item:=λi s Q E hi st hQ=>B1 st.1 st.2 hi λh' a b=>hQ _ h' s.toks ⟨hi,rfl⟩ ⟨a,st.2.keep λo e=>b.extBut _ _ ne e⟩ λc o hc e=>b.extBut c o (λh=>hc (by simp[h])) e
 done:=λs Q E st hQ=>Co hh st.1 st.2 λh' he=>hQ h' s.toks λc o hc e=>he c o (λh=>hc (by simp[h])) e
 self:=λ_ _ _ _ st hQ=>wpAny_pyIter_keyiter st.1 hQ
theorem Eh{w:World}(low:(d == sysModules)=false):W.KdlSrc prog w "dict" d d es.size (λi v=>∃h:i<es.size,v=es[i].key) (λh=>jf h d es ep) where
 type:=λ_ x=>x.ty
 there:=λ_ x=>⟨x.lt,x.lt⟩
 keep:=λ_ _ x k=>x.keep λo e=>k d (.inl rfl) o e
 notList:=by decide
 notTuple:=by decide
 hint:=λ_ _ _ _ x q=>W.kdl_hint_dict x.ty q
 iter:=λ_ _ hh x=>⟨_,_,(λ_ _ q=>Bt low x q),zw hh _ d (Kn x.lt) es ep,⟨⟨_,Kc _ rfl,rfl,rfl⟩,x.keep λ_ e=>JM _ e⟩⟩
theorem zH{es:List DictEntry}(h:KTD.Rows (xI K) es D):es.length=D.length:=by
 induction h with
 |nil=>rfl
 |cons _ _ _ ih=>simp[ih]
theorem yv{es:List DictEntry}(h:KTD.Rows (xI K) es D):Vals (D.map λp=>V.str p.1) (es.map λe=>e.key):=by
 induction h with
 |nil=>exact .nil
 |cons e _ _ ih=>exact .cons ⟨_,e⟩ ih
noncomputable def Ff(K:W.Frag)(D:List (Str×List Str)):List V->Hp->VK->Prop:=λxs H Q=>∃d,xs=[.ref d]/\kZ K d D/\D.length<=sizeLine/\∀l,H l=none->Q (.ref l) (upd H l (.lst (D.map λp=>V.str p.1)))
theorem lR(K:W.Frag)(hK:X.K=K)(hc:X.calm=true):bK X (.type "list") (Ff K D):=by
 intro pins s σ H xs us Q I r h;subst hK;obtain⟨d,rfl,hd,hz,q⟩:=h;obtain⟨u,rfl,rx⟩:=vals1 r;cases rx;obtain⟨o,es,ep,ho,hx,hdat,hr⟩:=hd.ex;have at0:jf s.heap d es ep:=⟨o,I.pJ _ _ ho,hx,hdat⟩;have hl:es.size=D.length:=by rw[<- zH hr,K0]
 refine W.kdl_call (Eh hd.low) (I.ok.hd hc) at0 (by rw[hl];exact hz) λh' tk acc c' hk hS hI=>?_
 have hv:Vals (D.map λp=>V.str p.1) acc.toList:=by
  have e:acc.toList=es.toList.map λe=>e.key:=by
   refine NM λj=>?_;rw[Kx,JW,Kx]
   cases z:acc[j]? with
   |none =>
    have:acc.size<=j:=NJ.mp z;rw[O4 (by rw[<- hI.1];exact this)];rfl
   |some v =>
    obtain⟨hj,rfl⟩:=hI.2 j v z;rw[NV hj];rfl
  rw[e];exact yv hr
 refine⟨.ref s.heap.objs.size,_,I.laid (t':=tk) hk (JS _) (show bS X.prog X.w _ h' _ (.lst _) from⟨?_,acc.toList,c',hv,by simpa using hS⟩),rfl,q _ (I.bc.fresh (JS _))⟩
 rw[JK];exact hz
section
variable {K:W.Frag} {g:TG} {tb:TS} {D:Ends} {σ:St} {H:Hp} {te:TE} {Q:VK}
theorem ip{a:Addr}(hn:xs.length<=sizeLine)(Pv:Addr->Nat->List V->Hp->Prop)(h0:∀D,H D=none->Pv D 0 [] (upd H D (.lst [])))(hD:∀D i ys H',Pv D i ys H'->H' D=some (.lst ys)/\ys.length=i)
  (hl:∀D i ys H',Pv D i ys H'->cf K H' a xs)
  (hs:∀D i ys H' x (R:VK),xs[i]?=some x->Pv D i ys H'->(∀v H5,H5 D=some (.lst ys)->Pv D (i+1) (ys++[v]) (upd H5 D (.lst (ys++[v])))->R v H5)->te (some x::σ) H' R) (hd:∀D ys H',Pv D xs.length ys H'->Q (.ref D) H') :
  tU (wO K a) 1 (bT 0) jx te Q σ H:=by
 intro D hD0;refine⟨λi m ys σ' H'=>m=xs.length-i/\i<=xs.length/\Pv D i ys H'/\∃o,σ'=o::σ,⟨xs.length,by simp,Kh _,h0 D hD0,none,rfl⟩,?_⟩
 rintro i m ys σ' H' ⟨rfl,hi,p,o,rfl⟩;obtain⟨hDi,hly⟩:=hD _ _ _ _ p;have q:=hl _ _ _ _ p;refine⟨hDi,?_⟩;by_cases hlt:i<xs.length
 ·refine .inr ⟨⟨xs,xs[i],q,by simp[hlt]⟩,by lia,λx H2 y=>?_⟩
  obtain⟨rfl,y⟩:=y;unfold bT jx;dsimp only;rw[if_pos rfl];exact hs D i ys H2 x _ (y xs q) p λv H5 q1 q2=>⟨q1,xs.length-(i+1),by lia,rfl,hlt,q2,_,rfl⟩
 ·have e:i=xs.length:=by lia
  subst e;exact .inl ⟨⟨xs,q,JS _⟩,hd D ys H' p⟩
end
noncomputable def but(B:lX)(a:Addr):lX:=λb=>B b/\b≠a
noncomputable def IF(K:W.Frag)(mg:Str->Option Value)(x:Str):Prop:=∃p o,mg x=some (.ref p)/\K.lookup p=some o/\o.dict=none
open Builtin Builtin.Str
open PySem PySem.Spec PyProof PyProof.Rows
open Builtin Builtin.Str
open PySem PySem.Spec PyProof PyProof.Rows
open PySem PySem.Spec PyProof PyProof.Rows PySem.W
open PySem PySem.Calls PySem.NumText PySem.Spec PyProof PyProof.Rows
variable{cs:List Nat}{E Q:Value->Shared->Prop}{x:PySem.Str}{P prog:Program}{w:World}{X:Cx}{i k:Nat}{h h':Heap}{xs:Array Value}{β:Type}{K:W.Frag}{es ifs:List Expr}{a:Addr}{σ:St}{H:Hp}{p:Pos}{e iter:Expr}{osc scope:Scope}{N ON own:List Str}
noncomputable def ll(cs:List Nat):Nat:=cs.foldl (λa c=>a*2+(c-48)) 0
noncomputable def eC(cs:List Nat):Prop:=∀c∈cs,c=48\/c=49
theorem GI{c:Nat}(h:c=48\/c=49)(ds:Array Nat)(b:Bool):step 2 (ds,b) c=some (ds.push (c-48),true):=by
 rcases h with rfl|rfl<;>rfl
theorem Dx:∀(cs:List Nat) (ds:Array Nat) (b:Bool),eC cs->∃ds':Array Nat,cs.foldlM (step 2) (ds,b)=some (ds',b || !cs.isEmpty)/\ds'.foldl (λa d=>a*2+d) 0=cs.foldl (λa c=>a*2+(c-48)) (ds.foldl (λa d=>a*2+d) 0)
 |[],ds,b,_=>⟨ds,by simp,rfl⟩
 |c::cs,ds,b,h=>by
  obtain⟨ds',e1,e2⟩:=Dx cs (ds.push (c-48)) true λx hx=>h x (JT _ hx);refine⟨ds',?_,?_⟩
  ·rw[List.foldlM_cons,GI (h c JU)];show cs.foldlM (step 2) (ds.push (c-48),true)=_;rw[e1];simp
  ·rw[e2,Array.foldl_push,Ni]
theorem vk{c:Nat}(h:c=48\/c=49):blank c=false:=by rcases h with rfl|rfl<;>rfl
theorem qa(h:eC cs):cs.dropWhile blank=cs:=by
 cases cs with
 |nil=>rfl
 |cons c cs=>rw[MC,vk (h c JU)];rfl
theorem zv(h:eC cs):sign cs=(false,cs):=by
 cases cs with
 |nil=>rfl
 |cons c cs=>rcases h c JU with rfl|rfl<;>rfl
theorem ve(h:eC cs):based 2 cs=(2,false,cs):=by
 have e:PySem.NumText.prefix? cs=none:=by
  rcases cs with _|⟨c,_|⟨d,cs⟩⟩
  ·rfl
  ·rcases h c JU with rfl|rfl<;>rfl
  ·rcases h c JU with rfl|rfl
   ·rcases h d (JT _ JU) with rfl|rfl<;>rfl
   ·rfl
 unfold based;rw[e];rfl
theorem xE{cs:List Nat}(h:eC cs)(h0:cs≠[]):(int_private% "readNumeral") 0 2 cs=(int_private% "Numeral.value") (ll cs:Int):=by
 rw[readNumeral_eq,qa h,zv h];show judge 0 false (based 2 cs).1 (based 2 cs).2.1 (digits? (based 2 cs).1 (((based 2 cs).2.2.reverse.dropWhile blank).reverse))=_;rw[ve h];show judge 0 false 2 false (digits? 2 ((cs.reverse.dropWhile blank).reverse))=_;rw[qa (cs:=cs.reverse) (λc hc=>h c (LA.mp hc)),My];obtain⟨ds,e1,e2⟩:=Dx cs #[] false h;have e3:digits? 2 cs=some ds:=by
  unfold digits?;rw[e1]
  cases cs with
  |nil=>exact absurd rfl h0
  |cons=>rfl
 rw[e3];show (int_private% "Numeral.value") ((ds.foldl (λacc d=>acc*2+d) 0:Nat):Int)=_;rw[e2];rfl
theorem qw:∀{cs:List Nat},eC cs->cs.takeWhile (· != 0)=cs
 |[],_=>rfl
 |c::cs,h=>by
  rw[Nx,show (c != 0)=true by rcases h c JU with rfl|rfl<;>rfl,JQ rfl,qw λx hx=>h x (JT _ hx)]
theorem yw{M:Model}{A:Around}{s:Shared}{v:Value}{text:List Nat}{n:Int}
  (hs:(text.takeWhile (· != 0)).length<=640) (hr:(int_private% "readNumeral") 0 2 (text.takeWhile (· != 0))=(int_private% "Numeral.value") n)
  (ha:((text.takeWhile (· != 0)).length == text.length)=true) (h:Q (.int n s.toks) {s with toks:=s.toks+1}) :
  wpAny M A ((int_private% "intFromText") v text 2) Q E s:=by
 obtain⟨hp,g,d,tk,os⟩:=s
 repeat (any_goals (first
  |assumption
  | (with_reducible refine N6 (Kw hs) ?_)
  | (with_reducible refine N6 (Kw ha) ?_)
  |wp_step))
 all_goals (try rw[hr])
 all_goals (try dsimp only)
 repeat (any_goals (first
  |assumption
  | (with_reducible refine N6 (Kw hs) ?_)
  | (with_reducible refine N6 (Kw ha) ?_)
  |wp_step))
theorem p5{u t:Tok}(hl:x.length<=640)(hb:eC x.cps.toList)(h0:x.cps.toList≠[]):Gives (Builtin.«int.__new__» ⟨[.type "int",.str x u,.int 2 t],[]⟩) (.int (ll x.cps.toList)):=
 .of_wp λM A E s Q h=>by
  obtain⟨hp,g,d,tk,os⟩:=s;have f1:=F.conv_sub_int;have f2:=F.madeHere_int;have f6:typeOf (.str x u)=pure (.type "str"):=rfl;have ht:x.cps.all (· < 128)=true:=by
   rw[<- Array.all_toList,Lv];intro c hc;rcases hb c hc with rfl|rfl<;>rfl
  have hs:=qw hb;have hk:=W.KIN.Hid.mk (And.intro (show (x.cps.toList.takeWhile (· != 0)).length<=640 by rw[hs];exact hl) (And.intro (show (int_private% "readNumeral") 0 2 (x.cps.toList.takeWhile (· != 0))=(int_private% "Numeral.value") (ll x.cps.toList:Int) by rw[hs];exact xE hb h0) (show ((x.cps.toList.takeWhile (· != 0)).length == x.cps.toList.length)=true by rw[hs];simp)))
  clear hs hl hb h0
  repeat (any_goals (first
   |assumption
   | ((with_reducible show wpAny _ _ ((int_private% "intFromText") _ _ _) _ _ _);(try rw[JQ ht]);refine yw hk.out.1 hk.out.2.1 hk.out.2.2 ?_)
   |wp_step))
  all_goals first|exact⟨_,rfl,h⟩|skip
theorem kf(a b:Value):checkTypeCall "int" ⟨[a,b],[]⟩=pure ():=by kernel_rfl
theorem me(a b:Value):checkBuiltinCall "int.__new__" ⟨[.type "int",a,b],[]⟩=pure ():=by kernel_rfl
theorem qM{A:Around}{s:Shared}{u t:Tok}(hl:x.length<=640)(hb:eC x.cps.toList)(h0:x.cps.toList≠[])(h:Q (.int (ll x.cps.toList) s.toks) {s with toks:=s.toks+1}):wpAny (model prog w) A (call (.type "int") [.str x u,.int 2 t]) Q E s:=
 OT F.called_int F.newNe_int (kf _ _) (me _ _) (λobj=>F.args_object_init_3 obj _ _) F.entry_int_new (p5 hl hb h0).meets (show (Made.int _).post _ s from⟨rfl,h⟩)
noncomputable def DM:List V->Hp->VK->Prop:=λxs H Q=>∃z:Str,xs=[.str z,.int 2]/\z.length<=640/\eC z.cps.toList/\z.cps.toList≠[]/\Q (.int (ll z.cps.toList)) H
theorem mK:bK X (.type "int") DM:=by
 intro pins s σ H xs us Q I r h;obtain⟨z,rfl,h1,h2,h3,q⟩:=h;obtain⟨u,v,rfl,⟨t,rfl⟩,⟨t',rfl⟩⟩:=vals2 r;exact qM h1 h2 h3 ⟨.int _,H,I.tok _,⟨_,rfl⟩,q⟩
abbrev Src:=Bool×Addr×Addr
variable{q:Src}
abbrev fS(h:Heap)(T:Addr)(xs:List Value):Prop:=h.get? T=some {cls:=.type "tuple",data:=.seq xs.toArray}
structure Zn (z TI TO:Addr) (S:List Src):Prop where
 zt:TI≠z/\TO≠z/\TI≠TO
 it:∀q∈S,q.2.1≠z/\q.2.1≠TI/\q.2.1≠TO
 sr:∀q∈S,q.2.2≠z/\q.2.2≠TO/\∀p∈S,q.2.2≠p.2.1
 nd:(S.map λq=>q.2.1).Nodup
noncomputable def rj(i:Nat)(h:Heap)(q:Src):Prop:=k_ q.1 h q.2.1 q.2.2 i
noncomputable def Di(h:Heap)(q:Src)(xs:Array Value):Prop:=eN q.1 h q.2.2 xs
theorem rj.kp(x:rj i h q)(k:∀o,h.get? q.2.1=some o->h'.get? q.2.1=some o):rj i h' q:=by
 obtain⟨b,it,a⟩:=q
 cases b with
 |true=>obtain⟨o,e,r⟩:=(show h.IsListIter it a i from x);exact⟨o,k o e,r⟩
 |false=>obtain⟨o,e,r⟩:=(show h.IsTupleIter it a i from x);exact⟨o,k o e,r⟩
theorem Di.kp(x:Di h q xs)(k:∀o,h.get? q.2.2=some o->h'.get? q.2.2=some o):Di h' q xs:=by
 obtain⟨b,it,a⟩:=q
 cases b with
 |true=>obtain⟨o,e,r⟩:=(show h.IsList a xs from x);exact⟨o,k o e,r⟩
 |false=>obtain⟨o,e,r⟩:=(show h.IsTuple a xs from x);exact⟨o,k o e,r⟩
noncomputable def pU(i:Nat)(h:Heap)(q:Src)(u:Value):Prop:=rj i h q/\∃xs,Di h q xs/\xs[i]?=some u
theorem pU.kp{u:Value}(x:pU i h q u)(k:∀c o,c=q.2.1\/c=q.2.2->h.get? c=some o->h'.get? c=some o):pU i h' q u:=⟨x.1.kp λo=>k _ o (.inl rfl),let ⟨xs,a,b⟩:=x.2;⟨xs,a.kp λo=>k _ o (.inr rfl),b⟩⟩
section
variable {prog:Program} {w:World} {A:Around} {E:Value->Shared->Prop} {z TI TO:Addr} {S:List Src} {i:Nat}
noncomputable def Step(prog:Program)(w:World)(A:Around)(E:Value->Shared->Prop)(z TI TO:Addr)(S:List Src)(i:Nat)(f:Value×Nat->β->Sem (ForInStep β))(b:β):Prop:=
 ∀q∈S,∀(j:Nat) (arr:List Value) (u:Value) (s:Shared) (Q:ForInStep β->Shared->Prop),IsZip s.heap z TI TO .ellipsis->fS s.heap TO arr->arr.length<=3->pU i s.heap q u ->
  (∀h' tk,fS h' TO (arr.set j u)->rj (i+1) h' q->(∀c o,c≠TO->c≠q.2.1->s.heap.get? c=some o->h'.get? c=some o)->h'.objs.size=s.heap.objs.size->Q (.yield b) {s with heap:=h',toks:=tk})->wpAny (model prog w) A (f (.ref q.2.1,j) b) Q E s
theorem BK(D:Zn z TI TO S){f:Value×Nat->β->Sem (ForInStep β)}{b:β}(hf:Step prog w A E z TI TO S i f b):
  ∀(todo:List Src) (us pre old:List Value) (s:Shared) (Q:β->Shared->Prop),(∀q∈todo,q∈S)->(todo.map λq=>q.2.1).Nodup->IsZip s.heap z TI TO .ellipsis->fS s.heap TO (pre++old)->(pre++old).length<=3->old.length=todo.length->Paired (pU i s.heap) todo us ->
  (∀h' tk,IsZip h' z TI TO .ellipsis->fS h' TO (pre++us)->(∀q∈todo,rj (i+1) h' q)->(∀c o,c≠TO->(∀q∈todo,c≠q.2.1)->s.heap.get? c=some o->h'.get? c=some o)->h'.objs.size=s.heap.objs.size->Q b {s with heap:=h',toks:=tk}) ->
  wpAny (model prog w) A (forIn ((todo.map λq=>Value.ref q.2.1).zipIdx pre.length) b f) Q E s:=by
 intro todo
 induction todo with
 |nil =>
  intro us pre old s Q _ _ hz ht _ hl dr k;obtain rfl:=Paired.wC dr;have e:old=[]:=LW.mp hl;subst e;rw[Ml,List.zipIdx_nil,List.forIn_nil];exact JV (k s.heap s.toks hz ht (λq hq=>(nomatch hq)) (λc o _ _ h=>h) rfl)
 |cons q todo ih =>
  intro us pre old s Q hm nd hz ht hn hl dr k;obtain⟨u,us,rfl,du,dr⟩:=Paired.j6 dr
  cases old with
  |nil=>cases hl
  |cons o old =>
   rw[Ku,Lq] at nd;have hq:=hm q JU;rw[Ku,Og,Mb];refine JJ (hf q hq pre.length _ u s _ hz ht hn du λh1 tk t1 a1 kp sz=>?_);rw[OE _ _ (JS _),Li,NB,<- OF,<- Kj] at t1;have di:=D.it q hq;have z1:IsZip h1 z TI TO .ellipsis:=kp _ _ D.zt.2.1.symm di.1.symm hz;show wpAny _ _ (forIn _ b f) _ _ _;rw[show pre.length+1=(pre++[u]).length by rw[JL];rfl]
   refine ih us (pre++[u]) old {s with heap:=h1,toks:=tk} Q (λp hp=>hm p (JT _ hp)) nd.2 z1 t1 (by rw[Kj,JL] at *;exact hn) (Nat.succ.inj hl) ?_ λh2 tk2 z2 t2 a2 kp2 sz2=>?_
   ·have key:∀{l:List Src} {vs:List Value},(∀p∈l,p∈q::todo)->(∀p∈l,p.2.1≠q.2.1)->Paired (pU i s.heap) l vs->Paired (pU i h1) l vs:=λ{l}=>by
     induction l with
     |nil=>intro vs _ _ h;obtain rfl:=Paired.wC h;exact .nil
     |cons p l ihl =>
      intro vs hp hne h;obtain⟨v,vs,rfl,dv,h⟩:=Paired.j6 h;have hpS:=hm p (hp p JU);refine .cons (dv.kp λc o hc e=>?_) (ihl (λx hx=>hp x (JT _ hx)) (λx hx=>hne x (JT _ hx)) h);rcases hc with rfl|rfl
      ·exact kp _ _ (D.it p hpS).2.2 (hne p JU) e
      ·exact kp _ _ (D.sr p hpS).2.1 ((D.sr p hpS).2.2 q hq) e
    exact key (λp hp=>JT _ hp) (λp hp e=>nd.1 (by rw[<- e];exact L9 (f:=λq:Src=>q.2.1) hp)) dr
   ·refine k h2 tk2 z2 (by rw[Kj] at t2;exact t2) (λp hp=>?_) (λc o c1 c2 e=>kp2 c o c1 (λp hp=>c2 p (JT _ hp)) (kp c o c1 (c2 q JU) e)) (sz2.trans sz)
    rcases JR.mp hp with rfl|hp
    ·exact a1.kp λo e=>kp2 _ o di.2.2 (λx hx e2=>nd.1 (by rw[e2];exact L9 (f:=λq:Src=>q.2.1) hx)) e
    ·exact a2 p hp
noncomputable def Gw(prog:Program)(w:World)(A:Around)(E:Value->Shared->Prop)(z TI TO:Addr)(S:List Src)(i:Nat)(f:Value×Nat->β->Sem (ForInStep β))(b:β):Prop:=
 ∀q∈S,∀(j:Nat) (s:Shared) (Q:ForInStep β->Shared->Prop),IsZip s.heap z TI TO .ellipsis->rj i s.heap q->(∃xs:Array Value,Di s.heap q xs/\xs.size=i) ->
  (∀h' e tk,(∀c o,c≠z->c≠q.2.1->s.heap.get? c=some o->h'.get? c=some o)->(∃o,h'.get? e=some o/\o.cls=.type "StopIteration")->E (.ref e) {s with heap:=h',toks:=tk})->wpAny (model prog w) A (f (.ref q.2.1,j) b) Q E s
theorem AF(D:Zn z TI TO S){f:Value×Nat->β->Sem (ForInStep β)}{b:β}(hf:Step prog w A E z TI TO S i f b)(he:Gw prog w A E z TI TO S i f b){r:List Src}:
  ∀(a:List Src) (us pre old:List Value) (s:Shared) (Q:β->Shared->Prop),(∀p∈a++q::r,p∈S)->((a++q::r).map λq=>q.2.1).Nodup->IsZip s.heap z TI TO .ellipsis->fS s.heap TO (pre++old)->(pre++old).length<=3->a.length<old.length->Paired (pU i s.heap) a us->rj i s.heap q->(∃xs:Array Value,Di s.heap q xs/\xs.size=i) ->
  (∀h' e tk,(∀c o,c≠z->c≠TO->(∀q∈S,c≠q.2.1)->s.heap.get? c=some o->h'.get? c=some o)->(∃o,h'.get? e=some o/\o.cls=.type "StopIteration")->E (.ref e) {s with heap:=h',toks:=tk}) ->
  wpAny (model prog w) A (forIn (((a++q::r).map λq=>Value.ref q.2.1).zipIdx pre.length) b f) Q E s:=by
 intro a
 induction a with
 |nil =>
  intro us pre old s Q hm nd hz ht hn hl dr hi hx k;have hq:=hm q JU;rw[Lr,Ku,Og,Mb];exact JJ (he q hq _ s _ hz hi hx λh' e tk kp ho=>k h' e tk (λc o c1 _ c3 x=>kp c o c1 (c3 q hq) x) ho)
 |cons p a ih =>
  intro us pre old s Q hm nd hz ht hn hl dr hi hx k;obtain⟨u,us,rfl,du,dr⟩:=Paired.j6 dr
  cases old with
  |nil=>exact absurd hl (LH _)
  |cons o old =>
   rw[Lj,Ku,Lq] at nd;have hp:=hm p JU;rw[Lj,Ku,Og,Mb];refine JJ (hf p hp pre.length _ u s _ hz ht hn du λh1 tk t1 a1 kp sz=>?_);rw[OE _ _ (JS _),Li,NB,<- OF,<- Kj] at t1;have z1:IsZip h1 z TI TO .ellipsis:=kp _ _ D.zt.2.1.symm (D.it p hp).1.symm hz;have ne:∀x∈a++q::r,x.2.1≠p.2.1:=λx hx e=>nd.1 (by rw[<- e];exact L9 (f:=λq:Src=>q.2.1) hx)
   have up:∀x∈a++q::r,∀c o,c=x.2.1\/c=x.2.2->s.heap.get? c=some o->h1.get? c=some o:=λx hx c o hc e=>by
    have hxS:=hm x (JT _ hx);rcases hc with rfl|rfl
    ·exact kp _ _ (D.it x hxS).2.2 (ne x hx) e
    ·exact kp _ _ (D.sr x hxS).2.1 ((D.sr x hxS).2.2 p hp) e
   have hqm:q∈a++q::r:=Kl _ JU;show wpAny _ _ (forIn _ b f) _ _ _;rw[show pre.length+1=(pre++[u]).length by rw[JL];rfl]
   refine ih us (pre++[u]) old {s with heap:=h1,toks:=tk} Q (λx hx=>hm x (JT _ hx)) nd.2 z1 t1 (by rw[Kj,JL] at *;exact hn) (Nat.lt_of_succ_lt_succ hl) ?_ (hi.kp λo=>up q hqm _ o (.inl rfl)) (let ⟨xs,x1,x2⟩:=hx;⟨xs,x1.kp λo=>up q hqm _ o (.inr rfl),x2⟩) λh2 e tk2 kp2 ho=>k h2 e tk2 (λc o c1 c2 c3 x=>kp2 c o c1 c2 c3 (kp c o c2 (c3 p hp) x)) ho
   have key:∀{l:List Src} {vs:List Value},(∀x∈l,x∈a)->Paired (pU i s.heap) l vs->Paired (pU i h1) l vs:=λ{l}=>by
    induction l with
    |nil=>intro vs _ h;obtain rfl:=Paired.wC h;exact .nil
    |cons y l ihl =>
     intro vs hy h;obtain⟨v,vs,rfl,dv,h⟩:=Paired.j6 h;exact .cons (dv.kp (up y (L3 _ (hy y JU)))) (ihl (λx hx=>hy x (JT _ hx)) h)
   exact key (λx h=>h) dr
theorem A_(D:Zn z TI TO S){f:Value×Nat->β->Sem (ForInStep β)}{b:β}(hf:Step prog w A E z TI TO S i f b)(he:Gw prog w A E z TI TO S i f b){old:List Value}{s:Shared}{Q:β->Shared->Prop}(hz:IsZip s.heap z TI TO .ellipsis)(ht:fS s.heap TO old)(hn:old.length<=3)(hl:old.length=S.length)
  (hh:(∃us,Paired (pU i s.heap) S us/\∀h' tk,IsZip h' z TI TO .ellipsis->fS h' TO us->(∀q∈S,rj (i+1) h' q)->(∀c o,c≠TO->(∀q∈S,c≠q.2.1)->s.heap.get? c=some o->h'.get? c=some o)->h'.objs.size=s.heap.objs.size->Q b {s with heap:=h',toks:=tk}) \/
   ∃a q r us,S=a++q::r/\Paired (pU i s.heap) a us/\rj i s.heap q/\(∃xs:Array Value,Di s.heap q xs/\xs.size=i)/\∀h' e tk,(∀c o,c≠z->c≠TO->(∀q∈S,c≠q.2.1)->s.heap.get? c=some o->h'.get? c=some o)->(∃o,h'.get? e=some o/\o.cls=.type "StopIteration")->E (.ref e) {s with heap:=h',toks:=tk}) :
  wpAny (model prog w) A (forIn ((S.map λq=>Value.ref q.2.1).zipIdx) b f) Q E s:=by
 rcases hh with ⟨us,dr,k⟩|⟨a,q,r,us,rfl,dr,hi,hx,k⟩
 ·exact BK D hf S us [] old s Q (λq h=>h) D.nd hz ht hn hl dr k
 ·exact AF D hf he a us [] old s Q (λq h=>h) D.nd hz ht hn (by rw[show old.length=_ from hl,JL,J_];lia) dr hi hx k
theorem Gy{s:Shared}{T:Addr}{xs:List Value}{x:Value}{Q:Unit->Shared->Prop}(hT:fS s.heap T xs)(hn:xs.length<=3)
  (h:∀h',fS h' T (xs.set k x)->Heap.SameBut T s.heap h'->Q () {s with heap:=h'}) :
  wpAny (model prog w) A (updateSeq T (·.setIfInBounds k x)) Q E s:=by
 refine wpAny_updateSeq (hz:=by rw[JP];exact JX hn (by decide)) (_hz':=by rw[Array.size_setIfInBounds,JP];exact JX hn (by decide)) hT rfl (h _ ?_ (Lf ..))
 show Heap.get? _ _=_;rw[Mm _ hT rfl];simp[Obj.mapSeq]
theorem ig{α:Type}{P:α->β->Prop}{l:List α}{vs:List β}(h:Paired P l vs):vs.length=l.length:=by
 induction h with
 |nil=>rfl
 |cons _ _ ih=>exact K7 (·+1) ih
theorem uJ{g:Heap}{l:List Src}{vs:List Value}(k:∀q∈l,∀c o,c=q.2.1\/c=q.2.2->h.get? c=some o->g.get? c=some o)(r:Paired (pU i h) l vs):Paired (pU i g) l vs:=by
 induction r with
 |nil=>exact .nil
 |cons d _ ih=>exact .cons (d.kp (k _ JU)) (ih λq hq=>k q (JT _ hq))
theorem Hf{s:Shared}{old:List Value}(D:Zn z TI TO S)(hS:S≠[])(hA:A.handled=none)(hz:IsZip s.heap z TI TO .none)(hTI:fS s.heap TI (S.map λq=>.ref q.2.1))(hTO:fS s.heap TO old)(hl:old.length=S.length)(hn:S.length<=3)
  (hh:(∃us,Paired (pU i s.heap) S us/\∀h' tk,IsZip h' z TI TO (rawInt s.heap.objs.size)->fS h' TO us->(∀q∈S,rj (i+1) h' q)->fS h' s.heap.objs.size us->(∀c o,c≠z->c≠TO->(∀q∈S,c≠q.2.1)->s.heap.get? c=some o->h'.get? c=some o)->Q (.ref s.heap.objs.size) {s with heap:=h',toks:=tk}) \/
   ∃a q r us,S=a++q::r/\Paired (pU i s.heap) a us/\rj i s.heap q/\(∃xs:Array Value,Di s.heap q xs/\xs.size=i)/\∀h' e tk,(∀c o,c≠z->c≠TO->(∀q∈S,c≠q.2.1)->s.heap.get? c=some o->h'.get? c=some o)->(∃o,h'.get? e=some o/\o.cls=.type "StopIteration")->E (.ref e) {s with heap:=h',toks:=tk}) :
  wpAny (model prog w) A (Builtin.«zip.__next__» ⟨[.ref z],[]⟩) (λfin s'=>∃v,fin=.done (.ret v)/\Q v s') E s:=by
 obtain⟨q0,S',rfl⟩:=List.exists_cons_of_ne_nil hS;have zrec:=hz;show wpAny _ _ (field (.ref z) 2 >>= _) _ _ _;refine JJ (Mf zrec rfl (x:=.bool false) rfl ?_);show wpAny _ _ (field (.ref z) 3 >>= _) _ _ _;refine JJ (Mf zrec rfl (x:=.ref TI) rfl ?_);refine JJ (Mq hTI rfl ?_);show wpAny _ _ (Builtin.SmallTypes.ownedTupleIsFree (.ref z) >>= _) _ _ _;refine JJ ?_;unfold Builtin.SmallTypes.ownedTupleIsFree;refine JJ (Mf zrec rfl (x:=.none) rfl (JV ?_));simp only[Mn];refine JJ (NQ ?_);refine JJ (Mf zrec rfl (x:=.ref TO) rfl ?_);refine JJ (MK zrec (by simp) λg1 zr1 sb1=>?_)
 replace zr1:IsZip g1 z TI TO .ellipsis:=zr1
 refine JJ ?_;have old3:∀q∈q0::S',∀c o,c=q.2.1\/c=q.2.2->s.heap.get? c=some o->g1.get? c=some o:=λq hq c o hc e=>by
  rcases hc with rfl|rfl
  ·exact sb1.extBut _ _ (D.it q hq).1 e
  ·exact sb1.extBut _ _ (D.sr q hq).1 e
 refine A_ D (i:=i) ?hf ?he (old:=old) zr1 (sb1.extBut _ _ D.zt.2.1 hTO) (by lia) hl (hh.imp (λ⟨us,dr,hQ⟩=>⟨us,uJ old3 dr,?k⟩) λ⟨a,q,r,us,eS,dr,hi,hx,hE⟩=>⟨a,q,r,us,eS,uJ (λp hp=>old3 p (by rw[eS];exact L3 _ hp)) dr,hi.kp λo=>old3 q (by rw[eS];exact Kl _ JU) _ o (.inl rfl),(let ⟨xs,x1,x2⟩:=hx;⟨xs,x1.kp λo=>old3 q (by rw[eS];exact Kl _ JU) _ o (.inr rfl),x2⟩),λh' e tk kp ho=>hE h' e tk (λc o c1 c2 c3 x=>kp c o c1 c2 c3 (sb1.extBut _ _ c1 x)) ho⟩)
 case hf =>
  intro q hq j arr u s1 Q1 hz1 ht1 hn1 d1 k1;obtain⟨hi,xs,hx,hu⟩:=d1;refine JJ (wpAny_onRaise ?_);show wpAny _ _ (Builtin.SmallTypes.nextOf (.ref q.2.1) >>= _) _ _ _;have lt:i<xs.size:=(LL.mp hu).1;refine JJ ((sQ q.1 hA q.2.1 q.2.2 ((D.sr q hq).2.2 q hq) xs).item i _ _ _ lt ⟨hi,hx⟩ λx g2 tk2 px st2 sb2=>JV ?_);have ex:x=u:=by rw[hu] at px;exact (Option.some.inj px).symm
  subst ex;have to2:fS g2 TO arr:=sb2.extBut _ _ (D.it q hq).2.2.symm ht1;refine JJ (Mq to2 rfl ?_);refine JJ (Gy to2 hn1 λg3 to3 sb3=>?_);refine JJ (wpAny_letGo (JV ?_));exact k1 g3 _ to3 (rj.kp (q:=q) st2.1 λo e=>sb3.extBut _ _ (D.it q hq).2.2 e) (λc o c1 c2 e=>sb3.extBut _ _ c1 (sb2.extBut _ _ c2 e)) (by rw[sb3.1,sb2.1])
 case he =>
  intro p hp j s1 Q1 hz1 hi1 hx1 k1;obtain⟨xs,hx1,hsz⟩:=hx1;refine JJ (wpAny_onRaise ?_);show wpAny _ _ (Builtin.SmallTypes.nextOf (.ref p.2.1) >>= _) _ _ _;subst hsz;refine JJ ((sQ p.1 hA p.2.1 p.2.2 ((D.sr p hp).2.2 p hp) xs).done _ _ _ ⟨hi1,hx1⟩ λg2 e sb2 he=>?_);obtain⟨oe,hoe,hce⟩:=he;have zr2:IsZip g2 z TI TO .ellipsis:=sb2 _ _ (D.it p hp).1.symm hz1;have nez:e≠z:=λq=>by subst q;rw[zr2] at hoe;cases hoe;simp at hce
  exact MK zr2 (by simp) λg3 _ sb3=>k1 g3 e _ (λc o e1 e3 q=>sb3.extBut _ _ e1 (sb2 _ _ e3 q)) ⟨oe,sb3.extBut _ _ nez hoe,hce⟩
 case k =>
  intro g2 tk z2 t2 a2 kp2 sz2;have hu3:us.length<=3:=by rw[ig dr];exact hn
  replace t2:fS g2 TO us:=t2
  show wpAny _ _ (seqItems? (.ref TO) >>= _) _ _ _;refine JJ (Mq t2 rfl ?_);refine JJ (wpAny_newTuple ?_ (JX hu3 (by decide)))
  have size2:g2.objs.size=s.heap.objs.size:=sz2.trans sb1.1;have zlt:z<g2.objs.size:=Ke z2;show wpAny _ _ (Builtin.SmallTypes.ownedTupleHandOut (.ref z) (.ref g2.objs.size) >>= _) _ _ _;refine JJ ?_;unfold Builtin.SmallTypes.ownedTupleHandOut;have zr6:IsZip (g2.push {cls:=.type "tuple",data:=.seq us.toArray}) z TI TO .ellipsis:=JM _ z2;refine JJ (MK zr6 (by simp) λg8 zr8 sb8=>?_)
  replace zr8:IsZip g8 z TI TO (rawInt g2.objs.size):=zr8
  refine MK zr8 (by simp) λg9 zr9 sb9=>?_
  replace zr9:IsZip g9 z TI TO (rawInt g2.objs.size):=zr9
  have up:∀c o,c≠z->g2.get? c=some o->g9.get? c=some o:=λc o e1 q=>sb9.extBut _ _ e1 (sb8.extBut _ _ e1 (JM _ q));have pr8:fS g9 g2.objs.size us:=sb9.extBut _ _ (Ls zlt) (sb8.extBut _ _ (Ls zlt) (Kc _ rfl));rw[size2] at zr9 pr8;refine JV ⟨_,rfl,?_⟩;show Q (.ref g2.objs.size) _;rw[size2];exact hQ g9 _ zr9 (up _ _ D.zt.2.1 t2) (λq hq=>(a2 q hq).kp λo e=>up _ o (D.it q hq).1 e) pr8 λc o e1 e2 e3 q=>up c o e1 (kp2 c o e2 e3 (sb1.extBut _ _ e1 q))
end
noncomputable def Gv(K:W.Frag)(S:List Src):It:=
  ⟨λi H=>∃vs,Paired (λ(q:Src) v=>∃xs,oI K q.1 H q.2.2 xs/\xs[i]?=some v) S vs,
   λi H v H'=>∃p vs,Paired (λ(q:Src) x=>∀xs,oI K q.1 H q.2.2 xs->xs[i]?=some x) S vs/\H p=none/\v=.ref p/\H'=upd H p (.tup vs),
   λi H=>∃a q r vs,S=a++q::r/\Paired (λ(q:Src) v=>∃xs,oI K q.1 H q.2.2 xs/\xs[i]?=some v) a vs/\∃xs,oI K q.1 H q.2.2 xs/\xs.length=i⟩
section
variable {X:Cx} {pins:List (Addr×Obj)} {σ:St} {H:Hp} {s:Shared} {i:Nat}
theorem xi(I:Inv X pins σ H s){l:List Src}{vs:List V}(hi:∀q∈l,rj i s.heap q)(h:Paired (λ(q:Src) v=>∃xs,oI X.K q.1 H q.2.2 xs/\xs[i]?=some v) l vs):∃us,Paired (pU i s.heap) l us/\Vals vs us/\Paired (λ(q:Src) x=>∀xs,oI X.K q.1 H q.2.2 xs->xs[i]?=some x) l vs:=by
 induction h with
 |nil=>exact⟨[],.nil,.nil,.nil⟩
 |cons d r ih =>
  obtain⟨us,h1,h2,h3⟩:=ih λp hp=>hi p (JT _ hp);obtain⟨xs,hx,ex⟩:=d;obtain⟨its,rv,p1⟩:=I.xX hx;obtain⟨u,hu,ru⟩:=rv.get ex;exact⟨u::us,.cons ⟨hi _ JU,its.toArray,p1,by rw[KQ];exact hu⟩ h1,.cons ru h2,.cons (λys hy=>by rw[I.zX hy hx];exact ex) h3⟩
end
theorem vU{tk:Nat}{tp:Pos}(S:List Src)(z TI TO:Addr)(D:Zn z TI TO S)(hS:S≠[])(hn:S.length<=3):
  Turn P w K (.Tuple es tk tp) (Gv K S) (z::TI::TO::S.map λq=>q.2.1) z (λi h=>IsZip h z TI TO .none/\fS h TI (S.map λq=>.ref q.2.1)/\(∃old,fS h TO old/\old.length=S.length)/\∀q∈S,rj i h q) where
 mem:=JU
 obj:=λi h st c hc=>by
  obtain⟨s1,s2,⟨old,s3,_⟩,s4⟩:=st;rcases JR.mp hc with rfl|hc
  ·exact⟨_,s1,λv q=>by cases q⟩
  rcases JR.mp hc with rfl|hc
  ·exact⟨_,s2,λv q=>by cases q⟩
  rcases JR.mp hc with rfl|hc
  ·exact⟨_,s3,λv q=>by cases q⟩
  obtain⟨q,hq,rfl⟩:=K2.mp hc;obtain⟨o,e,_,d⟩:=k_.ty (s4 q hq);exact⟨o,e,λv q=>by rw[d] at q;cases q⟩
 keep:=λi h h' st k=>by
  obtain⟨s1,s2,⟨old,s3,s3'⟩,s4⟩:=st;exact⟨k z (by simp) _ s1,k TI (by simp) _ s2,⟨old,k TO (by simp) _ s3,s3'⟩,λq hq=>(s4 q hq).kp (k _ (JT _ (JT _ (JT _ (L9 (f:=λq:Src=>q.2.1) hq)))))⟩
 item:=by
  intro X hP hw hK hc i pins s σ H E I hf st hg;subst hP hw hK;obtain⟨vs,hg⟩:=hg;obtain⟨s1,s2,⟨old,s3,s3'⟩,s4⟩:=st;obtain⟨us,h1,h2,h3⟩:=xi I s4 hg;have hT:s.TypeIs (.ref z) "zip":=⟨_,s1,rfl⟩;unfold pyNext;refine JJ (MY (KJ (name:=Str.ofString "__next__") hT PySem.F.slot_zip_next (KZ PySem.F.slot_zip_next hT PySem.F.entry_zip_next
   (Hf D hS (I.ok.hd hc) s1 s2 s3 s3' hn (.inl ⟨us,h1,λh' tk' z1 t1 a1 pr kp=>JV ?_⟩)) (PySem.F.args_zip_next_1 _))))
  have fr:H s.heap.objs.size=none:=I.bc.fresh (JS _);have lt:∀{c o},s.heap.get? c=some o->s.heap.objs.size≠c:=λe=>Ls (Ke e);refine⟨.ref s.heap.objs.size,rfl,wpAny_letOwnedTupleGo_zip z1 λh2' z2 sb2=>?_⟩;have pr2:fS h2' s.heap.objs.size us:=sb2.extBut _ _ (lt s1) pr;have hvl:vs.length<=3:=by rw[ig hg];exact hn
  have I2:Inv X pins σ (upd H s.heap.objs.size (.tup vs)) {s with heap:=h2',toks:=tk'}:=by
   refine I.oj (fp:=z::TI::TO::S.map λq=>q.2.1) hf (JS _) (λc o hcm ec=>?_) ⟨JX hvl (by decide),us,h2,⟨_,pr2,rfl,_,rfl,rfl⟩⟩
   simp only[JR,not_or] at hcm;exact sb2.extBut _ _ hcm.1 (kp c o hcm.1 hcm.2.2.1 (λq hq e=>hcm.2.2.2 (by rw[e];exact L9 (f:=λq:Src=>q.2.1) hq)) ec)
  refine⟨.ref s.heap.objs.size,_,I2,rfl,⟨s.heap.objs.size,vs,h3,fr,rfl,rfl⟩,⟨z2,?_,⟨us,?_,?_⟩,λq hq=>?_⟩,λc hcm=>?_⟩
  ·exact sb2.extBut _ _ D.zt.1 (kp _ _ D.zt.1 D.zt.2.2 (λq hq=>(D.it q hq).2.1.symm) s2)
  ·exact sb2.extBut _ _ D.zt.2.1 t1
  ·exact ig h1
  ·exact (a1 q hq).kp λo e=>sb2.extBut _ _ (D.it q hq).1 e
  ·have hn:=(hf c hcm).1;rw[ao]
   ·exact hn
   ·rcases JR.mp hcm with rfl|hcm
    ·exact (lt s1).symm
    rcases JR.mp hcm with rfl|hcm
    ·exact (lt s2).symm
    rcases JR.mp hcm with rfl|hcm
    ·exact (lt s3).symm
    obtain⟨q,hq,rfl⟩:=K2.mp hcm;obtain⟨o,e,_⟩:=k_.ty (s4 q hq);exact (lt e).symm
 done:=by
  intro X hP hw hK hc i pins s σ H E I hf st hg;subst hP hw hK;obtain⟨a,q,r,vs,eS,hg,xs,hx,hi⟩:=hg;obtain⟨s1,s2,⟨old,s3,s3'⟩,s4⟩:=st;obtain⟨us,h1,_,_⟩:=xi I (λp hp=>s4 p (by rw[eS];exact L3 _ hp)) hg
  obtain⟨its,rv,p1⟩:=I.xX hx;have hT:s.TypeIs (.ref z) "zip":=⟨_,s1,rfl⟩;unfold pyNext;refine JJ (MY (KJ (name:=Str.ofString "__next__") hT PySem.F.slot_zip_next (KZ PySem.F.slot_zip_next hT PySem.F.entry_zip_next
   (Hf D hS (I.ok.hd hc) s1 s2 s3 s3' hn (.inr ⟨a,q,r,us,eS,h1,s4 q (by rw[eS];exact Kl _ JU),⟨its.toArray,p1,by rw[JP,<- rv.length,hi]⟩,λh' e tk' kp he=>?_⟩)) (PySem.F.args_zip_next_1 _))))
  obtain⟨o,ho,hcl⟩:=he;refine JJ (wpAny_isInstance (T:="StopIteration") (b:=true) ⟨o,ho,hcl⟩ isSubtype_stop (JV ⟨rfl,?_⟩));refine I.turns (t':=tk') hf λc o hcm ec=>?_;simp only[JR,not_or] at hcm;exact kp c o hcm.1 hcm.2.2.1 (λq hq e=>hcm.2.2.2 (by rw[e];exact L9 (f:=λq:Src=>q.2.1) hq)) ec
 self:=λA i s Q E st h=>wpAny_pyIter_zip st.1 h
theorem eN.push{k:Bool}(x:eN k h a xs)(o:Obj):eN k (h.push o) a xs:=by
 cases k with
 |true=>exact Heap.IsList.push x _
 |false=>exact yE x _
theorem xK{A:Around}{s:Shared}{k:Bool}{l:Addr}{items:Array Value}(hl:eN k s.heap l items)
  (hQ:Q (.ref s.heap.objs.size) {s with heap:=s.heap.push {cls:=.type (Gn k),data:=.fields #[.ref l,.int 0 0]}}):wpAny (model prog w) A (pyIter (.ref l)) Q E s:=by
 cases k with
 |true=>exact MR hl hQ
 |false=>exact Mc hl hQ
noncomputable def gj(h:Heap):List (Bool×Addr)->Heap
 |[]=>h
 |p::l=>gj (h.push {cls:=.type (Gn p.1),data:=.fields #[.ref p.2,.int 0 0]}) l
noncomputable def ib(n:Nat):List (Bool×Addr)->List Src
 |[]=>[]
 |p::l=>(p.1,n,p.2)::ib (n+1) l
abbrev GQ(h:Heap)(l:List (Bool×Addr)):Heap:=(gj h l).push {cls:=.type "tuple",data:=.seq ((ib h.objs.size l).map λq=>Value.ref q.2.1).toArray}
abbrev FD(h:Heap)(l:List (Bool×Addr)):Heap:=(GQ h l).push {cls:=.type "tuple",data:=.seq ((ib h.objs.size l).map λ_=>Value.none).toArray}
abbrev Bn(h:Heap)(l:List (Bool×Addr)):Heap:=(FD h l).push {cls:=.type "zip",data:=.fields #[.none,.bool false,.bool false,.ref (gj h l).objs.size,.ref (GQ h l).objs.size]}
theorem kF:∀(l:List (Bool×Addr)) (h:Heap),(gj h l).objs.size=h.objs.size+l.length
 |[],_=>rfl
 |p::l,h=>by rw[gj,kF l,Lm,J_];lia
theorem iT:∀(l:List (Bool×Addr)) {h:Heap} {c:Addr} {o:Obj},h.get? c=some o->(gj h l).get? c=some o
 |[],_,_,_,e=>e
 |p::l,_,_,_,e=>iT l (JM _ e)
theorem CU(l:List (Bool×Addr)):∀{h:Heap} (q:Src),q∈ib h.objs.size l->(gj h l).get? q.2.1=some {cls:=.type (Gn q.1),data:=.fields #[.ref q.2.2,.int 0 0]}:=by
 induction l with
 |nil=>intro h q hq;cases hq
 |cons p l ih =>
  intro h q hq;rcases JR.mp hq with rfl|hq
  ·exact iT l (Kc _ rfl)
  ·exact ih q (by rw[Lm];exact hq)
theorem lS:∀(l:List (Bool×Addr)) (n:Nat),(ib n l).length=l.length
 |[],_=>rfl
 |_::l,n=>K7 (·+1) (lS l (n+1))
theorem tI(l:List (Bool×Addr)):∀(n:Nat) (q:Src),q∈ib n l->n<=q.2.1/\q.2.1<n+l.length/\(q.1,q.2.2)∈l:=by
 induction l with
 |nil=>intro n q hq;cases hq
 |cons p l ih =>
  intro n q hq;rcases JR.mp hq with rfl|hq
  ·exact⟨JS _,by rw[J_];show n<_;lia,JU⟩
  ·obtain⟨h1,h2,h3⟩:=ih (n+1) q hq;exact⟨by lia,by rw[J_];lia,JT _ h3⟩
theorem tN:∀(l:List (Bool×Addr)) (n:Nat),((ib n l).map λq=>q.2.1).Nodup
 |[],_=>List.nodup_nil
 |p::l,n=>by
  show (n::(ib (n+1) l).map λq=>q.2.1).Nodup;refine Lq.mpr ⟨λh=>?_,tN l (n+1)⟩;obtain⟨q,hq,e⟩:=K2.mp h;have:=(tI l (n+1) q hq).1;rw[e] at this;lia
theorem uT(p q:Bool×Addr)(xs ys:Array Value):Meets (Builtin.«zip.__new__» ⟨[.type "zip",.ref p.2,.ref q.2],[]⟩) (λ_ R s=>eN p.1 s.heap p.2 xs/\eN q.1 s.heap q.2 ys/\R (.ok (.ret (.ref (FD s.heap [p,q]).objs.size))) {s with heap:=Bn s.heap [p,q]}):=
 .of_wp λprog w A R s h=>by
  obtain⟨hp,g,d,tk,os⟩:=s;obtain⟨q1,q2,h⟩:=h;have hsub:=sub_zip;have w1:eN p.1 (Shared.heap ⟨hp,g,d,tk,os⟩) p.2 xs:=q1;have w2:eN q.1 (Shared.heap ⟨hp.push {cls:=.type (Gn p.1),data:=.fields #[.ref p.2,.int 0 0]},g,d,tk,os⟩) q.2 ys:=eN.push q2 _;wp_walk using xK w1,xK w2;refine⟨_,rfl,?_⟩;have e1:(hp.push {cls:=.type (Gn p.1),data:=.fields #[.ref p.2,.int 0 0]}).objs.size=hp.objs.size+1:=Lm ..;have h':=h;simp only[Bn,FD,GQ,gj,ib,Ku,Ml,<- e1] at h';exact h'
section
variable {X:Cx} {es:List Expr} {tk:Nat} {tp:Pos}
theorem BI{pins:List (Addr×Obj)}{s:Shared}{R:It->Hp->Prop}(I:Inv X pins σ H s)(l:List (Bool×Addr))(hne:l≠[])(h3:l.length<=3)(hq:∀p∈l,∃xs,oI X.K p.1 H p.2 xs)(q:∀n,R (Gv X.K (ib n l)) H):
  (∃o,(Bn s.heap l).get? (FD s.heap l).objs.size=some o/\o.cls=.type "zip")/\wpAny (model X.prog X.w) X.A (pyIter (.ref (FD s.heap l).objs.size)) (Jc X pins σ (.Tuple es tk tp) R) X.xe {s with heap:=Bn s.heap l}:=by
 have n1:(gj s.heap l).objs.size=s.heap.objs.size+l.length:=kF l _;have n2:(GQ s.heap l).objs.size=s.heap.objs.size+l.length+1:=by rw[Lm,n1]
 have n3:(FD s.heap l).objs.size=s.heap.objs.size+l.length+2:=by rw[Lm,n2]
 have p3:(Bn s.heap l).get? (FD s.heap l).objs.size=some _:=Kc _ rfl;have p2:(Bn s.heap l).get? (GQ s.heap l).objs.size=some _:=JM _ (Kc _ rfl);have p1:(Bn s.heap l).get? (gj s.heap l).objs.size=some _:=JM _ (JM _ (Kc _ rfl));have up:∀{c o},(gj s.heap l).get? c=some o->(Bn s.heap l).get? c=some o:=λe=>JM _ (JM _ (JM _ e));rw[n1,n2,n3] at p3;rw[n2] at p2;rw[n1] at p1;rw[n3];refine⟨⟨_,p3,rfl⟩,wpAny_pyIter_zip p3 ?_⟩;have I2:Inv X pins σ H {s with heap:=Bn s.heap l}:=I.kept (t':=s.toks) λc o e=>up (iT l e)
 have bd:=tI l s.heap.objs.size;have lt:∀p∈l,p.2<s.heap.objs.size:=λp hp=>by
  obtain⟨xs,hx⟩:=hq p hp;obtain⟨its,_,p1⟩:=I.xX hx;obtain⟨o,e,_⟩:=p1.ty;exact Ke e
 have D:Zn (s.heap.objs.size+l.length+2) (s.heap.objs.size+l.length) (s.heap.objs.size+l.length+1) (ib s.heap.objs.size l):=by
  have nl:∀(a b:Nat),a<b->a≠b:=λa b h=>Kn h;refine⟨⟨nl _ _ (by lia),nl _ _ (by lia),nl _ _ (by lia)⟩,λq hq'=>?_,λq hq'=>?_,tN l _⟩
  ·have:=(bd q hq').2.1;exact⟨nl _ _ (by lia),nl _ _ (by lia),nl _ _ (by lia)⟩
  ·have h1:=lt _ (bd q hq').2.2;refine⟨nl _ _ (by show q.2.2<_;have:q.2.2<s.heap.objs.size:=h1;lia),nl _ _ (by have:q.2.2<s.heap.objs.size:=h1;lia),λp hp=>nl _ _ (Kp h1 (bd p hp).1)⟩
 refine⟨_,_,_,_,H,rfl,I2,vU (ib s.heap.objs.size l) _ _ _ D (λe=>?_) (by rw[lS];exact h3),⟨p3,p1,⟨_,p2,JK ..⟩,λq hq'=>HI (up (CU l q hq'))⟩,λc hc=>?_,q _⟩
 ·have:=lS l s.heap.objs.size;rw[e] at this;exact hne (LW.mp this.symm)
 ·have hc':s.heap.objs.size<=c:=by
   rcases JR.mp hc with rfl|hc
   ·lia
   rcases JR.mp hc with rfl|hc
   ·lia
   rcases JR.mp hc with rfl|hc
   ·lia
   obtain⟨q,hq',rfl⟩:=K2.mp hc;exact (bd q hq').1
  exact I.oP hc' (I.bc.fresh hc')
noncomputable def wZ(K:W.Frag)(ta:TA):TI:=λσ H R=>ta σ H λvs H1=>∃p q:Bool×Addr,vs=[.ref p.2,.ref q.2]/\(∃xs,oI K p.1 H1 p.2 xs)/\(∃ys,oI K q.1 H1 q.2 ys)/\∀n,R (Gv K (ib n [p,q])) H1
theorem Ca{e1 e2:Expr}{ta:TA}{pos:Pos}(hg:Gl X "zip")(hm:X.mg "zip"=none)(ha:PA X [e1,e2] ta)(h1:autoParam (gc e1=true) ℜ0)(h2:autoParam (gc e2=true) ℜ0)(hv:autoParam (bootBuiltins "zip"=some (.type "zip")) ℜ6):
  PI X (.Tuple es tk tp) (.Call (.Name "zip" p) [e1,e2] [] pos) (wZ X.K ta):=by
 intro pins s σ H R I h;refine Call_ (ik I hg hm hv (Lp (cz (ha pos pins s σ H _ I h) λus s1 hq1=>?_) (by rw[eJ h1,eJ h2]) (by rw[eJ h2];rfl)))
 obtain⟨vs,H1,I1,r1,q1⟩:=hq1;obtain⟨a,b,e,⟨xs,hx⟩,⟨ys,hy⟩,q⟩:=q1;subst e;obtain⟨u,w',rfl,ru,rw'⟩:=vals2 r1
 cases ru;cases rw'
 obtain⟨its1,_,p1⟩:=I1.xX hx;obtain⟨its2,_,p2⟩:=I1.xX hy;refine OT F.called_zip (by decide) (F.typeCall_zip_2 _ _) (F.newCall_zip_2 _ _) (λobj=>F.args_object_init_3 obj _ _) F.entry_zip_new (uT a b _ _) ⟨p1,p2,BI I1 [a,b] (by simp) (KI 2) (λp hp=>?_) q⟩
 simp only[JR,Kt,La] at hp;rcases hp with rfl|rfl
 ·exact⟨xs,hx⟩
 ·exact⟨ys,hy⟩
end
namespace Z
theorem Hi{st:Stmt}:QS X st (λ_ _ _=>False):=⟨λ_ _ _ _ _ _ h=>h.elim⟩
theorem Jm{o:Expr}{to:TE}{pos:Pos}(K:W.Frag)(hK:X.K=K){name:Str}{apos:Pos}{T id:String}{r:V->List V->Hp->VK->Prop}(pa:PlainAttrs T)(slot:Slot T name id)(hty:typeOf (.builtin id)=pure (.type "method_descriptor"))(hm:wz X id r)(ho:QE X o to)
  (hbase:autoParam (attributeBase o name X.env (eval o X.env)=eval o X.env) ℜ0) (hline:autoParam ((apos.endLine == pos.line)=true) ℜ0):QE X (.Call (.Attribute o name apos) [] [] pos) (yA K T r to):=by
 subst hK;exact⟨Gd pa slot hty hm ho.h hbase hline⟩
theorem hJ(K:W.Frag)(hK:X.K=K):uY X (EC K):=by subst hK;exact sm
end Z
theorem Jv{H':Hp}{xs:List V}(h:bB K H a xs)(k:KB [] H H'):bB K H' a xs:=bB.same (λb o z=>k b o z (by simp)) h
namespace Z
theorem Je{te:TE}{x:Str}{pos:Pos}{d:Addr}{D:List (Str×List Str)}(K:W.Frag)(hK:X.K=K)(hg:Gl X x)(hm:X.mg x=some (.ref d))(hd:kZ K d D)(he:QE X e te)(hs:xl e:=by exactλ_ _=>rfl)(hdb:autoParam ((x ==("__debug__":Str))=false) ℜ1):QE X (.Subscript (.Name x p) e pos) (xG K D te):=by
 subst hK;exact⟨Fh (uw hg hm rfl hdb) hd he.h hs⟩
theorem DK{ta:TA}{pos:Pos}(K:W.Frag)(hK:X.K=K){tp:Pos}(hg:Gl X "enumerate")(hm:X.mg "enumerate"=none)(ha:QA X [e] ta)(h1:autoParam (gc e=true) ℜ0):QI X (.Tuple es k tp) (.Call (.Name "enumerate" p) [e] [] pos) (kR K ta):=by
 subst hK;exact⟨yX hg hm ha.h h1⟩
theorem Ho{t:TA}{pos kpos lpos p1 p2 p3:Pos}{x y z:Str}{c Pt d:Addr}{j:Nat}{params:Arguments}(K:W.Frag)(hK:X.K=K)(hx:z∈dR)(ht:W.tabIn K z=some (c,Pt))(hcode:X.env.code=.ref c)(hq:X.env.qual=z++".<locals>.")(hdef:defaultsOf params X.env=([],[]))(hcl:closureFor scope X.env=pure [(y,d)])
  (hg:Gl X "sorted") (hm:X.mg "sorted"=none) (ha:QA X [e] t) (hr:bP (k+3) X.A)
  (hsc:scope={kind:=.function,names:=[(x,.local),(y,.free)],isGenerator:=false,isCoroutine:=false,more:=[]}) (hxy:y≠x) (hx1:(x ==("__debug__":Str))=false) (hx2:(x ==("__classdict__":Str))=false) (hy1:(y ==("__debug__":Str))=false) (hy2:(y ==("__classdict__":Str))=false)
  (hj:X.N[j]?=some y) (hyc:X.env.scope.names.lookup y=some .cell) (hyl:X.env.cells.lookup y=some d)
  (hbind:∀c' pm ctv u,bindArgs (W.kla_fn "<lambda>" ((z++".<locals>.")++"<lambda>") params (.Subscript (.Name y p1) (.Name x p2) p3) scope [(y,d)] pm (.ref c') ctv) ⟨[u],[]⟩=pure [(x,u)]) (h1:autoParam (gc e=true) ℜ0) :
  QE X (.Call (.Name "sorted" p) [e] [⟨some "key",.Lambda params (.Subscript (.Name y p1) (.Name x p2) p3) scope lpos,kpos⟩] pos) (kU K j t):=by
 subst hK;exact⟨zb hg hm ha.h h1 hr (Et hx ht hcode hq hdef hcl) hsc hxy hx1 hx2 hy1 hy2 hj hyc hyl hbind⟩
theorem GG(K:W.Frag)(hK:X.K=K):dc X (compareOp .In) (IT K false):=by subst hK;exact mN
end Z
namespace Ap
theorem xG(K:W.Frag)(D:List (Str×List Str))(te:TE)(σ:St)(H:Hp)(Q:VK):L2.xG K D te σ H Q=te σ H λy H1=>∃k ws,y=.str k/\KTD.datumAt k D=some ws/\∀p,Ha K p (ws.map V.str)->Q (.ref p) H1:=rfl
theorem kR(K:W.Frag)(ta:TA)(σ:St)(H:Hp)(R:It->Hp->Prop):L2.kR K ta σ H R=ta σ H λvs H1=>∃a,vs=[.ref a]/\(∃xs,cf K H1 a xs)/\R (BZ K a) H1:=rfl
theorem kU(K:W.Frag)(j:Nat)(t:TA)(σ:St)(H:Hp)(Q:VK):L2.kU K j t σ H Q=t σ H λvs H1=>∃l xs kz,vs=[.ref l]/\(∃n:Nat,H1 l=some (.my 0 n)/\xs=kj n)/\kz.length=xs.length/\xs.length<64 /\
 (∀(i:Nat) (v:V) (k:Int),xs[i]?=some v->kz[i]?=some k->∀H',eM H1 H'->∃i q ls,v=.int i/\Jr j σ=[some (.ref q)]/\bB K H' q ls/\cI ls i=some (.int k))/\∀H2 D,eM H1 H2->H2 D=none->Q (.ref D) (upd H2 D (.lst (jO kz xs))):=rfl
end Ap
section
variable {K:W.Frag} {g:TG} {tb:TS} {D:Ends} {σ:St} {H:Hp}
theorem lI{xs:List V}(Pv:Nat->St->Hp->Prop)(h0:Pv 0 σ H)(hl:∀i σ H,i<=xs.length->Pv i σ H->cf K H a xs)
  (hs:∀i x σ H p,xs[i]?=some x->Pv i σ H->H p=none->g (.ref p) σ (upd H p (.tup [.int i,x])) λσ2 H2=>tb {D with nx:=Pv (i+1),ct:=Pv (i+1),bk:=D.nx} σ2 H2) (hd:∀σ H,Pv xs.length σ H->D.nx σ H) :
  rY (BZ K a) g tb D σ H:=by
 refine⟨λi m σ H=>m=xs.length-i/\i<=xs.length/\Pv i σ H,⟨xs.length,by simp,Kh _,h0⟩,?_⟩
 rintro i m σ H ⟨rfl,hi,p⟩;have hq:=hl i σ H hi p;by_cases c:i<xs.length
 ·refine .inr ⟨⟨xs[i],xs,hq,JI c⟩,λσ' H'=>Pv (i+1) σ' H',λσ' H' h=>⟨_,by lia,rfl,c,h⟩,?_⟩
  rintro x H' ⟨q,y,e,fr,rfl,rfl⟩;have e1:=e xs hq;exact hs i y σ H q e1 p fr
 ·have e:i=xs.length:=by lia
  subst e;exact .inl ⟨⟨xs,hq,rfl⟩,hd _ _ p⟩
end
theorem vc{t:TS}{D:Ends}(h:∀N,N=D.nx->t {D with nx:=N} σ H):t D σ H:=h _ rfl
theorem DZ{c:TT}{t u:TS}{D:Ends}(h:∀A B,A=t D->B=u D->c σ H λb H1=>if b=true then A σ H1 else B σ H1):wo c t u D σ H:=h _ _ rfl rfl
theorem HasFn.IP{mg:Str->Option Value}{base:Heap}{x:Str}{st:Stmt}{ps:List Str}{sp:Sp}(F:HasFn K mg x st ps)(S:az N ps (af st))(len:∀vs H Q E,sp vs H Q E->vs.length=ps.length)
  (hbody:∀(f:Addr) (cdv:Value) (A:Around) (outer:List Env) (s:Shared) (H:Hp) (vs:List V) (Q:VK) (E:XK),bP k (A.deeper (envOfC x (af st) s.heap.objs.size f cdv))->mg x=some (.ref f)->Cc K f cdv->sp vs H Q E ->
   ∃t,QB (dM aT P w K mg base N x (af st) f cdv A outer s H E).lW (aI st) t/\t {nx:=λ_ H'=>Q .aU H',rt:=Q} (start N vs) H):ax P w K mg base aT (k+1) x ps sp:=by
 obtain⟨f,fd,F1,b,m⟩:=F.ex;have F2:=F1;obtain⟨oc,od,kV,doc,pm,an,cdv,ct,osl,rfl,lk,fX⟩:=F2.ex;refine⟨f,_,m,F1.kp,b,CY lk fX S len λA outer s H vs Q E hr oJ=>?_⟩;obtain⟨t,h,q⟩:=hbody f cdv A outer s H vs Q E hr m ⟨_,_,lk,rfl,rfl⟩ oJ;exact⟨t,h.h.lW,q⟩
theorem aQ.of(k:scope.kind=.function)(h:N.Nodup/\N.length=own.length+ON.length/\(∀y∈scope.names,y.2≠.cell)/\(∀y∈scope.names,y.2=.local->scope.names.lookup y.1=some .local)/\(∀y∈scope.names,y.2=.free->osc.names.lookup y.1=some .cell\/osc.names.lookup y.1=some .free)/\(∀p∈ON.zip (N.drop own.length),p.1=p.2\/scope.names.lookup p.2=none)/\∀x∈N.drop own.length,scope.names.lookup x≠some .local):aQ osc ON scope own N:=by
 obtain⟨h1,h2,h3,h4,h5,h6,h7⟩:=h;exact⟨k,h1,h2,h3,h4,h5,h6,h7⟩
namespace Z
section
variable {X:Cx} {e o:Expr} {es:List Expr} {te to:TE} {t:TA} {pos pos' p:Pos} {x:Str}
theorem se(hN:X.N.Nodup)(he:QE X e te)(hi:autoParam (X.N[i]?=some x) ℜ0)(hx:Loc X.env.scope x:=by first|exact Or.inl rfl|exact Or.inr rfl)(hs:autoParam (IC e=true) ℜ0)(hf:autoParam (X.fn x=true\/X.env.scope.names.lookup x=some .local) ℜ2):
  QS X (.Assign [.Name x pos'] e pos) (kl te (bT i)):=set hN hi hx he hs hf
theorem fc{ps:List Str}{sp:Sp}(F:ax X.prog X.w X.K X.mg X.base aT k x ps sp)(ha:QA X (e::es) t)(hr:bP k X.A:=by exact bP.mono (by assumption) (by decide))(hg:autoParam (Gl X x) ℜ0)(h1:autoParam (gc e=true) ℜ0)(h2:autoParam (es.all gc=true) ℜ0)(hdb:autoParam ((x ==("__debug__":Str))=false) ℜ1):
  QE X (.Call (.Name x p) (e::es) [] pos) (lG sp [] E0 t):=fn F hr hg cu ha h1 h2 hdb
theorem C_{tg elt:Expr}{wi:TI}{g:TG}{tc:TT}(S:aQ osc ON scope own N)(hi:QI X tg iter wi)
  (hg:∀(nd:N.Nodup) C s H fp,QG (aX X scope N C s H fp) tg g) (ht:∀C s H fp,GR (aX X scope N C s H fp) ifs tc) (he:∀C s H fp,QE (aX X scope N C s H fp) elt te) (hosc:autoParam (X.env.scope=osc) ℜ0) (hON:autoParam (X.N=ON) ℜ0) (hc:autoParam (X.calm=true) ℜ0) (hs:autoParam (∀x,foldedSetIterable iter X.env x=pure x) ℜ3) :
  QE X (.ListComp elt [⟨tg,iter,ifs,0⟩] scope pos) (i3 wi own.length g tc te):=comp S hosc hON hc hi (hg S.nd) ht he hs
theorem sec{tg elt:Expr}{p2:Pos}{wi:TI}{g:TG}{tc:TT}{j:Nat}(hN:X.N.Nodup)(S:aQ osc ON scope own N)(hi:QI X tg iter wi)
  (hg:∀(nd:N.Nodup) C s H fp,QG (aX X scope N C s H fp) tg g) (ht:∀C s H fp,GR (aX X scope N C s H fp) ifs tc) (he:∀C s H fp,QE (aX X scope N C s H fp) elt te)
  (hj:autoParam (X.N[j]?=some x) ℜ0) (hx:Loc X.env.scope x:=by first|exact Or.inl rfl|exact Or.inr rfl) (hosc:autoParam (X.env.scope=osc) ℜ0) (hON:autoParam (X.N=ON) ℜ0) (hc:autoParam (X.calm=true) ℜ0)
  (hsw:autoParam (swapsWith (.ListComp elt [⟨tg,iter,ifs,0⟩] scope p2) (some (.Name x pos')) pos.line X.env=pure true) ℜ0)
  (hf:autoParam (X.fn x=true\/X.env.scope.names.lookup x=some .local) ℜ2) (hs:autoParam (∀x,foldedSetIterable iter X.env x=pure x) ℜ3) :
  QS X (.Assign [.Name x pos'] (.ListComp elt [⟨tg,iter,ifs,0⟩] scope p2) pos) (kl (i3 wi own.length g tc te) (bT j)):=setC hN hj hx S hosc hON hc hi (hg S.nd) ht he hsw hf hs
theorem app(K:W.Frag){apos:Pos}(ho:QE X o to)(ha:QA X (e::es) t)(hK:autoParam (X.K=K) ℜ0)(hbase:autoParam (attributeBase o "append" X.env (eval o X.env)=eval o X.env) ℜ0)(hline:autoParam ((apos.endLine == pos.line)=true) ℜ0)(h:autoParam ((e::es).all gc=true) ℜ0)(hl:autoParam ((e::es).length<30) ℜ1):QE X (.Call (.Attribute o "append" apos) (e::es) [] pos) (DY K "list" sR to t):=bm K hK PySem.F.plainAttrs_list PySem.F.slot_list_append PySem.F.type_list_append mF ho ha hbase hline h hl
end
end Z
end L2
namespace G
local macro_rules|`(tactic|and_intros)=>`(tactic|exact ⟨rfl,rfl,rfl,by decide +kernel,rfl,by decide +kernel,by decide +kernel⟩)
open PySem L2 PySem.Spec PyProof.Rows
variable{L i k p t:Nat}{C a b dq dx f q x:Addr}{d:Int}{xs ys:List V}{as ex:List Addr}{H H':Hp}{ln:Nat->Nat}{sp ss ws z:List Nat}{α:Type}{ls:List Int}{h:Heap}{K:W.Frag}{Q:VK}{gs:List (Option Nat)}{fd:FuncData}{neg:Bool}{hi lo:Option Int}{mg:Str->Option Value}
noncomputable def top(i:Nat):Stmt:=PySem.Challenge.pw_shortrows_k41_whole_rows_that_do_nothing.main.body.getD i (.Pass ⟨0,0,0,0⟩)
abbrev AN:Stmt:=top 0
abbrev jb:Stmt:=top 10
theorem su:az ["row"] ["row"] (af jb):=by and_intros
abbrev gn:Stmt:=top 11
theorem ou:az ["row","goal"] ["row","goal"] (af gn):=by and_intros
abbrev jW:Stmt:=top 13
theorem cG:az ["lengths","free","depth","left","length"] ["lengths"] (af jW):=by and_intros
abbrev d8:Stmt:=top 15
theorem eL:az ["lengths","words","ahead","thing"] ["lengths"] (af d8):=by and_intros
abbrev e_:Stmt:=top 16
theorem lq:az ["ahead","length"] ["ahead","length"] (af e_):=by and_intros
abbrev ij:Stmt:=top 17
theorem gw:az ["code","bits","place","thing","word"] ["code","bits","place"] (af ij):=by and_intros
abbrev ee:Stmt:=top 23
theorem jD:az ["sizes","goals"] ["sizes","goals"] (af ee):=by and_intros
abbrev cV:Stmt:=top 24
theorem bI:az ["sizes","goals","widths","paper","row"] ["sizes","goals"] (af cV):=by and_intros
abbrev eQ:Stmt:=top 25
theorem nE:az ["goals"] ["goals"] (af eQ):=by and_intros
abbrev cS:Stmt:=top 26
theorem bZ:az ["sizes","goals","widths","starts","row","goal"] ["sizes","goals","widths"] (af cS):=by and_intros
abbrev rJ:Stmt:=top 27
theorem tL:az ["starts","goals","widths","row","half"] ["starts","goals","widths","row"] (af rJ):=by and_intros
abbrev eX:Stmt:=top 28
theorem lQ:az ["starts","goals","row"] ["starts","goals","row"] (af eX):=by and_intros
abbrev fT:Stmt:=top 29
theorem dB:az ["sizes","widths","starts","size","width"] ["sizes","widths"] (af fT):=by and_intros
abbrev iu:Stmt:=top 30
theorem pE:az ["width"] ["width"] (af iu):=by and_intros
abbrev eI:Stmt:=top 35
theorem cP:az ["row","things","kind","part"] ["row"] (af eI):=by and_intros
abbrev fG:Stmt:=top 36
theorem pI:az ["book"] ["book"] (af fG):=by and_intros
abbrev cZ:Stmt:=top 37
theorem bD:az ["program","book","codes","firsts","sizes","goals","widths","starts","bits","row","first"] ["program","book"] (af cZ):=by and_intros
abbrev bV:Stmt:=top 38
theorem dz:az ["row","codes","bits"] ["row","codes"] (af bV):=by and_intros
abbrev cw:Stmt:=top 39
theorem f7:az ["number"] ["number"] (af cw):=by and_intros
abbrev eG:Stmt:=top 40
theorem jA:az ["width","distance"] ["width","distance"] (af eG):=by and_intros
abbrev eA:Stmt:=top 41
theorem bQ:az ["number","many","figures","left","turn"] ["number","many"] (af eA):=by and_intros
abbrev a_:Stmt:=inClass (top 43) 0
theorem jn:az ["self","book"] ["self","book"] (af a_):=by and_intros
abbrev bz:Stmt:=inClass (top 43) 1
theorem df:az ["self","place","row","many","goal","moved"] ["self","place","row"] (af bz):=by and_intros
abbrev ba:Stmt:=inClass (top 43) 2
theorem fz:az ["self","place","many"] ["self","place"] (af ba):=by and_intros
abbrev bo:Stmt:=inClass (top 43) 3
theorem j9:az ["self"] ["self"] (af bo):=by and_intros
abbrev bJ:Stmt:=inClass (top 43) 4
theorem oG:az ["self"] ["self"] (af bJ):=by and_intros
abbrev bw:Stmt:=inClass (top 43) 5
theorem lu:az ["self"] ["self"] (af bw):=by and_intros
abbrev dA:Stmt:=top 44
theorem kx:az ["rows","first","by"] ["rows","first","by"] (af dA):=by and_intros
abbrev fK:Stmt:=top 45
theorem hW:az ["row","first","by","goal"] ["row","first","by"] (af fK):=by and_intros
abbrev aL:Stmt:=inClass (top 47) 0
theorem gY:az ["self","given"] ["self","given"] (af aL):=by and_intros
abbrev aK:Stmt:=inClass (top 47) 1
theorem dy:az ["self","row","behind","end","goes"] ["self","row","behind","end"] (af aK):=by and_intros
abbrev aN:Stmt:=inClass (top 47) 2
theorem dE:az ["self","row","word"] ["self","row"] (af aN):=by and_intros
abbrev aJ:Stmt:=inClass (top 47) 3
theorem bO:az ["self","row","word","old","other"] ["self","row"] (af aJ):=by and_intros
abbrev aG:Stmt:=inClass (top 47) 4
theorem ft:az ["self"] ["self"] (af aG):=by and_intros
abbrev aH:Stmt:=inClass (top 47) 5
theorem fF:az ["self"] ["self"] (af aH):=by and_intros
abbrev aC:Stmt:=inClass (top 47) 6
theorem fJ:az ["self"] ["self"] (af aC):=by and_intros
abbrev fI:Stmt:=top 48
theorem cm:az ["program","given","most","machine","turns","at","done","how"] ["program","given","most"] (af fI):=by and_intros
abbrev ko:Stmt:=top 50
theorem c_:az ["codes","bits","place","found","word","row","behind","kind","part"] ["codes","bits","place"] (af ko):=by and_intros
abbrev ie:Stmt:=top 51
theorem jq:az ["code","bits","place","thing"] ["code","bits","place"] (af ie):=by and_intros
abbrev iX:Stmt:=top 52
theorem kK:az ["kind","codes","bits","place","found"] ["kind","codes","bits","place"] (af iX):=by and_intros
abbrev gB:Stmt:=top 53
theorem fH:az ["code","bits","place","found","behind"] ["code","bits","place"] (af gB):=by and_intros
abbrev iS:Stmt:=top 54
theorem d7:az ["bits","place","found","width","behind","distance"] ["bits","place"] (af iS):=by and_intros
abbrev h_:Stmt:=top 56
theorem bq:az ["bits","book","given","most","codes","machine","read","done","place","found","how"] ["bits","book","given","most"] (af h_):=by and_intros
abbrev eU:Stmt:=top 58
theorem nQ:az ["script"] ["script"] (af eU):=by and_intros
abbrev hX:Stmt:=top 59
theorem gH:az ["number","turn","one"] ["number","turn"] (af hX):=by and_intros
abbrev gF:Stmt:=top 60
theorem iM:az ["deck","most","number"] ["deck","most"] (af gF):=by and_intros
abbrev dW:Stmt:=top 64
theorem cA:az ["deck","many","depths","k","deep","at"] ["deck","many"] (af dW):=by and_intros
abbrev eV:Stmt:=top 65
theorem nJ:az ["deck"] ["deck"] (af eV):=by and_intros
abbrev fk:Stmt:=top 66
theorem dX:az ["deck","size","top"] ["deck"] (af fk):=by and_intros
abbrev ic:Stmt:=top 67
theorem eW:az ["deck","goals","some","word","box"] ["deck","goals"] (af ic):=by and_intros
abbrev fO:Stmt:=top 69
theorem d9:az ["deck","found","k","number"] ["deck"] (af fO):=by and_intros
abbrev dO:Stmt:=top 70
theorem cB:az ["kept","book","given","most","how","told","turns","boxes","found"] ["kept","book","given","most"] (af dO):=by and_intros
abbrev gy:Stmt:=top 71
theorem i5:az ["deck","place","box"] ["deck","place"] (af gy):=by and_intros
abbrev iI:Stmt:=top 72
theorem cW:az ["script","deck","turn","book","kept","k","given","most","ahead","how","told","turns","boxes","place","found"] ["script"] (af iI):=by and_intros
structure Txt (K:W.Frag) (mg:Str->Option Value):Prop where
 G_:mg "abs"=none
 DW:mg "dict"=none
 gC:mg "enumerate"=none
 zP:mg "int"=none
 cN:mg "len"=none
 yU:mg "list"=none
 HW:mg "min"=none
 gP:mg "range"=none
 pV:mg "sorted"=none
 Gu:mg "str"=none
 GY:mg "sum"=none
 cO:mg "tuple"=none
 De:mg "zip"=none
 jP:∃a,mg "BOXES"=some (.ref a)/\∀H,bB K H a [.str "a",.str "b",.str "c",.str "d",.str "e",.str "f",.str "g",.str "h"]
 qc:∃a,mg "HALVES"=some (.ref a)/\∀H,bB K H a [.int 8,.int 128,.int 32768]
 nk:∃a,mg "HEADS"=some (.ref a)/\∀H,bB K H a [.str "0",.str "10",.str "11"]
 lH:∃u,mg "OF_BOXES"=some u/\RelV (.int 2) u
 iA:∃u,mg "OF_CLASSES"=some u/\RelV (.int 1) u
 kN:∃u,mg "OF_WORDS"=some u/\RelV (.int 0) u
 Ct:∃u,mg "WHOLE"=some u/\RelV (.int 65536) u
 yF:∃u,mg "WIDEST"=some u/\RelV (.int 2) u
 lj:∃a,mg "WIDTHS"=some (.ref a)/\∀H,bB K H a [.int 4,.int 8,.int 16]
 Bu:IF K mg "BOXES"
 kg:∃d,mg "SHAPES"=some (.ref d)/\kZ K d [("put",["box","number"]),("add",["box","box"]),("sub",["box","box"]),("copy",["box","box"]),("tell",["box"]),("hear",["box"]),("jump",["goal"]),("zero",["box","goal"]),("halt",[])]
 mc:∃(C_Machine f___init__ f_place_next f_carry_out f_number_for f_heard_number f_told_numbers f_box_numbers:Addr) (d___init__ d_place_next d_carry_out d_number_for d_heard_number d_told_numbers d_box_numbers:FuncData),mg "Machine"=some (.ref C_Machine)/\iE K C_Machine/\bf K C_Machine "given"/\bf K C_Machine "heard"/\bf K C_Machine "told"/\bf K C_Machine "boxes"/\Mk K C_Machine f___init__/\gX K "__init__" "Machine.__init__" aL f___init__ d___init__/\Binds K d___init__ ["self","given"] []/\Meth K C_Machine "place_next" f_place_next/\gX K "place_next" "Machine.place_next" aK f_place_next d_place_next/\Binds K d_place_next ["self","row","behind","end"] []/\Meth K C_Machine "carry_out" f_carry_out/\gX K "carry_out" "Machine.carry_out" aN f_carry_out d_carry_out/\Binds K d_carry_out ["self","row"] []/\Meth K C_Machine "number_for" f_number_for/\gX K "number_for" "Machine.number_for" aJ f_number_for d_number_for/\Binds K d_number_for ["self","row"] []/\Meth K C_Machine "heard_number" f_heard_number/\gX K "heard_number" "Machine.heard_number" aG f_heard_number d_heard_number/\Binds K d_heard_number ["self"] []/\Meth K C_Machine "told_numbers" f_told_numbers/\gX K "told_numbers" "Machine.told_numbers" aH f_told_numbers d_told_numbers/\Binds K d_told_numbers ["self"] []/\Meth K C_Machine "box_numbers" f_box_numbers/\gX K "box_numbers" "Machine.box_numbers" aC f_box_numbers d_box_numbers/\Binds K d_box_numbers ["self"] []
 JE:∃(C_Kept f___init__ f_put_in f_take_out f_program f_bits f_places:Addr) (d___init__ d_put_in d_take_out d_program d_bits d_places:FuncData),mg "Kept"=some (.ref C_Kept)/\iE K C_Kept/\bf K C_Kept "book"/\bf K C_Kept "rows"/\Mk K C_Kept f___init__/\gX K "__init__" "Kept.__init__" a_ f___init__ d___init__/\Binds K d___init__ ["self","book"] []/\Meth K C_Kept "put_in" f_put_in/\gX K "put_in" "Kept.put_in" bz f_put_in d_put_in/\Binds K d_put_in ["self","place","row"] []/\Meth K C_Kept "take_out" f_take_out/\gX K "take_out" "Kept.take_out" ba f_take_out d_take_out/\Binds K d_take_out ["self","place"] []/\Meth K C_Kept "program" f_program/\gX K "program" "Kept.program" bo f_program d_program/\Binds K d_program ["self"] []/\Meth K C_Kept "bits" f_bits/\gX K "bits" "Kept.bits" bJ f_bits d_bits/\Binds K d_bits ["self"] []/\Meth K C_Kept "places" f_places/\gX K "places" "Kept.places" bw f_places d_places/\Binds K d_places ["self"] []
 pF:uO K mg "code_of"
section
variable {P:Program} {w:World} {K:W.Frag} {mg:Str->Option Value} {base:Heap}
namespace Kr
noncomputable def ks(L:Nat):List Nat->Nat
 |[]=>0
 |l::r=>2^(L-l)+ks L r
theorem d6(L:Nat):∀a b,ks L (a++b)=ks L a+ks L b
 |[],b=>by simp[ks]
 |x::a,b=>by simp[ks,d6 L a b];lia
theorem i9{a b:List Nat}(h:a.Perm b):ks L a=ks L b:=by
 induction h with
 |nil=>rfl
 |cons x _ ih=>simp[ks,ih]
 |swap x y l=>simp[ks];lia
 |trans _ _ h1 h2=>exact h1.trans h2
theorem vh{d l:Nat}(h:d<l)(hl:l<=L):2^(L-d)=2*2^(L-(d+1)):=by
 have:L-d=(L-(d+1))+1:=by lia
 rw[this,Nq];lia
noncomputable def fit:List Nat->Nat->Nat->Nat->Prop:=λr free depth L=>ks L r<=free*2^(L-depth)
theorem Dd{L d:Nat}:∀{r:List Nat},(∀x∈r,d<=x)->ks L r<=r.length*2^(L-d)
 |[],_=>by simp[ks]
 |x::r,h=>by
  have ih:=Dd (L:=L) (d:=d) (r:=r) λy hy=>h y (JT _ hy);have hx:=h x JU;have:=Nr (n:=2) (by decide) (Nat.sub_le_sub_left hx L)
  simp only[ks,J_,MG];lia
theorem Ee{x:Nat}{r:List Nat}:0<ks L (x::r):=by
 have:=Nat.pow_pos (n:=L-x) (show 0<2 by decide)
 simp only[ks];lia
theorem rq{r:List Nat}{free depth:Nat}(h:∀x∈r,depth<=x)(hf:r.length<=free):fit r free depth L:=
 JX (Dd h) (Nat.mul_le_mul_right _ hf)
theorem sI{r:List Nat}{free depth l:Nat}(h:depth<l)(hl:l<=L):fit r free depth L ↔ fit r (free*2) (depth+1) L:=by
 unfold fit;rw[vh h hl,M9]
theorem x9{r:List Nat}{free l:Nat}(hf:0<free):fit (l::r) free l L ↔ fit r (free-1) l L:=by
 unfold fit;simp only[ks];obtain⟨f,rfl⟩:∃f,free=f+1:=⟨free-1,by lia⟩
 rw[ML,MG];lia
theorem Av{x:Nat}{r:List Nat}{depth L:Nat}:¬ fit (x::r) 0 depth L:=by
 unfold fit;have:=Ee (L:=L) (x:=x) (r:=r);lia
noncomputable def E1(L:Nat)(done:List Nat)(need last:Int):Prop:=0<=need/\0<=last/\∀m:Nat,(need<=m ↔ ks L done<=m*2^(L-last.toNat))
theorem shr(n:Int)(g:Nat)(hn:0<=n)(m:Nat):(1-((0-n) / 2^g)<=(m:Int)) ↔ (1<=m/\n<=((m-1:Nat):Int)*2^g):=by
 have hp:(0:Int)<2^g:=O5 (by decide)
 have h1:(1-((0-n) / 2^g)<=(m:Int)) ↔ (1-(m:Int))<=(0-n) / 2^g:=by lia
 rw[h1,O3 hp];constructor
 ·intro h;have hm:1<=m:=by
   rcases MM m with z|z
   ·subst z;simp at h;lia
   ·exact z
  refine⟨hm,?_⟩;have e:((m-1:Nat):Int)=(m:Int)-1:=by lia
  rw[e,O6];rw[O6] at h;lia
 ·rintro⟨hm,h⟩;have e:((m-1:Nat):Int)=(m:Int)-1:=by lia
  rw[e,O6] at h;rw[O6];lia
theorem E1.step{done:List Nat}{need last l:Int}(h:E1 L done need last)(h0:0<=l)(hl:l<=last)(hL:last<=L):
  E1 L (done++[l.toNat]) (1-((0-need) / 2^(last-l).toNat)) l:=by
 obtain⟨n0,l0,hm⟩:=h;refine⟨?_,h0,λm=>?_⟩
 ·have hp:(0:Int)<2^(last-l).toNat:=O5 (by decide)
  have:(0-need) / 2^(last-l).toNat<=0:=Int.ediv_nonpos_of_nonpos_of_neg (by lia) hp
  lia
 ·rw[shr need _ n0 m,d6];simp only[ks];have e1:2^(L-l.toNat)=2^(last-l).toNat*2^(L-last.toNat):=by
   rw[<- O7];congr 1;lia
  have hpos:=Nat.pow_pos (n:=L-l.toNat) (show 0<2 by decide)
  constructor
  ·rintro⟨m1,h⟩;have h':need<=(((m-1)*2^(last-l).toNat:Nat):Int):=by
    rw[Int.natCast_mul,Int.natCast_pow];exact h
   have:=(hm _).mp h';rw[M9,<- e1] at this;obtain⟨k,rfl⟩:∃k,m=k+1:=⟨m-1,by lia⟩
   rw[ML] at this;rw[MG];exact Nat.add_le_add this (JS _)
  ·intro h;have m1:1<=m:=by
    rcases MM m with z|z
    ·subst z;lia
    ·exact z
   refine⟨m1,?_⟩;have h':need<=(((m-1)*2^(last-l).toNat:Nat):Int):=by
    refine (hm _).mpr ?_;rw[M9,<- e1];obtain⟨k,rfl⟩:∃k,m=k+1:=⟨m-1,by lia⟩
    rw[ML];rw[MG] at h;exact Nat.le_of_add_le_add_right h
   rw[Int.natCast_mul,Int.natCast_pow] at h';exact h'
end Kr
noncomputable def iV(xs:List Int):List V:=xs.map V.int
theorem cR(xs:List Int):(iV xs).length=xs.length:=JK ..
theorem nR(xs ys:List Int):iV (xs++ys)=iV xs++iV ys:=Kg
theorem DE{xs:List Int}(h:i<xs.length):cI (iV xs) (i:Int)=some (.int xs[i]):=b9 (by unfold iV;rw[JW,JI h];rfl)
theorem rV{xs:List Int}{v:V}(h:(iV xs)[i]?=some v):∃hi:i<xs.length,v=.int xs[i]:=by
 unfold iV at h;rw[JW] at h
 cases e:xs[i]? with
 |none=>rw[e] at h;cases h
 |some x=>rw[e] at h;cases h;obtain⟨hi,rfl⟩:=JO.mp e;exact⟨hi,rfl⟩
theorem Ez(xs:List Int)(i:Nat)(x:Int):(iV xs).set i (.int x)=iV (xs.set i x):=by unfold iV;rw[MN]
theorem Fe(h:(i:Int)<(xs.length:Nat)):∃t,t∈xs/\cI xs (i:Int)=some t:=by
 have hn:i<xs.length:=by lia
 exact⟨xs[i],Kf hn,b9 (JI hn)⟩
theorem E3(k:KB ex H H')(hx:∀b∈ex,∃ys,H b=some (.lst ys))(h:H a=some (.tup xs)):H' a=some (.tup xs):=k _ _ h λz=>by
 obtain⟨ys,e⟩:=hx a z;rw[h] at e;cases e
noncomputable def lZ(ls:List Int):Prop:=0<ls.length/\ls.length<=20/\∀x∈ls,1<=x/\x<=20
noncomputable def KS(ls:List Int):Nat:=Kr.ks 40 (ls.map Int.toNat)
noncomputable def qd(ls:List Int):Bool:=decide (KS ls<=2^40)
namespace Cw
noncomputable def inc:List Nat->List Nat
 |[]=>[]
 |c::r=>if r.all (· == 49) then (if c=48 then 49::r.map (λ_=>48) else 48::r.map (λ_=>48)) else c::inc r
noncomputable def pad(n:Nat)(w:List Nat):List Nat:=w++List.replicate (n-w.length) 48
noncomputable def iO(w:List Nat)(n:Nat):List Nat:=pad n (inc w)
noncomputable def gu(w:List Nat)(n:Nat):List Nat:=pad n ((w.reverse.dropWhile (· == 49)).reverse.dropLast++[49])
theorem Hw:∀w:List Nat,w.all (· == 49)=true->inc w=w.map λ_=>48
 |[],_=>rfl
 |c::r,h=>by
  rw[L7,KO] at h;have hc:c=49:=Ms.mp h.1;unfold inc;rw[JQ h.2,JN (by rw[hc];decide),Ku]
theorem oa:∀{l:List Nat},l.all (· == 49)=true->l=List.replicate l.length 49
 |[],_=>rfl
 |c::r,h=>by
  rw[L7,KO] at h;have hc:c=49:=Ms.mp h.1;rw[J_,K4,<- oa h.2,hc]
theorem AS(k:Nat):(List.replicate k 49).all (· == 49)=true:=by
 rw[Lv];intro x hx;rw[(KU.mp hx).2];rfl
theorem parts:∀{w:List Nat},(∀c∈w,c=48\/c=49)->w.all (· == 49)=false->∃p k,w=p++48::List.replicate k 49
 |[],_,h=>by cases h
 |c::r,hb,h=>by
  by_cases z:r.all (· == 49)=true
  ·rw[L7,z,MX] at h;have hc:c=48:=(hb c JU).resolve_right λe=>by rw[e] at h;cases h
   exact⟨[],r.length,by rw[hc,Lr,<- oa z]⟩
  ·obtain⟨p,k,e⟩:=parts (w:=r) (λx hx=>hb x (JT _ hx)) (by simpa using z)
   exact⟨c::p,k,by rw[e];rfl⟩
theorem gQ(k:Nat):∀p:List Nat,inc (p++48::List.replicate k 49)=p++49::List.replicate k 48
 |[]=>by
  rw[Lr,Lr];unfold inc;rw[JQ (AS k),JQ rfl,List.map_replicate]
 |c::p=>by
  rw[Lj];unfold inc;have z:¬ (p++48::List.replicate k 49).all (· == 49)=true:=by
   rw[List.all_append,L7];simp
  rw[JN z,gQ k p];rfl
theorem sA(k:Nat)(p:List Nat):((p++48::List.replicate k 49).reverse.dropWhile (· == 49)).reverse=p++[48]:=by
 rw[Ny,List.reverse_cons,List.reverse_replicate];have e:∀(k:Nat) (t:List Nat),(List.replicate k 49++[48]++t).dropWhile (· == 49)=[48]++t:=λk t=>by
  induction k with
  |zero=>rfl
  |succ k ih=>rw[K4,Lj,Lj,MC,JQ (by decide)];exact ih
 rw[e,Ny,My];rfl
theorem u_{w:List Nat}{n:Nat}(hb:∀c∈w,c=48\/c=49)(h:w.all (· == 49)=false)(hn:w.length<=n):gu w n=iO w n:=by
 obtain⟨p,k,rfl⟩:=parts hb h;unfold gu iO pad;rw[sA,gQ,List.dropLast_append_of_ne_nil (by simp)]
 rw[JL,J_,Kb] at hn;simp only[List.dropLast_singleton,K6,JL,J_,Kb,KL,Kj,Lj,Lr];congr 2;rw[List.replicate_append_replicate];congr 1;lia
noncomputable def val:List Nat->Nat
 |[]=>0
 |c::r=>(c-48)*2^r.length+val r
theorem gK:∀a b:List Nat,val (a++b)=val a*2^b.length+val b
 |[],b=>by simp[val]
 |c::a,b=>by
  rw[Lj,val,val,gK a b,JL,O7,Nat.add_mul,M9,MZ]
theorem fB:∀k,val (List.replicate k 48)=0
 |0=>rfl
 |k+1=>by rw[K4,val,fB k];simp
theorem kq:∀k,val (List.replicate k 49)+1=2^k
 |0=>rfl
 |k+1=>by
  have:=kq k;rw[K4,val,Kb,Nq];lia
theorem nj:∀w:List Nat,(inc w).length=w.length
 |[]=>rfl
 |c::r=>by
  unfold inc;split
  ·split<;>simp
  ·rw[J_,J_,nj r]
theorem p_:∀{w:List Nat},(∀c∈w,c=48\/c=49)->∀c∈inc w,c=48\/c=49
 |[],_,_,h=>by cases h
 |d::r,hb,c,h=>by
  unfold inc at h
  split at h
  ·split at h
   ·rcases JR.mp h with h|h
    ·exact .inr h
    ·obtain⟨_,_,e⟩:=K2.mp h;exact .inl e.symm
   ·rcases JR.mp h with h|h
    ·exact .inl h
    ·obtain⟨_,_,e⟩:=K2.mp h;exact .inl e.symm
  ·rcases JR.mp h with h|h
   ·rw[h];exact hb d JU
   ·exact p_ (λx hx=>hb x (JT _ hx)) c h
theorem fw{w:List Nat}{n:Nat}(h:w.length<=n):(iO w n).length=n:=by
 unfold iO pad;rw[JL,Kb,nj];lia
theorem mO{w:List Nat}{n:Nat}(hb:∀c∈w,c=48\/c=49):∀c∈iO w n,c=48\/c=49:=λc h=>by
 rcases K8.mp h with h|h
 ·exact p_ hb c h
 ·exact .inl (KU.mp h).2
theorem pw{w:List Nat}{n:Nat}(hb:∀c∈w,c=48\/c=49)(h:w.all (· == 49)=false):val (iO w n)=(val w+1)*2^(n-w.length):=by
 unfold iO pad;rw[gK,fB,Kb,nj,Nat.add_zero];congr 1;obtain⟨p,k,rfl⟩:=parts hb h;have:=kq k;rw[gQ,gK,gK,val,val,fB,J_,J_,Kb,Kb];lia
theorem yh{w:List Nat}(h:w.all (· == 49)=true):val w+1=2^w.length:=by
 rw[oa h,Kb];exact kq _
structure jj (done:List Nat) (w:List Nat):Prop where
 bits:∀c∈w,c=48\/c=49
 len:w.length<=40
 sum:(val w+1)*2^(40-w.length)=Kr.ks 40 done
theorem jj.zero{done rest w:List Nat}{l:Nat}(h:jj done w)(hk:Kr.ks 40 done+2^(40-l)<=2^40):w.all (· == 49)=false:=by
 cases z:w.all (· == 49) with
 |false=>rfl
 |true =>
  have e:=h.sum;rw[yh z,<- O7,Nat.add_sub_cancel' h.len] at e;have:0<2^(40-l):=Nat.pow_pos (by decide)
  lia
theorem jj.next{done w:List Nat}{l:Nat}(h:jj done w)(hl:w.length<=l)(hl2:l<=40)(hk:Kr.ks 40 done+2^(40-l)<=2^40):jj (done++[l]) (iO w l):=by
 have z:=h.zero (rest:=[]) hk;refine⟨mO h.bits,by rw[fw hl];exact hl2,?_⟩
 rw[pw h.bits z,fw hl,Nat.add_mul,M9,<- O7,Kr.d6,<- h.sum];have e:l-w.length+(40-l)=40-w.length:=by lia
 rw[e];simp[Kr.ks]
theorem jj.first{l:Nat}(hl:l<=40):jj [l] (List.replicate l 48):=⟨λc h=>.inl (KU.mp h).2,by rw[Kb];exact hl,by rw[fB,Kb];simp[Kr.ks]⟩
noncomputable def along(nx:List Nat->Nat->List Nat)(ln:Nat->Nat):List Nat->Option (List Nat)×List (List Nat)->Option (List Nat)×List (List Nat)
 |[],s=>s
 |t::r,(a,ws) =>
  let w:=match a with|none=>List.replicate (ln t) 48|some v=>nx v (ln t)
  along nx ln r (some w,ws.set t w)
theorem i7{nx:List Nat->Nat->List Nat}:∀(a b:List Nat) (s:Option (List Nat)×List (List Nat)),along nx ln (a++b) s=along nx ln b (along nx ln a s)
 |[],_,_=>rfl
 |t::r,b,(a,ws)=>i7 r b _
theorem gR{nx:List Nat->Nat->List Nat}:∀(o:List Nat) (s:Option (List Nat)×List (List Nat)),(along nx ln o s).2.length=s.2.length
 |[],_=>rfl
 |t::r,(a,ws)=>(gR r _).trans KD
end Cw
local macro_rules | `(tactic| walk_at "lc") => `(tactic| first | exact Or.inl rfl | exact Or.inr rfl)
local macro_rules | `(tactic| wp_walk using $ts,*) => do
  let ids := ("Nat.reduceAdd Nat.reduceSub L2.Ap.vj L2.Ap.tC L2.Ap.xo L2.Ap.GP L2.Ap.qi L2.Ap.GS L2.Ap.yQ L2.Ap.Hv L2.Ap.z_ L2.Ap.ka L2.Ap.oH L2.Ap.tK L2.Ap.B6 L2.Ap.jt L2.Ap.ye L2.Ap.Ag L2.Ap.lG L2.Ap.Ck L2.Ap.DY L2.Ap.yA L2.Ap.GD L2.Ap.iD L2.Ap.qj L2.Ap.vQ L2.Ap.kl L2.Ap.bT L2.Ap.xy L2.Ap.vT L2.Ap.kA L2.Ap.wj L2.Ap.zS L2.Ap.pP L2.Ap.wo L2.Ap.pX L2.Ap.mx L2.Ap.zx L2.Ap.qz C8 yg L2.Ap.rI L2.Ap.wu L2.Ap.rU L2.Ap.Dc L2.Ap.Hr L2.Ap.HE L2.Ap.Jd L2.Ap.FN L2.Ap.IQ L2.Ap.IE L2.Ap.fC L2.Ap.GZ L2.Ap.setRef L2.Ap.Aw L2.Ap.Er L2.Ap.HV L2.Ap.Jj L2.Ap.Jg L2.Ap.rQ L2.Ap.Gz L2.Ap.HY L2.Ap.ET L2.Ap.A9 L2.Ap.J8 L2.start Fq AE IK IW List.map_cons List.map_nil List.length_cons List.length_nil List.replicate List.cons_append List.nil_append List.append_nil List.getElem?_cons_zero List.getElem?_cons_succ List.set_cons_zero List.set_cons_succ Option.some.injEq exists_eq_left exists_eq_left' V.int.injEq V.str.injEq V.bl.injEq V.ref.injEq List.cons.injEq and_true true_and decide_eq_true_eq Bool.not_eq_true' decide_eq_false_iff_not Bool.false_eq_true L2.Ap.yu L2.Ap.xn L2.Ap.lK L2.Ap.pH L2.Ap.pO L2.Ap.oU L2.Ap.wX L2.Ap.xG L2.Ap.kR L2.Ap.kU".splitOn " ").toArray.map λn => Lean.mkIdent n.toName
  `(tactic| simp only [↓reduceIte, $[$ids:ident],*, $[$ts:term],*])
local macro_rules | `(tactic| walk_at "rz") => `(tactic| wp_walk using and_self)
local macro_rules|`(tactic|rfl')=>`(tactic|wp_walk using and_self)
local macro_rules|`(tactic|symm)=>do
  let n:=Lean.mkIdent `N
  let h:=Lean.mkIdent `hN
  `(tactic|(refine $h _ ?_;clear $h $n;refine ay λ$n $h=>?_))
local macro_rules|`(tactic|ac_rfl)=>do
  let n:=Lean.mkIdent `N
  let h:=Lean.mkIdent `hN
  `(tactic|(refine $h _ ?_;clear $h $n))
local macro_rules|`(tactic|right)=>`(tactic|walk_at "lc")
local macro_rules|`(tactic|exists $ts,*)=>`(tactic|wp_walk using $ts,*)
local macro_rules|`(tactic|left)=>do
  let i:=#[`args,`Qt,`hl,`h,`f,`cdv,`A,`outer,`s,`H,`E,`hr].map Lean.mkIdent
  let u:=Lean.mkIdent `hu
  `(tactic|(intro $[$i:ident]*;have $u:ident:=aR $(Lean.mkIdent `hr)))
noncomputable def wd(w:List Nat):Str:=⟨w.toArray⟩
theorem bE(w:List Nat):(wd w).length=w.length:=JP ..
theorem xr{x:Str}{w:List Nat}(h:x.cps.toList=w):x=wd w:=by
 cases x with|mk a=>subst h;unfold wd;rw[M0]
noncomputable def G0:Sp:=λvs H Q _=>∃n:Nat,n<=40/\((vs=[.aU,.int (n:Int)]/\Q (.str (wd (List.replicate n 48))) H)\/∃w,vs=[.str (wd w),.int (n:Int)]/\w.length<=40/\Q (.str (wd (Cw.gu w n))) H)
theorem we(T:Txt K mg)(F:HasFn K mg "word_behind" e_ ["ahead","length"]):ax P w K mg base aT 1 "word_behind" ["ahead","length"] G0:=by
 refine F.fR lq (λvs H Q E h=>?_) (λf cdv A outer s H vs Q E hr h=>?_)
 ·obtain⟨n,hn,⟨rfl,_⟩|⟨_,rfl,_⟩⟩:=h<;>rfl
 ·have hu:=aR hr;obtain⟨n,hn,h⟩:=h;rcases h with ⟨rfl,q⟩|⟨v,rfl,hv,q⟩
  ·refine⟨_,(Z.aq (Z.dJ (Z.aZ dH (Z.v 0) Z.aU) (Z.aA (Z.ret (Z.op Y.sS Z.str (Z.v 1)))) Z.bN)
   (Z.aA (Z.ret (Z.bm K rfl PySem.F.plainAttrs_str PySem.F.slot_str_ljust PySem.F.type_str_ljust Y.qh (Z.op (Z.bp K rfl) (Z.slice Y.nN (Z.bm K rfl PySem.F.plainAttrs_str PySem.F.slot_str_rstrip PySem.F.type_str_rstrip Y.mJ (Z.v 0) (Z.cons Z.str Z.nil)) Z.vZ (Z.oN (Z.un fV Z.int))) Z.str) (Z.cons (Z.v 1) (Z.cons Z.str Z.nil)))))),?_⟩
   refine ay λN hN=>?_;walk_at "rz";refine⟨48,_,rfl,rfl,by lia,by lia,?_⟩
   rw[Ky];exact q
  ·refine⟨_,(Z.aq (Z.dJ (Z.aZ dH (Z.v 0) Z.aU) (Z.aA (Z.ret (Z.op Y.sS Z.str (Z.v 1)))) Z.bN)
   (Z.aA (Z.ret (Z.bm K rfl PySem.F.plainAttrs_str PySem.F.slot_str_ljust PySem.F.type_str_ljust Y.qh (Z.op (Z.bp K rfl) (Z.slice Y.nN (Z.bm K rfl PySem.F.plainAttrs_str PySem.F.slot_str_rstrip PySem.F.type_str_rstrip Y.mJ (Z.v 0) (Z.cons Z.str Z.nil)) Z.vZ (Z.oN (Z.un fV Z.int))) Z.str) (Z.cons (Z.v 1) (Z.cons Z.str Z.nil)))))),?_⟩
   refine ay λN hN=>?_;walk_at "rz";rw[hN];clear hN N;walk_at "rz";rw[JN V.noConfusion];refine⟨rfl,wd v,_,rfl,rfl,by rw[bE];exact JX hv (by decide),?_⟩
   have e0:(Str.ofString "1").cps.contains=λc:Nat=>c == 49:=by
    funext c
    show (#[49]:Array Nat).contains c=_;rw[Array.contains_eq_any_beq];simp
   have e1:=qp (wd v) (Str.ofString "1");rw[e0] at e1;have e2:(Txt.rstripChars (wd v) (Str.ofString "1")).cps.toList=(v.reverse.dropWhile (· == 49)).reverse:=by
    rw[<- My (Txt.rstripChars (wd v) (Str.ofString "1")).cps.toList,e1];rfl
   generalize Txt.rstripChars (wd v) (Str.ofString "1")=r at e2 ⊢;have hr2:r.length<=40:=by
    have:r.length=r.cps.toList.length:=by rw[K0];rfl
    rw[this,e2,LQ];exact JX (MU _).length_le (by rw[LQ];exact hv)
   have e3:(Y.j8 r none (some (-1))).cps.toList=r.cps.toList.dropLast:=by
    show (Y.yO r.cps.toList none (some (-1))).toArray.toList=_;rw[Nz];unfold Y.yO;rw[HT.e8,Ld,Mr,OG];congr 1;show (if (-1:Int)<0 then ((-1:Int)+(r.cps.toList.length:Int)).toNat else min (-1:Int).toNat r.cps.toList.length)=_
    rw[JQ (by decide)]
    lia
   have hl3:(Y.j8 r none (some (-1))).length<=40:=by
    have:(Y.j8 r none (some (-1))).length=(Y.j8 r none (some (-1))).cps.toList.length:=by rw[K0];rfl
    rw[this,e3,List.length_dropLast,K0];exact JX (Nat.sub_le _ _) hr2
   refine⟨r,rfl,JX hr2 (by decide),?_⟩
   refine⟨JX (show _<=41 from Nat.add_le_add_right hl3 1) (by decide),rfl,_,(n:Int),_,rfl,rfl,by lia,by lia,rfl,?_⟩
   have e4:Txt.ljustF (Y.j8 r none (some (-1))++Str.ofString "1") (n:Int) ((Str.ofString "0").cps.getD 0 0)=wd (Cw.gu v n):=by
    refine xr ?_;rw[PyProof.Rows.ljustF_list,Ky];have e5:(Y.j8 r none (some (-1))++Str.ofString "1").cps.toList=(v.reverse.dropWhile (· == 49)).reverse.dropLast++[49]:=by
     show ((Y.j8 r none (some (-1))).cps++#[49]).toList=_;rw[LR,e3,e2]
    have e6:(Y.j8 r none (some (-1))++Str.ofString "1").length=((v.reverse.dropWhile (· == 49)).reverse.dropLast++[49]).length:=by
     rw[<- e5,K0];rfl
    rw[e5,e6];rfl
   rw[e4];exact q
theorem Cp:Str.ofString ""=wd []:=rfl
theorem vp(z y:List Nat)(p:Nat)(hy:y≠[]):Y.lF (wd z) (wd y) (p:Int)=decide (y <+: z.drop p):=by
 have hl:0<y.length:=N0.mpr hy;unfold Y.lF;have e0:fromIndex (wd z).length (p:Int)=p:=by unfold fromIndex;rw[JN (by lia)];lia
 rw[e0];have e:Builtin.Str.subAt (wd z) (wd y) p=decide ((z.drop p).take y.length=y):=by
  unfold Builtin.Str.subAt wd;rw[LZ,Ms,Mi,<- Array.toList_inj,Array.toList_extract,NS];rw[show (⟨y.toArray⟩:Str).length=y.length from JP ..];simp
 rw[e,LZ,KO,Mi,Mi,Mi,List.prefix_iff_eq_take,bE,bE];refine⟨λh=>h.2.symm,λh=>⟨?_,h.symm⟩⟩;have:=K7 List.length h;rw[Ki,Kq] at this;lia
noncomputable def xV(ws:List (List Nat))(z:List Nat)(p:Nat):Option Nat:=(List.range ws.length).find? λi=>decide (ws.getD i [] <+: z.drop p)
theorem kY{ws:List (List Nat)}(h:xV ws z p=some t):t<ws.length/\ws.getD t [] <+: z.drop p:=by
 have h1:=NW h;have h2:=List.find?_some h;exact⟨LN.mp h1,Le h2⟩
theorem xq{ws:List (List Nat)}(h:xV ws z p=none)(ht:t<ws.length):¬ ws.getD t [] <+: z.drop p:=λhp=>by
 have:=List.find?_eq_none.mp h t (LN.mpr ht);exact this (Kw hp)
structure Pf (ws:List (List Nat)):Prop where
 ne:∀w∈ws,w≠[]
 pre:∀(i j:Nat) (hi:i<ws.length) (hj:j<ws.length),i≠j->¬ ws[i] <+: ws[j]
theorem Pf.th{ws:List (List Nat)}(h:Pf ws)(ht:t<ws.length)(hp:ws.getD t [] <+: z.drop p):xV ws z p=some t:=by
 cases c:xV ws z p with
 |none=>exact absurd hp (xq c ht)
 |some i =>
  obtain⟨hi,hpi⟩:=kY c;by_cases e:i=t
  ·rw[e]
  ·have g:∀{k:Nat} (hk:k<ws.length),ws.getD k []=ws[k]:=λhk=>by rw[JY,JI hk];rfl
   rw[g hi] at hpi;rw[g ht] at hp;rcases List.prefix_or_prefix_of_prefix hpi hp with q|q
   ·exact absurd q (h.pre i t hi ht e)
   ·exact absurd q (h.pre t i ht hi (Ll e))
theorem vg{ws:List (List Nat)}(n:Nat)(h:n<ws.length):(List.range' n (ws.length-n)).find? (λi=>decide (ws.getD i [] <+: z.drop p))=if ws[n] <+: z.drop p then some n else (List.range' (n+1) (ws.length-(n+1))).find? λi=>decide (ws.getD i [] <+: z.drop p):=by
 rw[show ws.length-n=(ws.length-(n+1))+1 by lia,Lw,L4]
 rw[JY,JI h];show (match decide (ws[n] <+: z.drop p) with|true=>some n|false=>_)=_
 by_cases c:ws[n] <+: z.drop p
 ·rw[Kw c,JQ c]
 ·rw[Ko c,JN c]
noncomputable def wV(ws:List (List Nat)):List V:=ws.map λw=>.str (wd w)
noncomputable def wQ:Option Nat->V
 |none=>.aU
 |some t=>.int (t:Int)
noncomputable def uh(K:W.Frag):Sp:=λvs H Q _=>∃(a:Addr) (ws:List (List Nat)) (z:List Nat) (p:Nat),vs=[.ref a,.str (wd z),.int (p:Nat)]/\bB K H a (wV ws)/\(∀w∈ws,w≠[])/\ws.length<=100/\z.length<=1000000/\∀H',KB [] H H'->Q (wQ (xV ws z p)) H'
theorem y_(T:Txt K mg)(F:HasFn K mg "thing_at" ij ["code","bits","place"]):ax P w K mg base aT 1 "thing_at" ["code","bits","place"] (uh K):=by
 refine F.fR gw (λvs H Q E h=>?_) (λf cdv A outer s H vs Q E hr h=>?_)
 ·obtain⟨a,ws,z,p,rfl,_⟩:=h;rfl
 ·have hu:=aR hr;obtain⟨a,ws,z,p,rfl,ha,hne,h100,hz,q⟩:=h;refine⟨_,(Z.aq (Z.iW K1 rfl (Z.enum K rfl rfl T.gC (Z.cons (Z.v 0) Z.nil)) (Z.q5 (n:=2) K rfl rfl (Z.b_ (Z.bu (i:=3) gw.nd rfl (by right)) (Z.b_ (Z.bu (i:=4) gw.nd rfl (by right)) Z.j3))) (Z.aA (Z.dJ (Z.tw (Z.p8 (Z.aZ yS (Z.v 4) Z.str) (Z.j0 (Z.wg K rfl (Z.bm K rfl PySem.F.plainAttrs_str PySem.F.slot_str_startswith PySem.F.type_str_startswith Y.rL (Z.v 1) (Z.cons (Z.v 4) (Z.cons (Z.v 2) Z.nil))))))) (Z.aA (Z.ret (Z.v 3))) Z.bN)))
   (Z.aA (Z.ret Z.aU))),?_⟩
  refine ay λN hN=>?_;walk_at "rz";refine⟨⟨_,ha⟩,?_⟩;refine qZ (xs:=wV ws) (λi σ H'=>KB [] H H'/\i<=ws.length/\(List.range' i (ws.length-i)).find? (λi=>decide (ws.getD i [] <+: z.drop p))=xV ws z p/\∃(s3 s4:Option V),σ=[some (.ref a),some (.str (wd z)),some (.int (p:Nat)),s3,s4]) ⟨KB.refl _ _,Kh _,by unfold xV;rw[Nn];rfl,none,none,rfl⟩ ?_ ?_ ?_
  ·rintro i σ H' hi ⟨k,_⟩;exact Jv ha k
  ·rintro i x σ H' b hx ⟨k,hi,ef,s3,s4,rfl⟩ hb;have hlt:i<ws.length:=by
    have:=(JO.mp hx).1;unfold wV at this;rw[JK] at this;exact this
   have ex:x=.str (wd ws[i]):=by
    unfold wV at hx;rw[JW,JI hlt] at hx;exact (Option.some.inj hx).symm
   subst ex;refine⟨b,_,rfl,bB.of ae,rfl,?_⟩;have k1:KB [] H (upd H' b (.tup [.int i,.str (wd ws[i])])):=k.trans (KB.new hb);generalize upd H' b (.tup [.int i,.str (wd ws[i])])=H1 at k1;have h0:ws[i]≠[]:=hne _ (Kf hlt);have hne':¬ wd ws[i]=Str.ofString "":=λe=>h0 (by rw[Cp] at e;exact K7 (λs:Str=>s.cps.toList) e)
   rw[vg i hlt] at ef;walk_at "rz";rw[JQ hne'];refine⟨rfl,_,_,_,rfl,rfl,_,rfl,?_⟩;rw[vp z ws[i] p h0];by_cases c:ws[i] <+: z.drop p
   ·rw[JQ c] at ef;rw[<- ef] at q;rw[JQ (Kw c)];exact q _ k1
   ·rw[JN c] at ef;rw[JN (by rw[Ko c];exact JZ)]
    exact⟨k1,hlt,ef,_,_,rfl,rfl⟩
  ·rintro σ H' ⟨k,_,ef,s3,s4,rfl⟩;have e:(wV ws).length=ws.length:=JK ..;rw[e,Li] at ef;have ef':xV ws z p=none:=ef.symm;rw[ef'] at q;show N _ _;rw[hN];clear hN N;walk_at "rz";exact q _ k
noncomputable def jC(ws:List (List Nat))(z:List Nat)(p:Nat):Option (Nat×Nat):=(xV ws z p).map λt=>(t,p+(ws.getD t []).length)
theorem eY{ws:List (List Nat)}{x:Nat×Nat}(hne:∀w∈ws,w≠[])(h:jC ws z p=some x):x.1<ws.length/\x.2=p+(ws.getD x.1 []).length/\p<x.2/\x.2<=z.length:=by
 unfold jC at h
 cases c:xV ws z p with
 |none=>rw[c] at h;cases h
 |some t =>
  rw[c] at h;cases h;obtain⟨h1,h2⟩:=kY c;have h3:=h2.length_le;rw[Kq] at h3;have h4:ws.getD t []≠[]:=by rw[JY,JI h1];exact hne _ (Kf h1)
  have h5:=N0.mpr h4;exact⟨h1,rfl,by show p<p+_;lia,by show p+_<=_;lia⟩
noncomputable def Jt(H:Hp)(v:V):Option (Nat×Nat)->Prop
 |none=>v=.aU
 |some x=>∃t,v=.ref t/\H t=some (.tup [.int (x.1:Nat),.int (x.2:Nat)])
noncomputable def iH(K:W.Frag):Sp:=λvs H Q _=>∃(a:Addr) (ws:List (List Nat)) (z:List Nat) (p:Nat),vs=[.ref a,.str (wd z),.int (p:Nat)]/\bB K H a (wV ws)/\(∀w∈ws,w≠[])/\ws.length<=100/\z.length<=1000000/\∀v H',KB [] H H'->Jt H' v (jC ws z p)->Q v H'
theorem yW(T:Txt K mg)(F:HasFn K mg "coded_at" ie ["code","bits","place"])(hthing_at:ax P w K mg base aT 1 "thing_at" ["code","bits","place"] (uh K)):ax P w K mg base aT 2 "coded_at" ["code","bits","place"] (iH K):=by
 refine F.fR jq (λvs H Q E h=>?_) (λf cdv A outer s H vs Q E hr h=>?_)
 ·obtain⟨a,ws,z,p,rfl,_⟩:=h;rfl
 ·have hu:=aR hr;obtain⟨a,ws,z,p,rfl,ha,hne,h100,hz,q⟩:=h;refine⟨_,(Z.aq (Z.se (i:=3) jq.nd (Z.fc hthing_at (Z.cons (Z.v 0) (Z.cons (Z.v 1) (Z.cons (Z.v 2) Z.nil)))))
   (Z.aA (Z.ret (Z.A5 (Z.aZ dH (Z.v 3) Z.aU) Z.aU (Z.tup (Z.cons (Z.v 3) (Z.cons (Z.op (Z.bp K rfl) (Z.v 2) (Z.cb (Z.cY K rfl) rfl T.cN (by decide +kernel) (Z.cons (Z.ix (Z.hJ K rfl) (Z.v 0) (Z.v 3)) Z.nil))) Z.nil))))))),?_⟩
  refine ay λN hN=>?_;walk_at "rz";refine⟨a,ws,z,p,rfl,ha,hne,h100,hz,λH1 k1=>?_⟩;rw[hN];clear hN N;have ha1:=Jv ha k1;unfold jC at q
  cases c:xV ws z p with
  |none =>
   rw[c] at q;unfold wQ;walk_at "rz";exact q _ _ k1 rfl
  |some t =>
   rw[c] at q;obtain⟨h1,h2⟩:=kY c;unfold wQ;walk_at "rz";rw[JN V.noConfusion];have h3:=h2.length_le;rw[Kq] at h3;refine⟨a,wV ws,_,.str (wd (ws.getD t [])),rfl,rfl,ha1,b9 (by unfold wV;rw[JW,JY,JI h1];rfl),?_⟩
   walk_at "rz";rw[bE];refine⟨JX (show _<=1000000 by lia) (by decide),by decide,λb hb=>q _ _ (k1.trans (KB.new hb)) ⟨b,rfl,?_⟩⟩
   rw[ae];rfl
noncomputable def eC(z:List Nat):Prop:=∀c∈z,c=48\/c=49
theorem eC.cut(h:eC z)(a n:Nat):eC ((z.drop a).take n):=λc hc=>h c (List.mem_of_mem_drop (Np hc))
theorem tm(z:List Nat)(a b:Nat)(h1:a<=b)(h2:b<=z.length):Y.j8 (wd z) (some (a:Int)) (some (b:Int))=wd ((z.drop a).take (b-a)):=by
 unfold Y.j8 wd;congr 2;show Y.yO z (some (a:Int)) (some (b:Int))=_;unfold Y.yO;rw[HT.fW,HT.fW,Nt h2,Nt (JX h1 h2)]
noncomputable def Aq(ws:List (List Nat))(z:List Nat)(p:Nat):Option (Nat×Nat):=match jC ws z p with
 |none=>none
 |some x=>if x.1=0 then some x else if x.2+(x.1-1)<=z.length then some (ll (49::(z.drop x.2).take (x.1-1)),x.2+(x.1-1)) else none
theorem BA(c:Nat)(w:List Nat):wd [c]++wd w=wd (c::w):=xr (by
 show (#[c]++w.toArray).toList=_;rw[LR];rfl)
noncomputable def uD(K:W.Frag):Sp:=λvs H Q _=>∃(a:Addr) (ws:List (List Nat)) (z:List Nat) (p:Nat),vs=[.ref a,.str (wd z),.int (p:Nat)]/\bB K H a (wV ws)/\(∀w∈ws,w≠[])/\ws.length<=20/\eC z/\z.length<=1000000/\∀v H',KB [] H H'->Jt H' v (Aq ws z p)->Q v H'
theorem zm(T:Txt K mg)(F:HasFn K mg "number_at" gB ["code","bits","place"])(hcoded_at:ax P w K mg base aT 2 "coded_at" ["code","bits","place"] (iH K)):ax P w K mg base aT 3 "number_at" ["code","bits","place"] (uD K):=by
 refine F.fR fH (λvs H Q E h=>?_) (λf cdv A outer s H vs Q E hr h=>?_)
 ·obtain⟨a,ws,z,p,rfl,_⟩:=h;rfl
 ·have hu:=aR hr;obtain⟨a,ws,z,p,rfl,ha,hne,h20,hb,hz,q⟩:=h;refine⟨_,(Z.aq (Z.se (i:=3) fH.nd (Z.fc hcoded_at (Z.cons (Z.v 0) (Z.cons (Z.v 1) (Z.cons (Z.v 2) Z.nil)))))
   (Z.aq (Z.dJ (Z.tw (Z.Ij (Z.aZ dH (Z.v 3) Z.aU) (Z.zB (Z.aZ b8 (Z.ix (Z.aP K rfl hu) (Z.v 3) Z.int) Z.int)))) (Z.aA (Z.ret (Z.v 3))) Z.bN)
   (Z.aq (Z.se (i:=4) fH.nd (Z.op dI (Z.op (Z.bp K rfl) (Z.ix (Z.aP K rfl hu) (Z.v 3) Z.int) (Z.ix (Z.aP K rfl hu) (Z.v 3) Z.int)) Z.int))
   (Z.aq (Z.dJ (Z.aZ tE (Z.v 4) (Z.cb (Z.cY K rfl) rfl T.cN (by decide +kernel) (Z.cons (Z.v 1) Z.nil))) (Z.aA (Z.ret Z.aU)) Z.bN)
   (Z.aA (Z.ret (Z.tup (Z.cons (Z.ct mK rfl T.zP (by decide +kernel) (Z.cons (Z.op (Z.bp K rfl) Z.str (Z.slice Y.nN (Z.v 1) (Z.oN (Z.ix (Z.aP K rfl hu) (Z.v 3) Z.int)) (Z.oN (Z.v 4)))) (Z.cons Z.int Z.nil))) (Z.cons (Z.v 4) Z.nil))))))))),?_⟩
  refine ay λN hN=>?_;walk_at "rz";refine⟨a,ws,z,p,rfl,ha,hne,by lia,hz,λv H1 k1 o1=>?_⟩
  rw[hN];clear hN N;refine ay λN hN=>?_;unfold Aq at q
  cases c:jC ws z p with
  |none =>
   rw[c] at q o1;obtain rfl:v=.aU:=o1;walk_at "rz";exact q _ _ k1 rfl
  |some x =>
   rw[c] at q o1;obtain⟨t,e⟩:=x;obtain⟨h1,_,h3,h4⟩:=eY hne c;obtain⟨b,rfl,hb1⟩:=o1;dsimp only at q h1 h3 h4 hb1;have sb:=aM hb1;have ne:¬ V.ref b=V.aU:=V.noConfusion;have a0:cI [V.int (t:Int),V.int (e:Int)] 0=some (.int (t:Int)):=rfl;have a1:cI [V.int (t:Int),V.int (e:Int)] 1=some (.int (e:Int)):=rfl;walk_at "rz";simp only[sb,a0,a1,if_neg ne];walk_at "rz";by_cases c0:t=0
   ·subst c0;rw[JQ rfl] at q;rw[JQ (by rfl)]
    exact q _ _ k1 ⟨b,rfl,hb1⟩
   ·rw[JN c0] at q;have ci:¬ ((t:Nat):Int)=0:=by lia
    rw[JN ci,hN];clear hN N;refine ay λN hN=>?_;walk_at "rz";simp only[sb,a0,a1];walk_at "rz";have eb:(e:Int)+(t:Int)-1=((e+(t-1):Nat):Int):=by lia
    rw[eb,hN];clear hN N;refine ay λN hN=>?_;walk_at "rz";refine⟨by rw[bE];exact JX hz (by decide),?_⟩
    rw[bE];by_cases cl:e+(t-1)<=z.length
    ·rw[JQ cl] at q;rw[JN (by lia),hN];clear hN N
     walk_at "rz";simp only[sb,a0,a1];have hb2:=hb.cut e (t-1);have hll:((z.drop e).take (t-1)).length<=20:=by rw[Ki];lia
     have hcl:(49::(z.drop e).take (t-1)).length<=21:=by rw[J_];lia
     refine⟨(e:Int),rfl,wd z,rfl,by rw[bE];exact JX hz (by decide),?_⟩
     rw[tm z _ _ (by lia) cl,Om,show Str.ofString "1"=wd [49] from by decide +kernel]
     show _/\DM [.str (wd [49]++wd ((z.drop e).take (t-1))),.int 2] H1 _;rw[BA,bE,bE];refine⟨JX (show _<=21 by rw[Mo];lia) (by decide),_,rfl,by rw[bE];exact JX hcl (by decide),λc hc=>?_,by simp[wd],by decide,λb2 hb2'=>?_⟩
     ·rcases JR.mp (show c∈49::(z.drop e).take (t-1) from hc) with rfl|hc
      ·exact .inr rfl
      ·exact hb2 c hc
     ·exact q _ _ (k1.trans (KB.new hb2')) ⟨b2,rfl,by rw[ae];rfl⟩
    ·rw[JN cl] at q;rw[JQ (by lia)]
     exact q _ _ k1 rfl
noncomputable def d5:Nat->List Nat
 |0=>[48]
 |1=>[49,48]
 |_=>[49,49]
noncomputable def bH:Nat->Nat
 |0=>4
 |1=>8
 |_=>16
noncomputable def cJ(k:Nat):Int:=if k=0 then 8 else if k=1 then 128 else 32768
noncomputable def uC:List (List Nat):=[d5 0,d5 1,d5 2]
theorem mq(h:k<3):k=0\/k=1\/k=2:=by lia
theorem nW:∀w∈uC,w≠[]:=by decide
theorem w_(h:k<3):uC.getD k []=d5 k:=by rcases mq h with rfl|rfl|rfl<;>rfl
noncomputable def CF(k n:Nat):Int:=if cJ k<=(n:Int) then (n:Int)-2*cJ k else (n:Int)
noncomputable def gA(z:List Nat)(p:Nat):Option (Int×Nat):=match jC uC z p with
 |none=>none
 |some x=>if x.2+bH x.1<=z.length then some (CF x.1 (ll ((z.drop x.2).take (bH x.1))),x.2+bH x.1) else none
theorem Ie:[V.str (Str.ofString "0"),.str (Str.ofString "10"),.str (Str.ofString "11")]=wV uC:=by
 rw[show Str.ofString "0"=wd [48] from by decide +kernel,show Str.ofString "10"=wd [49,48] from by decide +kernel,show Str.ofString "11"=wd [49,49] from by decide +kernel]
 rfl
noncomputable def JD(H:Hp)(v:V):Option (Int×Nat)->Prop
 |none=>v=.aU
 |some x=>∃t,v=.ref t/\H t=some (.tup [.int ((x.2:Int)+x.1),.int (x.2:Nat)])
noncomputable def ql(K:W.Frag):Sp:=λvs H Q _=>∃(z:List Nat) (p:Nat),vs=[.str (wd z),.int (p:Nat)]/\eC z/\z.length<=1000000/\∀v H',KB [] H H'->JD H' v (gA z p)->Q v H'
theorem wA(T:Txt K mg)(F:HasFn K mg "goal_at" iS ["bits","place"])(hcoded_at:ax P w K mg base aT 2 "coded_at" ["code","bits","place"] (iH K)):ax P w K mg base aT 3 "goal_at" ["bits","place"] (ql K):=by
 refine F.fR d7 (λvs H Q E h=>?_) (λf cdv A outer s H vs Q E hr h=>?_)
 ·obtain⟨z,p,rfl,_⟩:=h;rfl
 ·have hu:=aR hr;obtain⟨z,p,rfl,hb,hz,q⟩:=h;obtain⟨aE,hg_HEADS,sE⟩:=T.nk;obtain⟨aW,hg_WIDTHS,sW⟩:=T.lj;obtain⟨aV,hg_HALVES,sV⟩:=T.qc;have hr_HEADS:RelV (.ref aE) (.ref aE):=rfl;have hr_WIDTHS:RelV (.ref aW) (.ref aW):=rfl;have hr_HALVES:RelV (.ref aV) (.ref aV):=rfl;refine⟨_,(Z.aq (Z.se (i:=2) d7.nd (Z.fc hcoded_at (Z.cons (Z.glob rfl hg_HEADS hr_HEADS) (Z.cons (Z.v 0) (Z.cons (Z.v 1) Z.nil)))))
   (Z.aq (Z.dJ (Z.aZ dH (Z.v 2) Z.aU) (Z.aA (Z.ret Z.aU)) Z.bN)
   (Z.aq (Z.se (i:=3) d7.nd (Z.ix (Z.aP K rfl hu) (Z.v 2) Z.int))
   (Z.aq (Z.se (i:=4) d7.nd (Z.op (Z.bp K rfl) (Z.ix (Z.aP K rfl hu) (Z.v 2) Z.int) (Z.ix (Z.hJ K rfl) (Z.glob rfl hg_WIDTHS hr_WIDTHS) (Z.v 3))))
   (Z.aq (Z.dJ (Z.aZ tE (Z.v 4) (Z.cb (Z.cY K rfl) rfl T.cN (by decide +kernel) (Z.cons (Z.v 0) Z.nil))) (Z.aA (Z.ret Z.aU)) Z.bN)
   (Z.aq (Z.se (i:=5) d7.nd (Z.ct mK rfl T.zP (by decide +kernel) (Z.cons (Z.slice Y.nN (Z.v 0) (Z.oN (Z.ix (Z.aP K rfl hu) (Z.v 2) Z.int)) (Z.oN (Z.v 4))) (Z.cons Z.int Z.nil))))
   (Z.aq (Z.dJ (Z.aZ sZ (Z.v 5) (Z.ix (Z.hJ K rfl) (Z.glob rfl hg_HALVES hr_HALVES) (Z.v 3))) (Z.aA (Z.se (i:=5) d7.nd (Z.op dI (Z.v 5) (Z.op de Z.int (Z.ix (Z.hJ K rfl) (Z.glob rfl hg_HALVES hr_HALVES) (Z.v 3)))))) Z.bN)
   (Z.aA (Z.ret (Z.tup (Z.cons (Z.op (Z.bp K rfl) (Z.v 4) (Z.v 5)) (Z.cons (Z.v 4) Z.nil)))))))))))),?_⟩
  refine ay λN hN=>?_;walk_at "rz";refine⟨aE,uC,z,p,rfl,by rw[<- Ie];exact sE H,nW,by decide,hz,λv H1 k1 o1=>?_⟩
  rw[hN];clear hN N;refine ay λN hN=>?_;unfold gA at q
  cases c:jC uC z p with
  |none =>
   rw[c] at q o1;obtain rfl:v=.aU:=o1;walk_at "rz";exact q _ _ k1 rfl
  |some x =>
   rw[c] at q o1;obtain⟨k,e⟩:=x;obtain⟨h1,_,h3,h4⟩:=eY nW c;obtain⟨b,rfl,hb1⟩:=o1;dsimp only at q h1 h3 h4 hb1;have hk:k<3:=h1;have sb:=aM hb1;have ne:¬ V.ref b=V.aU:=V.noConfusion;have a0:cI [V.int (k:Int),V.int (e:Int)] 0=some (.int (k:Int)):=rfl;have a1:cI [V.int (k:Int),V.int (e:Int)] 1=some (.int (e:Int)):=rfl;walk_at "rz";rw[if_neg ne,hN];clear hN N;refine ay λN hN=>?_;walk_at "rz";simp only[sb,a0,a1];rw[hN];clear hN N;refine ay λN hN=>?_;walk_at "rz";simp only[sb,a0,a1];have aw:cI [V.int 4,.int 8,.int 16] (k:Int)=some (.int (bH k:Nat)):=by rcases mq hk with rfl|rfl|rfl<;>rfl
   have ah:cI [V.int 8,.int 128,.int 32768] (k:Int)=some (.int (cJ k)):=by rcases mq hk with rfl|rfl|rfl<;>rfl
   have h16:bH k<=16/\0<bH k:=by rcases mq hk with rfl|rfl|rfl<;>decide
   refine⟨aW,_,_,_,rfl,rfl,sW H1,aw,?_⟩;show N [_,_,_,_,some (V.int ((e:Int)+(bH k:Nat))),none] H1;rw[show (e:Int)+(bH k:Nat)=((e+bH k:Nat):Int) by lia,hN];clear hN N
   refine ay λN hN=>?_;walk_at "rz";refine⟨by rw[bE];exact JX hz (by decide),?_⟩
   rw[bE];by_cases cl:e+bH k<=z.length
   ·rw[JQ cl] at q;rw[JN (by lia),hN];clear hN N
    refine ay λN hN=>?_;walk_at "rz";simp only[sb,a0,a1];have hb2:=hb.cut e (bH k);have hl2:((z.drop e).take (bH k)).length=bH k:=by rw[Ki,Kq];lia
    refine⟨(e:Int),rfl,wd z,rfl,by rw[bE];exact JX hz (by decide),?_⟩
    rw[tm z _ _ (by lia) cl,Om]
    refine⟨_,rfl,by rw[bE,hl2];lia,hb2,λe0=>by have e1:(z.drop e).take (bH k)=[]:=e0;rw[e1] at hl2;simp at hl2;lia,?_⟩
    rw[show (wd ((z.drop e).take (bH k))).cps.toList=(z.drop e).take (bH k) from rfl];generalize ll ((z.drop e).take (bH k))=n at *;unfold CF at q;show N _ _;rw[hN];clear hN N;refine ay λN hN=>?_;walk_at "rz";refine⟨aV,_,_,_,rfl,rfl,sV H1,ah,_,_,rfl,rfl,_,rfl,?_⟩;have fin:∀d:Int,d=(if cJ k<=(n:Int) then (n:Int)-2*cJ k else (n:Int))->N [some (.str (wd z)),some (.int (p:Nat)),some (.ref b),some (.int (k:Nat)),some (.int ((e+bH k:Nat):Int)),some (.int d)] H1:=λd ed=>by
     rw[hN];clear hN N;walk_at "rz";refine⟨by decide,λb2 hb2'=>q _ _ (k1.trans (KB.new hb2')) ⟨b2,rfl,?_⟩⟩
     rw[ae,ed]
    by_cases ch:cJ k<=(n:Int)
    ·rw[JQ (Kw ch)];refine⟨aV,_,_,_,rfl,rfl,sV H1,ah,?_⟩;exact⟨.inl (by decide),_,_,rfl,rfl,fin _ (by rw[JQ ch])⟩
    ·rw[JN (by rw[Ko ch];exact JZ)]
     exact fin _ (by rw[JN ch])
   ·rw[JN cl] at q;rw[JQ (by lia)]
    exact q _ _ k1 rfl
theorem iQ(u:_root_.Fin 2):u=0\/u=1:=by revert u;decide
theorem zr(u:_root_.Fin 3):u=0\/u=1\/u=2:=by revert u;decide
theorem Gi{b:Nat}(h:b<8):b=0\/b=1\/b=2\/b=3\/b=4\/b=5\/b=6\/b=7:=by lia
theorem HK{l:List α}(h:l.length=8):∃a b c d e f g i,l=[a,b,c,d,e,f,g,i]:=by
 rcases l with _|⟨a,_|⟨b,_|⟨c,_|⟨d,_|⟨e,_|⟨f,_|⟨g,_|⟨i,_|⟨j,l⟩⟩⟩⟩⟩⟩⟩⟩⟩<;>first|exact⟨_,_,_,_,_,_,_,_,rfl⟩ | (exfalso;revert h;simp)
inductive Row where
 |put (b n:Nat)|two (w:Fin 3) (a b:Nat)|one (w:Fin 2) (b:Nat)|jump (g:Nat)|zero (b g:Nat)|halt
 deriving DecidableEq
noncomputable def bY(i:Nat):Str:=⟨#[97+i]⟩
noncomputable def w2:Fin 3->Str
 |0=>"add"
 |1=>"sub"
 |2=>"copy"
noncomputable def w1:Fin 2->Str
 |0=>"tell"
 |1=>"hear"
inductive Bl where
 |s (z:Str)|n (k:Nat)
noncomputable def Row.ps:Row->List Bl
 |.put b n=>[.s "put",.s (bY b),.n n]
 |.two w a b=>[.s (w2 w),.s (bY a),.s (bY b)]
 |.one w b=>[.s (w1 w),.s (bY b)]
 |.jump g=>[.s "jump",.n g]
 |.zero b g=>[.s "zero",.s (bY b),.n g]
 |.halt=>[.s "halt"]
noncomputable def Row.Ok(size:Nat):Row->Prop
 |.put b n=>b<8/\n<65536
 |.two _ a b=>a<8/\b<8
 |.one _ b=>b<8
 |.jump g=>g<=size
 |.zero b g=>b<8/\g<=size
 |.halt=>True
theorem Row.Ok.mono{a b:Nat}{r:Row}(h:r.Ok a)(hm:a<=b):r.Ok b:=by
 cases r<;>simp only[Row.Ok] at h ⊢<;>lia
theorem zk{k:Int}(h0:0<=k)(h1:k<8):cI (Str.ofString "abcdefgh").cps.toList k=some (97+k.toNat):=by
 have e:(Str.ofString "abcdefgh").cps.toList=[97,98,99,100,101,102,103,104]:=by decide +kernel
 rw[e];obtain⟨n,rfl⟩:∃n:Nat,k=n:=⟨k.toNat,by lia⟩
 unfold cI lV;have hn:n<8:=by lia
 rw[JQ (by lia),JQ (by simp;lia)]
 show [97,98,99,100,101,102,103,104][((n:Nat):Int).toNat]?=some (97+((n:Nat):Int).toNat);rw[Ky];rcases Gi hn with rfl|rfl|rfl|rfl|rfl|rfl|rfl|rfl<;>rfl
noncomputable def b7(ls:List Int)(t:Nat):Nat:=(ls.getD t 0).toNat
noncomputable def bC(ls:List Int):List Nat:=jO ls (List.range ls.length)
noncomputable def wordsOf(nx:List Nat->Nat->List Nat)(ls:List Int):List (List Nat):=(Cw.along nx (b7 ls) (bC ls) (none,List.replicate ls.length [])).2
noncomputable def fN(ls:List Int)(done:List Nat):Option (List Nat)×List (List Nat):=Cw.along Cw.gu (b7 ls) done (none,List.replicate ls.length [])
theorem tW{v:List Nat}{n:Nat}(hv:v.length<=40)(hn:n<=40):(Cw.gu v n).length<=40:=by
 have h1:((v.reverse.dropWhile (· == 49)).reverse.dropLast).length<=39:=by
  rw[List.length_dropLast,LQ];have:=(MU (· == 49) (l:=v.reverse)).length_le;rw[LQ] at this;lia
 unfold Cw.gu Cw.pad;rw[JL,Kb,JL,Mo];lia
theorem jJ(h:t∈bC ls):t<ls.length:=LN.mp ((lL (by rw[Lo])).mem_iff.mp h)
theorem Fs(ls:List Int)(done:List Nat):(fN ls done).2.length=ls.length:=by
 unfold fN;rw[Cw.gR,Kb]
namespace Cw
noncomputable def Dv(a b:List Nat):Prop:=∃u,u++[48] <+: a/\u++[49] <+: b
theorem pQ{u v:List Nat}{c d:Nat}{b:List Nat}(h1:u++[c] <+: b)(h2:v++[d] <+: b)(hl:u.length<v.length):u++[c] <+: v:=by
 have h3:v <+: b:=(MO v [d]).trans h2;exact LS h1 h3 (by rw[JL];exact hl)
theorem Dv.trans{a b c:List Nat}(h:Dv a b)(g:Dv b c):Dv a c:=by
 obtain⟨u,h1,h2⟩:=h;obtain⟨v,g1,g2⟩:=g;rcases Nat.lt_trichotomy u.length v.length with e|e|e
 ·exact⟨u,h1,(pQ h2 g1 e).trans ((MO v [49]).trans g2)⟩
 ·have p1:(u++[49]).length=(v++[48]).length:=by rw[JL,JL,e];rfl
  have p2:u++[49]=v++[48]:=(LS h2 g1 (by lia)).eq_of_length p1
  have p3:[49]=[48]:=(List.append_inj' p2 rfl).2;exact absurd p3 (by decide)
 ·exact⟨v,(pQ g1 h2 e).trans ((MO u [48]).trans h1),g2⟩
theorem Dv.not{a b:List Nat}(h:Dv a b):¬ a <+: b/\¬ b <+: a:=by
 obtain⟨u,h1,h2⟩:=h;have key:∀c,u++[48] <+: c->u++[49] <+: c->False:=λc p q=>by
  have e:u++[48]=u++[49]:=(LS p q (by simp)).eq_of_length (by simp)
  exact absurd (List.append_cancel_left e) (by decide)
 exact⟨λp=>key b (h1.trans p) h2,λp=>key a h1 (h2.trans p)⟩
theorem Dv.lt{a b:List Nat}(h:Dv a b):a<b:=by
 obtain⟨u,⟨x,rfl⟩,⟨y,rfl⟩⟩:=h
 induction u with
 |nil=>exact List.Lex.rel (by decide)
 |cons c u ih=>exact List.Lex.cons ih
theorem CS{w:List Nat}{n:Nat}(hb:∀c∈w,c=48\/c=49)(h:w.all (· == 49)=false):Dv w (iO w n):=by
 obtain⟨p,k,rfl⟩:=parts hb h;unfold iO pad;rw[gQ];exact⟨p,⟨List.replicate k 49,by simp⟩,⟨List.replicate k 48++List.replicate (n-(p++49::List.replicate k 48).length) 48,by simp⟩⟩
noncomputable def nG(ln:Nat->Nat)(a:Option (List Nat))(t:Nat):List Nat:=match a with
 |none=>List.replicate (ln t) 48
 |some v=>gu v (ln t)
noncomputable def kE(ln:Nat->Nat):Option (List Nat)->List Nat->List (List Nat)
 |_,[]=>[]
 |a,t::r=>nG ln a t::kE ln (some (nG ln a t)) r
theorem y0:∀(order done:List Nat) (a:Option (List Nat)),(order.Pairwise λi j=>ln i<=ln j)->(∀t∈order,ln t<=40)->(∀v,a=some v->jj done v/\∀t∈order,v.length<=ln t)->(a=none->done=[])->Kr.ks 40 (done++order.map ln)<=2^40 ->
  (∀v,a=some v->∀x∈kE ln a order,Dv v x)/\(kE ln a order).Pairwise Dv/\∀(i t:Nat),order[i]?=some t->∃w,(kE ln a order)[i]?=some w/\w.length=ln t
 |[],_,_,_,_,_,_,_=>⟨λ_ _ x hx=>(by cases hx),List.Pairwise.nil,λi t e=>(by cases e)⟩
 |t::r,done,a,hp,h40,ha,hn,hk=>by
  obtain⟨p1,p2⟩:=Kz.mp hp;have ht:=h40 t JU;have hk':Kr.ks 40 ((done++[ln t])++r.map ln)<=2^40:=by rw[Kj];exact hk
  have fin:∀w:List Nat,w=nG ln a t->jj (done++[ln t]) w->w.length=ln t->(∀v,a=some v->Dv v w) ->
    (∀v,a=some v->∀x∈kE ln a (t::r),Dv v x)/\(kE ln a (t::r)).Pairwise Dv/\∀(i s:Nat),(t::r)[i]?=some s->∃w,(kE ln a (t::r))[i]?=some w/\w.length=ln s:=λw ew hH hl hd=>by
   obtain⟨q1,q2,q3⟩:=y0 r (done++[ln t]) (some w) p2 (λx hx=>h40 x (JT _ hx)) (λv e=>by cases e;exact⟨hH,λx hx=>by rw[hl];exact p1 x hx⟩) (λe=>by cases e) hk'
   have es:kE ln a (t::r)=w::kE ln (some w) r:=by rw[ew];rfl
   rw[es];refine⟨λv e x hx=>?_,Kz.mpr ⟨λx hx=>q1 w rfl x hx,q2⟩,λi s e=>?_⟩
   ·rcases JR.mp hx with rfl|hx
    ·exact hd v e
    ·exact (hd v e).trans (q1 w rfl x hx)
   ·cases i with
    |zero=>cases e;exact⟨w,rfl,hl⟩
    |succ i=>exact q3 i s (by simpa using e)
  cases a with
  |none =>
   have:=hn rfl;subst this;exact fin _ rfl (jj.first ht) (show (List.replicate (ln t) 48).length=ln t by rw[Kb]) (λv e=>by cases e)
  |some v =>
   obtain⟨hv,hl⟩:=ha v rfl;have hvl:=hl t JU;have hk2:Kr.ks 40 done+2^(40-ln t)<=2^40:=by
    rw[Kr.d6,Kr.d6] at hk';simp[Kr.ks] at hk'
    omega
   have z:=hv.zero (rest:=[]) hk2;have e:=u_ hv.bits z hvl;refine fin _ rfl ?_ ?_ ?_
   ·show jj _ (gu v (ln t));rw[e];exact hv.next hvl ht hk2
   ·show (gu v (ln t)).length=_;rw[e];exact fw hvl
   ·intro u eu;cases eu;show Dv v (gu v (ln t));rw[e];exact CS hv.bits z
theorem qf:∀(order:List Nat) (a:Option (List Nat)) (ws:List (List Nat)),order.Nodup->(∀t∈order,t<ws.length)->(∀(i t:Nat),order[i]?=some t->(along gu ln order (a,ws)).2[t]?=(kE ln a order)[i]?)/\∀t,t∉order->(along gu ln order (a,ws)).2[t]?=ws[t]?
 |[],_,_,_,_=>⟨λi t e=>(by cases e),λ_ _=>rfl⟩
 |t::r,a,ws,hn,hl=>by
  obtain⟨n1,n2⟩:=Lq.mp hn;have ht:=hl t JU;have ea:along gu ln (t::r) (a,ws)=along gu ln r (some (nG ln a t),ws.set t (nG ln a t)):=by cases a<;>rfl
  rw[ea];obtain⟨q1,q2⟩:=qf r (some (nG ln a t)) (ws.set t (nG ln a t)) n2 (λx hx=>by rw[KD];exact hl x (JT _ hx))
  refine⟨λi s e=>?_,λs hs=>?_⟩
  ·cases i with
   |zero =>
    cases e;exact (q2 t n1).trans (by rw[Me ht];rfl)
   |succ i=>exact q1 i s (by simpa using e)
  ·have h1:s≠t:=λz=>hs (by rw[z];exact JU)
   have h2:s∉r:=λz=>hs (JT _ z);exact (q2 s h2).trans (by rw[Ng (Ll h1)])
noncomputable def Lx(p q:Int×Nat):Prop:=p.1<q.1\/(p.1=q.1/\p.2<q.2)
theorem y6{p:Int×Nat}:∀{l:List (Int×Nat)},l.Pairwise Lx->(∀q∈l,p.2<q.2)->(iB p l).Pairwise Lx
 |[],_,_=>Ol _ _
 |q::r,h,hp=>by
  obtain⟨h1,h2⟩:=Kz.mp h;have hq:=hp q JU;unfold iB;split
  ·rename_i c;refine Kz.mpr ⟨λz hz=>?_,h⟩;have hz2:=hp z hz;have:q.1<=z.1:=by
    rcases JR.mp hz with rfl|hz
    ·exact O0 _
    ·have:=h1 z hz;unfold Lx at this;omega
   unfold Lx;omega
  ·rename_i c;refine Kz.mpr ⟨λz hz=>?_,y6 h2 λz hz=>hp z (JT _ hz)⟩;rcases JR.mp ((gN p r).mem_iff.mp hz) with rfl|hz
   ·unfold Lx;omega
   ·exact h1 z hz
theorem tM:∀{l:List (Int×Nat)},(l.Pairwise λp q=>p.2<q.2)->(fv l).Pairwise Lx
 |[],_=>.nil
 |p::r,h=>by
  obtain⟨h1,h2⟩:=Kz.mp h;exact y6 (tM h2) λq hq=>h1 q ((eK r).mem_iff.mp hq)
end Cw
structure Canon (ls:List Int) (W:List (List Nat)):Prop where
 len:W.length=ls.length
 GK:∀t,t<ls.length->(W.getD t []).length=b7 ls t
 part:∀s t,s<ls.length->t<ls.length->(ls.getD s 0<ls.getD t 0\/(ls.getD s 0=ls.getD t 0/\s<t))->Cw.Dv (W.getD s []) (W.getD t [])
theorem mP(ls:List Int):ls.zip (List.range ls.length)=(List.range ls.length).map λt=>(ls.getD t 0,t):=by
 apply Mz
 ·simp
 ·intro i h1 h2;simp at h1;simp[h1]
theorem canon(hL:lZ ls)(hk:KS ls<=2^40):Canon ls (wordsOf Cw.gu ls):=by
 have hS:(Cw.Lx · ·)=(Cw.Lx · ·):=rfl;have hlx:(fv (ls.zip (List.range ls.length))).Pairwise Cw.Lx:=by
  refine Cw.tM ?_;rw[mP];exact NN.mpr O2
 have hmem:∀p∈fv (ls.zip (List.range ls.length)),p.1=ls.getD p.2 0/\p.2<ls.length:=λp hp=>by
  have:=(eK _).mem_iff.mp hp;rw[mP] at this;obtain⟨t,ht,rfl⟩:=K2.mp this;exact⟨rfl,LN.mp ht⟩
 have hord:(bC ls).Pairwise λs t=>ls.getD s 0<ls.getD t 0\/(ls.getD s 0=ls.getD t 0/\s<t):=by
  unfold bC jO;refine NN.mpr (hlx.imp_of_mem λ{p q} hp hq h=>?_);rw[<- (hmem p hp).1,<- (hmem q hq).1];exact h
 have hperm:(bC ls).Perm (List.range ls.length):=lL (by rw[Lo])
 have hnd:(bC ls).Nodup:=hperm.nodup_iff.mpr List.nodup_range;have hb:∀t,t<ls.length->1<=ls.getD t 0/\ls.getD t 0<=40:=λt ht=>by
  rw[JY,JI ht];have:=hL.2.2 _ (Kf ht);show 1<=ls[t]/\ls[t]<=40;lia
 have hmm:∀t∈bC ls,t<ls.length:=λt ht=>jJ ht;have hks:Kr.ks 40 ([]++(bC ls).map (b7 ls))<=2^40:=by
  rw[Lr,Kr.i9 (hperm.map (b7 ls))];have e:(List.range ls.length).map (b7 ls)=ls.map Int.toNat:=by
   apply Mz
   ·simp
   ·intro i h1 h2;simp at h1;simp[b7,h1]
  rw[e];exact hk
 obtain⟨_,q2,q3⟩:=Cw.y0 (ln:=b7 ls) (bC ls) [] none (hord.imp_of_mem λ{s t} hs ht h=>by
  have:=hb s (hmm s hs);have:=hb t (hmm t ht);unfold b7;omega) (λt ht=>by have:=hb t (hmm t ht);unfold b7;omega) (λv e=>by cases e) (λ_=>rfl) hks
 obtain⟨a1,_⟩:=Cw.qf (ln:=b7 ls) (bC ls) none (List.replicate ls.length []) hnd (λt ht=>by rw[Kb];exact hmm t ht)
 have hat:∀t,t<ls.length->∃i w,(bC ls)[i]?=some t/\(Cw.kE (b7 ls) none (bC ls))[i]?=some w/\w.length=b7 ls t/\(wordsOf Cw.gu ls).getD t []=w:=λt ht=>by
  obtain⟨i,hi⟩:=Nc.mp (hperm.mem_iff.mpr (LN.mpr ht));obtain⟨w,hw,hl⟩:=q3 i t hi;refine⟨i,w,hi,hw,hl,?_⟩;unfold wordsOf;rw[JY,a1 i t hi,hw];rfl
 refine⟨?_,λt ht=>?_,λs t hs ht h=>?_⟩
 ·unfold wordsOf;rw[Cw.gR,Kb]
 ·obtain⟨i,w,_,_,hl,e⟩:=hat t ht;rw[e];exact hl
 ·obtain⟨i,w,h1,h2,_,e⟩:=hat s hs;obtain⟨j,v,g1,g2,_,e'⟩:=hat t ht;rw[e,e'];obtain⟨hi,rfl⟩:=JO.mp h2;obtain⟨hj,rfl⟩:=JO.mp g2;obtain⟨hi',ei⟩:=JO.mp h1;obtain⟨hj',ej⟩:=JO.mp g1;have hij:i<j:=by
   rcases Nat.lt_trichotomy i j with c|c|c
   ·exact c
   ·subst c;have est:s=t:=ei.symm.trans ej;subst est
    exfalso;omega
   ·have:=LM.mp hord j i hj' hi' c;rw[ei,ej] at this
    exfalso;omega
  exact LM.mp q2 i j hi hj hij
noncomputable def dg(n:Int):Nat:=48+(n % 2).toNat
noncomputable def bX:Int->Nat->List Nat->List Nat
 |_,0,acc=>acc
 |n,k+1,acc=>bX (n / 2) k (dg n::acc)
theorem dQ:∀(k:Nat) (n:Int) (acc:List Nat),(bX n k acc).length=k+acc.length
 |0,_,_=>by rw[bX,MJ]
 |k+1,n,acc=>by rw[bX,dQ k,J_];lia
theorem jY:∀(k:Nat) (n:Int) (acc:List Nat),∃d,bX n (k+1) acc=d::bX n k acc
 |0,n,acc=>⟨dg n,rfl⟩
 |k+1,n,acc=>by
  obtain⟨d,e⟩:=jY k (n / 2) (dg n::acc);exact⟨d,e⟩
theorem EH(n:Int):dg n=48\/dg n=49:=by
 unfold dg;have:n % 2=0\/n % 2=1:=by lia
 rcases this with e|e<;>rw[e]
 ·exact .inl rfl
 ·exact .inr rfl
theorem iq:∀(k:Nat) (n:Int) (acc:List Nat),(∀c∈acc,c=48\/c=49)->∀c∈bX n k acc,c=48\/c=49
 |0,_,_,h=>h
 |k+1,n,acc,h=>iq k (n / 2) (dg n::acc) λc hc=>by
  rcases JR.mp hc with rfl|hc
  ·exact EH n
  ·exact h c hc
theorem Gb(n:Int):Str.ofString (toString (n % 2))=wd [dg n]:=by
 have:n % 2=0\/n % 2=1:=by lia
 unfold dg;rcases this with e|e<;>rw[e]
 ·exact (by decide +kernel)
 ·exact (by decide +kernel)
theorem lO(a b:List Nat):wd a++wd b=wd (a++b):=by
 apply xr;show (a.toArray++b.toArray).toList=_;simp
theorem yT:Str.ofString ""=wd []:=by decide +kernel
noncomputable def bM(n:Nat):Nat:=Builtin.Int.intBits (n:Int)
noncomputable def fe(n:Nat):List Nat:=bX (n:Int) (bM n) []
theorem jQ{n:Nat}(h:n<65536):bM n<17:=by
 unfold bM Builtin.Int.intBits;split
 ·decide
 ·rename_i hz;have h0:n≠0:=λz=>hz (by rw[z];rfl)
  show (n:Int).natAbs.log2+1<17;rw[NC];have:=(Nat.log2_lt (n:=n) (k:=16) h0).mpr (by lia)
  lia
noncomputable def dD(k:Nat)(d:Int):List Nat:=d5 k++bX d (bH k) []
theorem Gk{n:Nat}(h:0<n):Builtin.Int.intBits (n:Int)=Builtin.Int.intBits ((n / 2:Nat):Int)+1:=by
 unfold Builtin.Int.intBits;rw[JN (by simp;lia)]
 show (n:Int).natAbs.log2+1=_;rw[NC,Nat.log2_def];split
 ·rw[JN (by simp;lia),NC]
 ·have e:n / 2=0:=by lia
  rw[e];rfl
noncomputable def Row.wi:Row->Nat
 |.put _ _=>0
 |.two u _ _=>1+u
 |.one u _=>4+u
 |.jump _=>6
 |.zero _ _=>7
 |.halt=>8
theorem Row.xc(r:Row):r.wi<9:=by
 cases r with
 |two u a b=>exact (by decide:∀u:_root_.Fin 3,1+(u:Nat)<9) u
 |one u b=>exact (by decide:∀u:_root_.Fin 2,4+(u:Nat)<9) u
 |put b n=>exact (by decide:0<9)
 |jump g=>exact (by decide:6<9)
 |zero b g=>exact (by decide:7<9)
 |halt=>exact (by decide:8<9)
inductive Pk where
 |box (b:Nat)|num (n:Nat)|goal (g:Nat)
noncomputable def Pk.kd:Pk->Str
 |.box _=>"box"
 |.num _=>"number"
 |.goal _=>"goal"
noncomputable def Pk.Ok:Pk->Prop
 |.box b=>b<8
 |.num n=>n<65536
 |.goal _=>True
noncomputable def Pk.qJ:Pk->List (Nat×Nat)
 |.box b=>[(2,b)]
 |.num n=>[(1,bM n)]
 |.goal _=>[]
noncomputable def Row.wd:Row->Str
 |.put _ _=>"put"
 |.two u _ _=>w2 u
 |.one u _=>w1 u
 |.jump _=>"jump"
 |.zero _ _=>"zero"
 |.halt=>"halt"
noncomputable def Row.gq:Row->List Pk
 |.put b n=>[.box b,.num n]
 |.two _ a b=>[.box a,.box b]
 |.one _ b=>[.box b]
 |.jump g=>[.goal g]
 |.zero b g=>[.box b,.goal g]
 |.halt=>[]
theorem Row.zJ{r:Row}(h:r.Ok k):∀p∈r.gq,p.Ok:=by
 cases r with
 |put b n=>simp only[Row.gq,JR,Kt,La];exactλp z=>z.elim (λe=>e ▸ h.1) λe=>e ▸ h.2
 |two u a b=>simp only[Row.gq,JR,Kt,La];exactλp z=>z.elim (λe=>e ▸ h.1) λe=>e ▸ h.2
 |one u b=>simp only[Row.gq,JR,Kt,La];rintro p rfl;exact h
 |jump g=>simp only[Row.gq,JR,Kt,La];rintro p rfl;exact trivial
 |zero b g=>simp only[Row.gq,JR,Kt,La];exactλp z=>z.elim (λe=>e ▸ h.1) λe=>e ▸ trivial
 |halt=>simp[Row.gq]
noncomputable def dh(r:Row):List (Nat×Nat):=(0,r.wi)::r.gq.flatMap Pk.qJ
noncomputable def cX:List Str:=["put","add","sub","copy","tell","hear","jump","zero","halt"]
theorem HH:∀k,k<9->∀m,m<k->cX[m]?≠cX[k]?:=by decide +kernel
theorem Dq(r:Row):cX[r.wi]?=some r.wd/\∀m,m<r.wi->cX[m]?≠some r.wd:=by
 have h1:cX[r.wi]?=some r.wd:=by
  cases r with
  |two u a b=>exact (by decide +kernel:∀u:_root_.Fin 3,cX[1+(u:Nat)]?=some (w2 u)) u
  |one u b=>exact (by decide +kernel:∀u:_root_.Fin 2,cX[4+(u:Nat)]?=some (w1 u)) u
  |put b n=>rfl
  |jump g=>rfl
  |zero b g=>rfl
  |halt=>rfl
 exact⟨h1,λm hm=>by rw[<- h1];exact HH _ r.xc m hm⟩
noncomputable def bR:List (Str×List Str):=[("put",["box","number"]),("add",["box","box"]),("sub",["box","box"]),("copy",["box","box"]),("tell",["box"]),("hear",["box"]),("jump",["goal"]),("zero",["box","goal"]),("halt",[])]
theorem v7(r:Row):KTD.datumAt r.wd bR=some (r.gq.map Pk.kd):=by
 cases r with
 |two u a b=>exact (by decide +kernel:∀u:_root_.Fin 3,KTD.datumAt (w2 u) bR=some [("box":Str),"box"]) u
 |one u b=>exact (by decide +kernel:∀u:_root_.Fin 2,KTD.datumAt (w1 u) bR=some [("box":Str)]) u
 |put b n=>exact (by decide +kernel:KTD.datumAt ("put":Str) bR=some [("box":Str),"number"])
 |jump g=>exact (by decide +kernel:KTD.datumAt ("jump":Str) bR=some [("goal":Str)])
 |zero b g=>exact (by decide +kernel:KTD.datumAt ("zero":Str) bR=some [("box":Str),"goal"])
 |halt=>exact (by decide +kernel:KTD.datumAt ("halt":Str) bR=some ([]:List Str))
noncomputable def Gh:List Str:=["a","b","c","d","e","f","g","h"]
theorem zV{b:Nat}(h:b<8):Gh[b]?=some (bY b)/\∀m,m<b->Gh[m]?≠some (bY b):=(by decide +kernel:∀b,b<8->Gh[b]?=some (bY b)/\∀m,m<b->Gh[m]?≠some (bY b)) b h
theorem kP:∀(o:List Nat) (a:Option (List Nat)) (ws:List (List Nat)),(∀t∈o,ln t<=40)->(∀v,a=some v->v.length<=40)->(∀x∈ws,x.length<=40)->∀x∈(Cw.along Cw.gu ln o (a,ws)).2,x.length<=40
 |[],_,_,_,_,h=>h
 |t::o,a,ws,ho,ha,hw=>by
  have ht:=ho t JU;have h2:=λt h=>ho t (JT _ h)
  cases a with
  |none =>
   refine kP o (some (List.replicate (ln t) 48)) _ h2 (λv e=>by cases e;rw[Kb];exact ht) λx hx=>?_
   rcases KA hx with z|z
   ·exact hw x z
   ·rw[z,Kb];exact ht
  |some v =>
   have hv:=tW (ha v rfl) ht;refine kP o (some (Cw.gu v (ln t))) _ h2 (λv e=>by cases e;exact hv) λx hx=>?_
   rcases KA hx with z|z
   ·exact hw x z
   ·rw[z];exact hv
theorem xv(hL:lZ ls):∀x∈wordsOf Cw.gu ls,x.length<=40:=by
 refine kP _ _ _ (λt ht=>?_) (λv e=>by cases e) λx hx=>by rw[(KU.mp hx).2];decide
 have h:=jJ ht;have:=hL.2.2 _ (Kf h);unfold b7;rw[JY,JI h];show ls[t].toNat<=40;lia
theorem iU(ls:List Int):(wordsOf Cw.gu ls).length=ls.length:=(Cw.gR _ _).trans (Kb ..)
structure Cd (cd:List (List (List Nat))):Prop where
 ex:∃a b c,cd=[a,b,c]/\a.length=9/\b.length=17/\c.length=8
 le:∀ws∈cd,∀x∈ws,x.length<=40
noncomputable def aY(cd:List (List (List Nat)))(p:Nat×Nat):List Nat:=(cd.getD p.1 []).getD p.2 []
noncomputable def gE:Row->List Nat
 |.put _ n=>(fe n).tail
 |_=>[]
noncomputable def bL(cd:List (List (List Nat)))(r:Row):List Nat:=(dh r).flatMap (aY cd)++gE r
noncomputable def Bk(bk:List (List Int)):Prop:=∃a b c,bk=[a,b,c]/\a.length=9/\b.length=17/\c.length=8/\∀l∈bk,lZ l/\qd l=true
noncomputable def fZ(bk:List (List Int)):List (List (List Nat)):=bk.map (wordsOf Cw.gu)
theorem Bk.cd{bk:List (List Int)}(h:Bk bk):Cd (fZ bk):=by
 obtain⟨a,b,c,rfl,h1,h2,h3,h4⟩:=h;refine⟨⟨_,_,_,rfl,by rw[iU,h1],by rw[iU,h2],by rw[iU,h3]⟩,λws hw=>?_⟩
 obtain⟨l,hl,rfl⟩:=K2.mp hw;exact xv (h4 l hl).1
theorem nv:∀l:List (List Nat),(Str.ofString "").join (l.map wd)=wd l.flatten
 |[]=>rfl
 |[x]=>by simp[Str.join]
 |x::y::r=>by
  show wd x++Str.ofString ""++(Str.ofString "").join ((y::r).map wd)=_;rw[nv (y::r),yT,lO,lO,K6];rfl
theorem zj{r:Row}(h:r.Ok k):∀p∈dh r,(p.1=0/\p.2<9)\/(p.1=1/\p.2<17)\/(p.1=2/\p.2<8):=by
 intro p hp;unfold dh at hp;rcases JR.mp hp with rfl|hp
 ·exact .inl ⟨rfl,r.xc⟩
 ·obtain⟨q,hq,hp⟩:=List.mem_flatMap.mp hp;have:=Row.zJ h q hq
  cases q with
  |box b=>rw[Ka.mp hp];exact .inr (.inr ⟨rfl,this⟩)
  |num n=>rw[Ka.mp hp];exact .inr (.inl ⟨rfl,jQ this⟩)
  |goal n=>cases hp
theorem Cd.at{cd:List (List (List Nat))}(h:Cd cd){p:Nat×Nat}(hp:(p.1=0/\p.2<9)\/(p.1=1/\p.2<17)\/(p.1=2/\p.2<8)):cd[p.1]?=some (cd.getD p.1 [])/\(cd.getD p.1 [])[p.2]?=some (aY cd p)/\(aY cd p).length<=40:=by
 obtain⟨a,b,c,rfl,h1,h2,h3⟩:=h.ex;have key:∀(l:List (List Nat)) (i:Nat),i<l.length->l[i]?=some (l.getD i [])/\l.getD i []∈l:=λl i hi=>by
  rw[JY,JI hi];exact⟨rfl,Kf hi⟩
 obtain⟨x,y⟩:=p;rcases hp with ⟨rfl,hy⟩|⟨rfl,hy⟩|⟨rfl,hy⟩
 ·have:=key a y (by rw[h1];exact hy)
  exact⟨rfl,this.1,h.le a (by simp) _ this.2⟩
 ·have:=key b y (by rw[h2];exact hy)
  exact⟨rfl,this.1,h.le b (by simp) _ this.2⟩
 ·have:=key c y (by rw[h3];exact hy)
  exact⟨rfl,this.1,h.le c (by simp) _ this.2⟩
theorem oE(r:Row):(dh r).length<=3:=by cases r<;>simp[dh,Row.gq,Pk.qJ]
theorem oV{cd:List (List (List Nat))}{r:Row}(hC:Cd cd)(h:r.Ok k):((dh r).flatMap (aY cd)).length<=120/\(gE r).length<=16:=by
 refine⟨?_,?_⟩
 ·have:∀l:List (Nat×Nat),(∀p∈l,(aY cd p).length<=40)->(l.flatMap (aY cd)).length<=40*l.length:=λl=>by
   induction l with
   |nil=>exactλ_=>JS _
   |cons p l ih =>
    intro h;have h1:=h p JU;have h2:=ih λq hq=>h q (JT _ hq);rw[List.flatMap_cons,JL,J_];lia
  have h1:=this (dh r) λp hp=>(hC.at (zj h p hp)).2.2;have h2:=oE r;lia
 ·cases r with
  |put b n =>
   have:=jQ (n:=n) h.2;show (fe n).tail.length<=16;rw[List.length_tail];unfold fe;rw[dQ];simp only[KL];lia
  |_=>exact Kh _
noncomputable def nZ(l:List Nat):List Int:=l.map λk:Nat=>(k:Int)
theorem hZ(l:List Nat):(nZ l).length=l.length:=JK ..
theorem EO{l:List Nat}(h:Kr.ks 40 l<=2^40):qd (nZ l)=true:=by
 unfold qd KS nZ;rw[L5,show (Int.toNat ∘ λk:Nat=>(k:Int))=id from funext λk=>Ky k,List.map_id];exact Kw h
structure Pt (l:List Nat):Prop where
 ks:Kr.ks 40 l=2^40
 le:∀x∈l,x+1<=l.length
 one:l=[0]\/∀x∈l,1<=x
theorem Pt.pos{l:List Nat}(h:Pt l):1<=l.length:=by
 cases l with
 |nil=>have:=h.ks;simp[Kr.ks] at this
 |cons=>simp
theorem Pt.next{l l3:List Nat}{a:Nat}(h:Pt l)(ha:a<l.length)(hl:l.length<=17)(hp:l3.Perm ((l[a]+1)::(l[a]+1)::l.eraseIdx a)):Pt l3/\l3.length=l.length+1:=by
 have hpm:(l[a]::l.eraseIdx a).Perm l:=by
  rw[LU]
  conv=>rhs;rw[<- Lh a l,<- List.getElem_cons_drop ha]
  exact Of.symm
 have hle:=l.length_eraseIdx_of_lt ha;have hx:=h.le _ (Kf ha);have h3:l3.length=l.length+1:=by
  rw[hp.length_eq,J_,J_,hle];lia
 have mem:∀y∈l3,y=l[a]+1\/y∈l.eraseIdx a:=λy hy=>by
  rcases JR.mp (hp.mem_iff.mp hy) with z|z
  ·exact .inl z
  ·rcases JR.mp z with z|z
   ·exact .inl z
   ·exact .inr z
 have mem2:∀y∈l.eraseIdx a,y∈l:=λy hy=>hpm.mem_iff.mp (JT _ hy);refine⟨⟨?_,λy hy=>?_,.inr λy hy=>?_⟩,h3⟩
 ·have e1:=Kr.i9 (L:=40) hpm;rw[h.ks,Kr.ks] at e1;rw[Kr.i9 hp,Kr.ks,Kr.ks];have e2:2^(40-l[a])=2*2^(40-(l[a]+1)):=by rw[show 40-l[a]=(40-(l[a]+1))+1 by lia,Nq];lia
  lia
 ·rw[h3];rcases mem y hy with rfl|z
  ·lia
  ·have:=h.le y (mem2 y z);lia
 ·rcases mem y hy with rfl|z
  ·lia
  ·rcases h.one with e|e
   ·subst e;have ha0:a=0:=by simpa using ha
    subst ha0;cases z
   ·exact e y (mem2 y z)
theorem CT(l:List α)(n:Nat)(x:α):(jo l n x).length=l.length+1:=by
 unfold jo;rw[JL,J_,Ki,Kq];lia
theorem qE(l:List α)(n:Nat)(x:α):(jo l n x).Perm (x::l):=by
 unfold jo;refine Of.trans ?_;rw[Lh]
theorem zZ:∀{l:List Nat} {a z:Nat} (ha:a<l.length),l[a]<=z->Kr.ks 40 (l.set a z)<=Kr.ks 40 l
 |[],_,_,ha,_=>(nomatch ha)
 |x::l,0,z,_,h=>by
  have:2^(40-z)<=2^(40-x):=Nr (by decide) (by have:x<=z:=h;lia)
  simp only[NB,Kr.ks];lia
 |x::l,a+1,z,ha,h=>by
  have:=zZ (l:=l) (a:=a) (z:=z) (by simpa using ha) (by simpa using h)
  simp only[List.set_cons_succ,Kr.ks];lia
theorem Gp:∀(k:Nat) (w acc:List Nat),w.length=k->(∀c∈w,c=48\/c=49)->bX (Cw.val w:Int) k acc=w++acc:=by
 intro k
 induction k with
 |zero=>intro w acc h _;rw[LW.mp h];rfl
 |succ k ih =>
  intro w acc h hb;obtain⟨v,c,rfl⟩:∃v c,w=v++[c]:=by
   rcases OD w with e|⟨v,c,e⟩
   ·rw[e] at h;cases h
   ·exact⟨v,c,by rw[e,List.concat_eq_append]⟩
  have hc:=hb c (by simp)
  have ev:Cw.val (v++[c])=2*Cw.val v+(c-48):=by
   rw[Cw.gK];rcases hc with rfl|rfl
   ·simp[Cw.val];lia
   ·simp[Cw.val];lia
  rw[bX];have e1:((Cw.val (v++[c]):Nat):Int) / 2=(Cw.val v:Int):=by rw[ev];lia
  have e2:dg ((Cw.val (v++[c]):Nat):Int)=c:=by
   unfold dg;rw[ev];rcases hc with rfl|rfl
   ·have:((2*Cw.val v+(48-48):Nat):Int) % 2=0:=by lia
    rw[this];rfl
   ·have:((2*Cw.val v+(49-48):Nat):Int) % 2=1:=by lia
    rw[this];rfl
  rw[e1,e2,ih v (c::acc) (by rw[JL,Mo] at h;lia) (λx hx=>hb x (by simp[hx])),Kj]
  rfl
theorem FF(ls:List Int):Kr.ks 40 ((bC ls).map (b7 ls))=KS ls:=by
 unfold KS;refine Kr.i9 ?_;have e:ls.map Int.toNat=(List.range ls.length).map (b7 ls):=by
  apply Mz
  ·simp
  ·intro i h1 h2;have hi:i<ls.length:=by simpa using h1
   simp[b7,hi]
 rw[e];exact (lL (by rw[Lo])).map _
structure At (ls:List Int) (done todo:List Nat) (a:Option (List Nat)) (n h:Int):Prop where
 all:done++todo=bC ls
 st:(a=none/\done=[]/\n=-1/\h=0)\/∃w,a=some w/\n=(Cw.val w:Int)/\h=(w.length:Int)/\Cw.jj (done.map (b7 ls)) w/\∀t∈todo,w.length<=b7 ls t
noncomputable def nG(a:Option (List Nat))(l:Nat):List Nat:=match a with|none=>List.replicate l 48|some v=>Cw.iO v l
theorem At.next{ls:List Int}{done todo:List Nat}{a:Option (List Nat)}{n h:Int}{t:Nat}(x:At ls done (t::todo) a n h)(hL:lZ ls)(ho:qd ls=true)(hu:(bC ls).Pairwise λi j=>b7 ls i<=b7 ls j):
  ∃d:Nat,(b7 ls t:Int)-h=d/\d<=b7 ls t/\(n+1)*2^d=(Cw.val (nG a (b7 ls t)):Int)/\(nG a (b7 ls t)).length=b7 ls t/\(∀c∈nG a (b7 ls t),c=48\/c=49)/\At ls (done++[t]) todo (some (nG a (b7 ls t))) (Cw.val (nG a (b7 ls t)):Int) (b7 ls t:Int):=by
 have hall:(done++[t])++todo=bC ls:=by rw[Kj];exact x.all
 have htl:b7 ls t<=40:=by
  have h:=jJ (ls:=ls) (t:=t) (by rw[<- x.all];simp)
  have:=hL.2.2 _ (Kf h);unfold b7;rw[JY,JI h];show ls[t].toNat<=40;lia
 have hk:Kr.ks 40 ((done++[t]++todo).map (b7 ls))<=2^40:=by rw[hall,FF];exact Le ho
 rw[Kg,Kg,Kr.d6,Kr.d6] at hk;have hle:∀u∈todo,b7 ls t<=b7 ls u:=λu hu'=>by
  rw[<- x.all] at hu;exact (Kz.mp (K_.mp hu).2.1).1 u hu'
 rcases x.st with ⟨rfl,rfl,rfl,rfl⟩|⟨w,rfl,rfl,rfl,hH,hw⟩
 ·refine⟨b7 ls t,by lia,JS _,?_,Kb ..,λc hc=>.inl (KU.mp hc).2,hall,.inr ⟨_,rfl,rfl,by rw[show nG none (b7 ls t)=List.replicate (b7 ls t) 48 from rfl,Kb],Cw.jj.first htl,λu hu'=>by rw[show nG none (b7 ls t)=List.replicate (b7 ls t) 48 from rfl,Kb];exact hle u hu'⟩⟩
  rw[show nG none (b7 ls t)=List.replicate (b7 ls t) 48 from rfl,Cw.fB];simp
 ·have hwt:=hw t JU;have hk2:Kr.ks 40 (done.map (b7 ls))+2^(40-b7 ls t)<=2^40:=by
   simp only[Ku,Ml,Kr.ks] at hk;lia
  have hz:=hH.zero (rest:=[]) hk2;have hN:=hH.next hwt htl hk2;refine⟨b7 ls t-w.length,by lia,Nat.sub_le _ _,?_,Cw.fw hwt,Cw.mO hH.bits,hall,.inr ⟨_,rfl,rfl,by rw[show nG (some w) (b7 ls t)=Cw.iO w (b7 ls t) from rfl,Cw.fw hwt],by rw[Kg];exact hN,λu hu'=>by rw[show nG (some w) (b7 ls t)=Cw.iO w (b7 ls t) from rfl,Cw.fw hwt];exact hle u hu'⟩⟩
  rw[show nG (some w) (b7 ls t)=Cw.iO w (b7 ls t) from rfl,Cw.pw hH.bits hz];simp
theorem je:∀(k:Nat) (n:Int) (acc:List Nat),bX n k acc=bX n k []++acc
 |0,_,_=>rfl
 |k+1,n,acc=>by
  rw[bX,bX,je k (n / 2) (dg n::acc),je k (n / 2) [dg n],Kj];rfl
theorem r_(k:Nat)(n:Int):bX n (k+1) []=bX (n / 2) k []++[dg n]:=by rw[bX,je]
theorem Ah(w:List Nat)(c:Nat):Cw.val (w++[c])=2*Cw.val w+(c-48):=by
 rw[Cw.gK];simp[Cw.val];lia
theorem jk:∀(k:Nat) (n:Int),(Cw.val (bX n k []):Int)=n % 2^k
 |0,n=>by simp[bX,Cw.val,Int.emod_one]
 |k+1,n=>by
  rw[r_,Ah];have ih:=jk k (n / 2);have hd:((dg n-48:Nat):Int)=n % 2:=by unfold dg;have:=LI n (show (2:Int)≠0 by decide);lia
  have e:(2:Int)*((n / 2) % 2^k)+n % 2=n % 2^(k+1):=by
   have h1:=OH n 2;have h2:=OH (n / 2) (2^k);have hp:(0:Int)<2^k:=O5 (by decide)
   have h3:=LI (n / 2) (Int.ne_of_gt hp);have h4:=LF (n / 2) hp;have h5:=LI n (show (2:Int)≠0 by decide)
   have h6:=LF n (show (0:Int)<2 by decide)
   rw[Int.pow_succ];have key:n=(2*((n / 2) % 2^k)+n % 2)+(2^k*2)*((n / 2) / 2^k):=by
    rw[Int.mul_assoc,Int.mul_left_comm];generalize 2^k*(n / 2 / 2^k)=y at h2 ⊢;lia
   generalize hr:2*((n / 2) % 2^k)+n % 2=r at key ⊢;generalize (n / 2) / 2^k=y at key;rw[key,Int.add_mul_emod_self_left,Mj (by lia) (by lia)]
  push_cast
  rw[ih,hd,e]
theorem pq:∀(cs:List Nat) (a:Nat),cs.foldl (λa c=>a*2+(c-48)) a=a*2^cs.length+Cw.val cs
 |[],a=>by simp[Cw.val]
 |c::cs,a=>by
  rw[Ni,pq cs,Cw.val,J_,Nq,Nat.add_mul];rw[M9,Nat.mul_comm 2 (2^cs.length),MZ]
theorem uz(cs:List Nat):ll cs=Cw.val cs:=by
 unfold ll;rw[pq,Nat.zero_mul,MJ]
theorem yC:∀{cs:List Nat},(∀c∈cs,c=48\/c=49)->Cw.val cs<2^cs.length
 |[],_=>by decide
 |c::cs,h=>by
  have ih:=yC (cs:=cs) λx hx=>h x (JT _ hx);rw[Cw.val,J_,Nq];rcases h c JU with rfl|rfl<;>simp<;>lia
theorem pe(n:Nat):∀c∈fe n,c=48\/c=49:=iq _ _ _ λc hc=>by cases hc
theorem sN(n:Nat):(fe n).length=bM n:=by unfold fe;rw[dQ];rfl
theorem lP{n:Nat}(h:0<n):2^(bM n-1)<=n/\n<2^bM n/\0<bM n:=by
 have e:bM n=n.log2+1:=by
  unfold bM Builtin.Int.intBits;rw[JN (by simp;lia)]
  rfl
 rw[e];exact⟨Nat.log2_self_le (by lia),Nat.lt_log2_self,Nat.succ_pos _⟩
theorem t_{n:Nat}(h:0<n):Cw.val (fe n)=n:=by
 have h1:=jk (bM n) (n:Int);have h2:=(lP h).2.1;have e:(n:Int) % 2^bM n=n:=Mj (by lia) (by exact_mod_cast h2)
 rw[e] at h1;unfold fe
 exact_mod_cast h1
theorem Ax{n:Nat}(h:0<n):fe n=49::(fe n).tail:=by
 obtain⟨b1,b2,b3⟩:=lP h;have hl:=sN n;have hv:=t_ h;have hb:=pe n
 cases e:fe n with
 |nil=>rw[e] at hl;simp at hl;lia
 |cons c r =>
  rw[e] at hl hv hb;rcases hb c JU with rfl|rfl
  ·exfalso
   have:=yC (cs:=r) λx hx=>hb x (JT _ hx);rw[J_] at hl;rw[<- hl,ML] at b1;simp[Cw.val] at hv;lia
  ·rfl
theorem Cs{n:Nat}(h:0<n):ll (49::(fe n).tail)=n:=by rw[<- Ax h,uz,t_ h]
theorem wB{n:Nat}(h:bM n=0):n=0:=by
 rcases MM n with e|e
 ·exact e
 ·have:=(lP e).2.2;lia
inductive Kd where
 |box|num|go
noncomputable def Kd.s:Kd->Str
 |.box=>Str.ofString "box"
 |.num=>Str.ofString "number"
 |.go=>Str.ofString "goal"
inductive PV where
 |box (b:Nat)|num (n:Nat)|go (d:Int)
noncomputable def mf(cd:List (List (List Nat)))(z:List Nat)(p:Nat):Kd->Option (PV×Nat)
 |.box=>(jC (cd.getD 2 []) z p).map λx=>(.box x.1,x.2)
 |.num=>(Aq (cd.getD 1 []) z p).map λx=>(.num x.1,x.2)
 |.go=>(gA z p).map λx=>(.go x.1,x.2)
structure sX (cd:List (List (List Nat))):Prop where
 fX:Cd cd
 pf:∀w∈cd,Pf w
noncomputable def BO(i:Nat):List Kd:=[[Kd.box,.num],[.box,.box],[.box,.box],[.box,.box],[.box],[.box],[.go],[.box,.go],[]].getD i []
noncomputable def qL(cd:List (List (List Nat)))(z:List Nat):List Kd->Nat->Option (List (PV×Nat)×Nat)
 |[],p=>some ([],p)
 |k::ks,p=>(mf cd z p k).bind λx=>(qL cd z ks x.2).map λy=>(x::y.1,y.2)
structure RW where
 wi:Nat
 vs:List (PV×Nat)
noncomputable def A1(cd:List (List (List Nat)))(z:List Nat)(p:Nat):Option (RW×Nat):=(jC (cd.getD 0 []) z p).bind λx=>(qL cd z (BO x.1) x.2).map λy=>(⟨x.1,y.1⟩,y.2)
noncomputable def wN(cd:List (List (List Nat)))(z:List Nat)(p:Int):Option (RW×Nat):=if p<0 then none else A1 cd z p.toNat
theorem uK(cd:List (List (List Nat)))(z:List Nat)(p:Nat):wN cd z (p:Int)=A1 cd z p:=by
 unfold wN;rw[JN (by lia),Ky]
theorem CM(h:i<9):KTD.datumAt (cX.getD i (Str.ofString "")) bR=some ((BO i).map Kd.s):=by
 have:i=0\/i=1\/i=2\/i=3\/i=4\/i=5\/i=6\/i=7\/i=8:=by lia
 rcases this with rfl|rfl|rfl|rfl|rfl|rfl|rfl|rfl|rfl<;>decide +kernel
theorem Pf.nd{ws:List (List Nat)}(h:Pf ws):ws.Nodup:=by
 unfold List.Nodup;rw[LM];intro i j hi hj hij e;exact h.pre i j hi hj (Kn hij) (by rw[e];exact List.prefix_refl _)
noncomputable def PV.n:PV->Int
 |.box b=>(b:Int)
 |.num n=>(n:Int)
 |.go d=>d
noncomputable def Kd.c:Kd->Nat
 |.box=>98
 |.num=>110
 |.go=>103
structure J6 (cd:List (List (List Nat))):Prop extends sX cd where
 J5:∀ws∈cd,∀w∈ws,w.length<=20
theorem zE{ws:List (List Nat)}{x:Nat×Nat}(hne:∀w∈ws,w≠[])(h:Aq ws z p=some x):p<x.2/\x.2<=z.length:=by
 unfold Aq at h
 cases c:jC ws z p with
 |none=>rw[c] at h;cases h
 |some y =>
  rw[c] at h;obtain⟨_,_,h3,h4⟩:=eY hne c;dsimp only at h
  split at h
  ·cases h;exact⟨h3,h4⟩
  ·split at h
   ·rename_i hl;cases h;exact⟨by show p<y.2+_;lia,hl⟩
   ·cases h
theorem Dg{x:Int×Nat}(h:gA z p=some x):p<x.2/\x.2<=z.length:=by
 unfold gA at h
 cases c:jC uC z p with
 |none=>rw[c] at h;cases h
 |some y =>
  rw[c] at h;obtain⟨_,_,h3,h4⟩:=eY nW c;dsimp only at h
  split at h
  ·rename_i hl;cases h;exact⟨by show p<y.2+_;lia,hl⟩
  ·cases h
theorem yk{cd:List (List (List Nat))}{k:Kd}{x:PV×Nat}(hR:sX cd)(h:mf cd z p k=some x):p<x.2/\x.2<=z.length/\(∀b,x.1=.box b->b<8):=by
 obtain⟨c0,c1,c2,rfl,l0,l1,l2⟩:=hR.fX.ex;have n1:=(hR.pf c1 (by simp)).ne
 have n2:=(hR.pf c2 (by simp)).ne
 cases k with
 |box =>
  replace h:(jC c2 z p).map (λx=>(PV.box x.1,x.2))=some x:=h
  cases c:jC c2 z p with
  |none=>rw[c] at h;cases h
  |some y=>rw[c] at h;cases h;obtain⟨h1,_,h3,h4⟩:=eY n2 c;exact⟨h3,h4,λb e=>by cases e;lia⟩
 |num =>
  replace h:(Aq c1 z p).map (λx=>(PV.num x.1,x.2))=some x:=h
  cases c:Aq c1 z p with
  |none=>rw[c] at h;cases h
  |some y=>rw[c] at h;cases h;exact⟨(zE n1 c).1,(zE n1 c).2,λb e=>by cases e⟩
 |go =>
  replace h:(gA z p).map (λx=>(PV.go x.1,x.2))=some x:=h
  cases c:gA z p with
  |none=>rw[c] at h;cases h
  |some y=>rw[c] at h;cases h;exact⟨(Dg c).1,(Dg c).2,λb e=>by cases e⟩
theorem eC.app{x y:List Nat}(hx:eC x)(hy:eC y):eC (x++y):=λc hc=>(K8.mp hc).elim (hx c) (hy c)
theorem eC.rep(n:Nat){v:Nat}(h:v=48\/v=49):eC (List.replicate n v):=λc hc=>by rw[(KU.mp hc).2];exact h
theorem AL{w:List Nat}{n:Nat}(h:eC w):eC (Cw.gu w n):=by
 unfold Cw.gu Cw.pad;refine eC.app (eC.app (λc hc=>h c ?_) λc hc=>.inr (Ka.mp hc)) (eC.rep _ (.inl rfl));have h1:=LA.mp (List.dropLast_subset _ hc);exact LA.mp ((MU _).subset h1)
theorem vW{o:List Nat}:∀{a:Option (List Nat)} {ws:List (List Nat)},(∀v,a=some v->eC v)->(∀x∈ws,eC x)->∀x∈(Cw.along Cw.gu ln o (a,ws)).2,eC x:=by
 induction o with
 |nil=>exactλ_ h=>h
 |cons t o ih =>
  intro a ws ha hw
  cases a with
  |none =>
   refine ih (a:=some (List.replicate (ln t) 48)) (λv e=>by cases e;exact eC.rep _ (.inl rfl)) λx hx=>?_
   rcases KA hx with z|z
   ·exact hw x z
   ·rw[z];exact eC.rep _ (.inl rfl)
  |some v =>
   have hv:=AL (n:=ln t) (ha v rfl);refine ih (a:=some (Cw.gu v (ln t))) (λv e=>by cases e;exact hv) λx hx=>?_
   rcases KA hx with z|z
   ·exact hw x z
   ·rw[z];exact hv
theorem wG(ls:List Int):∀x∈wordsOf Cw.gu ls,eC x:=vW (λv e=>by cases e) λx hx=>by rw[(KU.mp hx).2];exactλc hc=>by cases hc
theorem yK{cd:List (List (List Nat))}(h:∀ws∈cd,∀w∈ws,eC w)(r:Row):eC (bL cd r):=by
 have at2:∀p,eC (aY cd p):=λp=>by
  unfold aY;rw[JY,JY]
  cases e:cd[p.1]? with
  |none=>exactλc hc=>by cases hc
  |some ws =>
   show eC (ws[p.2]?.getD [])
   cases e2:ws[p.2]? with
   |none=>exactλc hc=>by cases hc
   |some w=>exact h ws (KW e) w (KW e2)
 unfold bL;refine eC.app (λc hc=>?_) ?_
 ·obtain⟨p,_,hp⟩:=List.mem_flatMap.mp hc;exact at2 p c hp
 ·cases r with
  |put b n=>exactλc hc=>pe n c (List.mem_of_mem_tail hc)
  |two=>exactλc hc=>by cases hc
  |one=>exactλc hc=>by cases hc
  |jump=>exactλc hc=>by cases hc
  |zero=>exactλc hc=>by cases hc
  |halt=>exactλc hc=>by cases hc
theorem Ep(bk:List (List Int)):∀ws∈fZ bk,∀w∈ws,eC w:=λws hw=>by
 obtain⟨l,_,rfl⟩:=K2.mp hw;exact wG l
theorem gJ{cd:List (List (List Nat))}(hC:Cd cd){r:Row}(hr:r.Ok k):(bL cd r).length<=136:=by
 have:=oV hC hr;unfold bL;rw[JL];lia
inductive dF where
 |put (b n:Nat)|two (w:Fin 3) (a b:Nat)|one (w:Fin 2) (b:Nat)|jump (g:Int)|zero (b:Nat) (g:Int)|halt
inductive C9 where
 |s (z:Str)|n (k:Int)
noncomputable def dF.ps:dF->List C9
 |.put b n=>[.s "put",.s (bY b),.n (n:Nat)]
 |.two w a b=>[.s (w2 w),.s (bY a),.s (bY b)]
 |.one w b=>[.s (w1 w),.s (bY b)]
 |.jump g=>[.s "jump",.n g]
 |.zero b g=>[.s "zero",.s (bY b),.n g]
 |.halt=>[.s "halt"]
noncomputable def dF.Ok:dF->Prop
 |.put b _=>b<8
 |.two _ a b=>a<8/\b<8
 |.one _ b=>b<8
 |.jump _=>True
 |.zero b _=>b<8
 |.halt=>True
noncomputable def dF.rel(e:Int):dF->dF
 |.jump g=>.jump (g-e)
 |.zero b g=>.zero b (g-e)
 |r=>r
noncomputable def rk(x:RW×Nat):dF:=match x.1.vs with
 |[(.box b,_)]=>.one (if x.1.wi=4 then 0 else 1) b
 |[(.go d,e)]=>.jump ((e:Int)+d)
 |[(.box a,_),(.box b,_)]=>.two (if x.1.wi=1 then 0 else if x.1.wi=2 then 1 else 2) a b
 |[(.box b,_),(.num n,_)]=>.put b n
 |[(.box b,_),(.go d,e)]=>.zero b ((e:Int)+d)
 |_=>.halt
theorem IB{cd:List (List (List Nat))}{k:Kd}{y:List (PV×Nat)×Nat}(h:qL cd z [k] p=some y):∃x,mf cd z p k=some x/\y=([x],x.2):=by
 obtain⟨x,hx,h⟩:=LX.mp h;cases h;exact⟨x,hx,rfl⟩
theorem He{cd:List (List (List Nat))}{k l:Kd}{y:List (PV×Nat)×Nat}(h:qL cd z [k,l] p=some y):∃x x',mf cd z p k=some x/\mf cd z x.2 l=some x'/\y=([x,x'],x'.2):=by
 obtain⟨x,hx,h⟩:=LX.mp h;obtain⟨y',hy,rfl⟩:=Km.mp h;obtain⟨x',hx',rfl⟩:=IB hy;exact⟨x,x',hx,hx',rfl⟩
theorem fj{cd:List (List (List Nat))}{x:PV×Nat}(hR:sX cd)(h:mf cd z p .box=some x):∃b e,x=(.box b,e)/\b<8:=by
 have h8:=(yk hR h).2.2;obtain⟨v,_,rfl⟩:=Km.mp h;exact⟨_,_,rfl,h8 _ rfl⟩
theorem E4{cd:List (List (List Nat))}{x:PV×Nat}(h:mf cd z p .num=some x):∃n e,x=(.num n,e):=by
 obtain⟨v,_,rfl⟩:=Km.mp h;exact⟨_,_,rfl⟩
theorem Dt{cd:List (List (List Nat))}{x:PV×Nat}(h:mf cd z p .go=some x):∃d e,x=(.go d,e):=by
 obtain⟨v,_,rfl⟩:=Km.mp h;exact⟨_,_,rfl⟩
theorem E6{cd:List (List (List Nat))}{ks:List Kd}{y:List (PV×Nat)×Nat}(hR:sX cd)(h:qL cd z ks p=some y):p<=y.2/\(p<=z.length->y.2<=z.length):=by
 induction ks generalizing p y with
 |nil=>cases h;exact⟨JS _,id⟩
 |cons k ks ih =>
  rw[qL] at h;obtain⟨x,hx,h⟩:=LX.mp h;obtain⟨y',hy,rfl⟩:=Km.mp h;obtain⟨i1,i2⟩:=ih hy;obtain⟨j1,j2,_⟩:=yk hR hx;exact⟨by show p<=y'.2;lia,λ_=>i2 j2⟩
theorem wW(hL:lZ ls)(ho:qd ls=true):Pf (wordsOf Cw.gu ls):=by
 have hc:=canon hL (Le ho);have hg:∀(i:Nat) (h:i<(wordsOf Cw.gu ls).length),(wordsOf Cw.gu ls)[i]=(wordsOf Cw.gu ls).getD i []:=λi h=>by
  rw[JY,JI h];rfl
 refine⟨λw hw e=>?_,λi j hi hj hne hp=>?_⟩
 ·obtain⟨i,hi,rfl⟩:=List.mem_iff_getElem.mp hw;have hi':i<ls.length:=by rw[<- hc.len];exact hi
  have h1:=hc.GK i hi';rw[<- hg i hi,e,KL] at h1;unfold b7 at h1;rw[JY,JI hi'] at h1;have h2:=hL.2.2 _ (Kf hi');have h1':0=(ls[i]).toNat:=h1;lia
 ·have hi':i<ls.length:=by rw[<- hc.len];exact hi
  have hj':j<ls.length:=by rw[<- hc.len];exact hj
  rw[hg i hi,hg j hj] at hp;have:(ls.getD i 0<ls.getD j 0\/(ls.getD i 0=ls.getD j 0/\i<j))\/(ls.getD j 0<ls.getD i 0\/(ls.getD j 0=ls.getD i 0/\j<i)):=by lia
  rcases this with h|h
  ·exact (hc.part i j hi' hj' h).not.1 hp
  ·exact (hc.part j i hj' hi' h).not.2 hp
theorem AI{bk:List (List Int)}(h:Bk bk):∀ws∈fZ bk,Pf ws:=λws hw=>by
 obtain⟨l,hl,rfl⟩:=K2.mp hw;obtain⟨a,b,c,e,_,_,_,h4⟩:=h;exact wW (h4 l hl).1 (h4 l hl).2
theorem qH{bk:List (List Int)}(h:Bk bk):J6 (fZ bk):=by
 refine⟨⟨h.cd,AI h⟩,λws hw w hw2=>?_⟩;obtain⟨l,hl,rfl⟩:=K2.mp hw;obtain⟨a,b,c,e,_,_,_,h4⟩:=h;have hc:=canon (h4 l hl).1 (Le (h4 l hl).2);obtain⟨i,hi,rfl⟩:=List.mem_iff_getElem.mp hw2;have hi':i<l.length:=by rw[<- hc.len];exact hi
 have h1:=hc.GK i hi';rw[JY,JI hi] at h1;unfold b7 at h1;rw[JY,JI hi'] at h1;have h2:=(h4 l hl).1.2.2 _ (Kf hi');have h3:((wordsOf Cw.gu l)[i]).length=(l[i]).toNat:=h1;lia
noncomputable def Bl.v:Bl->V
 |.s z=>.str z
 |.n k=>.int (k:Nat)
noncomputable def Row.vs(r:Row):List V:=r.ps.map Bl.v
noncomputable def Pk.v:Pk->V
 |.box b=>.str (bY b)
 |.num n=>.int (n:Nat)
 |.goal g=>.int (g:Nat)
theorem Row.Hg(r:Row):r.vs=.str r.wd::r.gq.map Pk.v:=by cases r<;>rfl
noncomputable def PV.v(behind:Nat):PV->V
 |.box b=>.str (bY b)
 |.num n=>.int (n:Int)
 |.go d=>.int ((behind:Int)+d)
noncomputable def PV.l:PV->V
 |.box b=>.str (bY b)
 |.num n=>.int (n:Int)
 |.go d=>.int d
noncomputable def RW.v(r:RW):List V:=.str (cX.getD r.wi (Str.ofString ""))::r.vs.map λx=>x.1.v x.2
noncomputable def RW.l(r:RW):List V:=.str (cX.getD r.wi (Str.ofString ""))::r.vs.map λx=>x.1.l
noncomputable def C9.v:C9->V
 |.s z=>.str z
 |.n k=>.int k
noncomputable def dF.vs(r:dF):List V:=r.ps.map C9.v
theorem IJ{cd:List (List (List Nat))}{x:RW×Nat}(hR:sX cd)(h:A1 cd z p=some x):(rk x).Ok/\x.1.v=(rk x).vs/\x.1.l=((rk x).rel x.2).vs/\p<x.2/\x.2<=z.length:=by
 obtain⟨c0,c1,c2,rfl,l0,l1,l2⟩:=hR.fX.ex;obtain⟨v,hv,h⟩:=LX.mp h;obtain⟨y,hy,rfl⟩:=Km.mp h;obtain⟨w1,_,w3,w4⟩:=eY (hR.pf c0 (by simp)).ne hv
 obtain⟨i1,i2⟩:=E6 hR hy;obtain⟨wi,e⟩:=v;dsimp only at *;refine and_assoc.mp (and_assoc.mp ⟨?_,by show p<y.2;lia,i2 w4⟩)
 have far:∀(e:Nat) (d:Int),(e:Int)+d-(e:Int)=d:=λe d=>by lia
 have:wi=0\/wi=1\/wi=2\/wi=3\/wi=4\/wi=5\/wi=6\/wi=7\/wi=8:=by lia
 rcases this with rfl|rfl|rfl|rfl|rfl|rfl|rfl|rfl|rfl
 ·obtain⟨x,x',hx,hx',rfl⟩:=He hy;obtain⟨b,e,rfl,hb⟩:=fj hR hx;obtain⟨n,e',rfl⟩:=E4 hx';exact⟨⟨hb,rfl⟩,rfl⟩
 ·obtain⟨x,x',hx,hx',rfl⟩:=He hy;obtain⟨b,e,rfl,hb⟩:=fj hR hx;obtain⟨n,e',rfl,hb'⟩:=fj hR hx';exact⟨⟨⟨hb,hb'⟩,rfl⟩,rfl⟩
 ·obtain⟨x,x',hx,hx',rfl⟩:=He hy;obtain⟨b,e,rfl,hb⟩:=fj hR hx;obtain⟨n,e',rfl,hb'⟩:=fj hR hx';exact⟨⟨⟨hb,hb'⟩,rfl⟩,rfl⟩
 ·obtain⟨x,x',hx,hx',rfl⟩:=He hy;obtain⟨b,e,rfl,hb⟩:=fj hR hx;obtain⟨n,e',rfl,hb'⟩:=fj hR hx';exact⟨⟨⟨hb,hb'⟩,rfl⟩,rfl⟩
 ·obtain⟨x,hx,rfl⟩:=IB hy;obtain⟨b,e,rfl,hb⟩:=fj hR hx;exact⟨⟨hb,rfl⟩,rfl⟩
 ·obtain⟨x,hx,rfl⟩:=IB hy;obtain⟨b,e,rfl,hb⟩:=fj hR hx;exact⟨⟨hb,rfl⟩,rfl⟩
 ·obtain⟨x,hx,rfl⟩:=IB hy;obtain⟨d,e,rfl⟩:=Dt hx;refine⟨⟨trivial,rfl⟩,?_⟩;show [_,V.int d]=[_,.int ((e:Int)+d-(e:Int))];rw[far];rfl
 ·obtain⟨x,x',hx,hx',rfl⟩:=He hy;obtain⟨b,e,rfl,hb⟩:=fj hR hx;obtain⟨d,e',rfl⟩:=Dt hx';refine⟨⟨hb,rfl⟩,?_⟩;show [_,_,V.int d]=[_,_,.int ((e':Int)+d-(e':Int))];rw[far];rfl
 ·cases hy;exact⟨⟨trivial,rfl⟩,rfl⟩
noncomputable def Dh(K:W.Frag):Sp:=λvs H Q _=>∃(a:Addr) (ls:List Int),vs=[.ref a]/\(H a=some (.tup (iV ls))\/H a=some (.lst (iV ls)))/\lZ ls/\∀H',KB [] H H'->Q (.bl (qd ls)) H'
theorem sv(h:H a=some (.tup xs)\/H a=some (.lst xs)):∃b,sq H a=some (b,xs):=h.elim (λh=>⟨_,aM h⟩) λh=>⟨_,aO h⟩
theorem Au(ha:H a=some (.tup (iV ls))\/H a=some (.lst (iV ls)))(hn:ls.length<64)(q:∀ns':List Int,ns'.Perm ls->ns'.Pairwise (·<=·)->∀l,H l=none->Q (.ref l) (upd H l (.lst (ns'.map V.int)))):Y.xt K [.ref a] H Q:=ha.elim (λh=>.inl ⟨a,ls,rfl,bB.of h,hn,q⟩) λh=>.inr ⟨a,ls,rfl,cf.of h,hn,q⟩
theorem EM(T:Txt K mg)(F:HasFn K mg "can_be" jW ["lengths"]):ax P w K mg base aT 1 "can_be" ["lengths"] (Dh K):=by
 refine F.fR cG (λvs H Q E h=>?_) (λf cdv A outer s H vs Q E hr h=>?_)
 ·obtain⟨a,ls,rfl,_⟩:=h;rfl
 ·have hu:=aR hr;obtain⟨a,ls,rfl,ha,hL,q⟩:=h;refine⟨_,(Z.aq (Z.se (i:=1) cG.nd Z.int)
   (Z.aq (Z.se (i:=2) cG.nd Z.int)
   (Z.aq (Z.se (i:=3) cG.nd (Z.cb (Z.cY K rfl) rfl T.cN (by decide +kernel) (Z.cons (Z.v 0) Z.nil)))
   (Z.aq (Z.iW K1 rfl (Z.any K rfl (Z.cb (Y.qW K rfl) rfl T.pV (by decide +kernel) (Z.cons (Z.v 0) Z.nil))) (Z.bu (i:=4) cG.nd rfl (by right)) (Z.aq (Z.dJ (Z.aZ b8 (Z.v 1) Z.int) (Z.aA (Z.ret Z.bl)) Z.bN)
   (Z.aq (Z.nr K1 (Z.tw (Z.p8 (Z.aZ fA (Z.v 2) (Z.v 4)) (Z.j0 (Z.aZ fA (Z.v 1) (Z.v 3))))) (Z.aq (Z.se (i:=1) cG.nd (Z.op de (Z.v 1) Z.int))
   (Z.aA (Z.se (i:=2) cG.nd (Z.op (Z.bp K rfl) (Z.v 2) Z.int)))))
   (Z.aq (Z.dJ (Z.aZ sZ (Z.v 1) (Z.v 3)) (Z.aA (Z.ret Z.bl)) Z.bN)
   (Z.aq (Z.se (i:=1) cG.nd (Z.op dI (Z.v 1) Z.int))
   (Z.aA (Z.se (i:=3) cG.nd (Z.op dI (Z.v 3) Z.int))))))))
   (Z.aA (Z.ret Z.bl)))))),?_⟩
  refine ay λN hN=>?_;walk_at "rz";rw[hN];clear hN N;refine ay λN hN=>?_;walk_at "rz";rw[hN];clear hN N;obtain⟨kd,hsq⟩:=sv ha;refine ay λN hN=>?_;exists hsq;rw[hN];clear hN N;refine ay λN hN=>?_;walk_at "rz";refine Au ha (by have:=hL.2.1;lia) λrs hp hs l hl=>?_
  have k1:KB [] H (upd H l (.lst (rs.map V.int))):=KB.new hl;have s1:upd H l (.lst (rs.map V.int)) l=some (.lst (iV rs)):=ae;generalize upd H l (.lst (rs.map V.int))=H1 at *;simp only[aO s1];refine mV (xs:=iV rs) (λi σ H'=>∃(f d n:Int) (s4:Option V),H1=H'/\(∀x∈rs.drop i,1<=x/\x<=40/\d<=x)/\0<=f/\0<=d/\n=(rs.drop i).length/\(qd ls=true ↔ Kr.fit ((rs.drop i).map Int.toNat) f.toNat d.toNat 40)/\σ=[some (.ref a),some (.int f),some (.int d),some (.int n),s4]) ⟨1,0,_,none,rfl,λx hx=>by have:=hL.2.2 x (hp.mem_iff.mp hx);lia,by decide,by decide,by rw[Ld,hp.length_eq,cR],?_,rfl⟩ ?_ ?_ ?_
  ·unfold qd KS Kr.fit;rw[Mi,Ld,Kr.i9 (hp.map Int.toNat),show (1:Int).toNat*2^(40-(0:Int).toNat)=2^40 from rfl]
  ·rintro i σ H' _ ⟨f,d,n,s4,rfl,_⟩;exact cf.of s1
  ·rintro i x σ H' hx ⟨f,d,n,s4,rfl,hb,f0,d0,hn,hi,rfl⟩;obtain⟨hir,rfl⟩:=rV hx;have ed:=Lg hir;have hs2:(rs.drop i).Pairwise (·<=·):=List.Pairwise.drop hs;rw[ed] at hb hn hi hs2;generalize rs[i]=l at *;generalize rs.drop (i+1)=r at *;obtain⟨hl1,hl2,hl3⟩:=hb l (by simp)
   have hle:∀x∈r,l<=x:=(Kz.mp hs2).1;unfold bT;refine ay λM hM=>?_;by_cases hf:f=0
   ·exists JQ hf;have:qd ls=false:=by
     cases c:qd ls with
     |false=>rfl
     |true=>have:=hi.mp c;rw[hf] at this;exact absurd this Kr.Av
    rw[this] at q;exact q _ k1
   ·exists JN hf;rw[hM];clear hM M;refine ay λM hM=>?_;refine⟨λm σ H'=>H1=H'/\∃f d:Int,0<f/\0<=d/\d<=l/\m=(l-d).toNat/\(qd ls=true ↔ Kr.fit ((l::r).map Int.toNat) f.toNat d.toNat 40)/\σ=[some (.ref a),some (.int f),some (.int d),some (.int n),some (.int l)],⟨_,rfl,f,d,by lia,d0,hl3,rfl,hi,rfl⟩,?_⟩
    rintro m σ H' ⟨rfl,f,d,f0,d0,dl,rfl,hi,rfl⟩;have after:(d=l\/n<=f)->M [some (.ref a),some (.int f),some (.int d),some (.int n),some (.int l)] H1:=λhc=>by
     rw[hM];clear hM M;refine ay λM hM=>?_;by_cases h3:n<=f
     ·exists JQ h3;have:qd ls=true:=hi.mpr (Kr.rq (λx hx=>by
       obtain⟨y,hy,rfl⟩:=K2.mp hx;rcases JR.mp hy with rfl|hy
       ·lia
       ·have:=hle y hy;lia) (by rw[JK];lia))
      rw[this] at q;exact q _ k1
     ·exists JN h3;rw[hM];clear hM M;refine ay λM hM=>?_;walk_at "rz";rw[hM];clear hM M;refine vc λM hM=>?_;walk_at "rz";rw[hM];have hd:d=l:=hc.resolve_right h3;subst hd;refine⟨f-1,d,n-1,some _,rfl,λx hx'=>⟨(hb x (by simp[hx'])).1,(hb x (by simp[hx'])).2.1,hle x hx'⟩,by lia,d0,by rw[hn,J_];lia,?_,rfl⟩
      rw[hi,Ku,Kr.x9 (by lia),show (f-1).toNat=f.toNat-1 by lia]
    by_cases c1:d<l
    ·by_cases c2:f<n
     ·exists JQ c1,JQ c2;refine⟨λσ' H'=>∃m',m'<(l-d).toNat/\(H1=H'/\∃f d:Int,0<f/\0<=d/\d<=l/\m'=(l-d).toNat/\(qd ls=true ↔ Kr.fit ((l::r).map Int.toNat) f.toNat d.toNat 40)/\σ'=[some (.ref a),some (.int f),some (.int d),some (.int n),some (.int l)]),λ_ _ h=>h,?_⟩;refine⟨.inr (by decide),?_⟩
      refine⟨_,?_,rfl,f*2,d+1,by lia,by lia,by lia,rfl,?_,rfl⟩
      ·lia
      ·rw[hi,Kr.sI (l:=l.toNat) (by lia) (by lia),show (f*2).toNat=f.toNat*2 by lia,show (d+1).toNat=d.toNat+1 by lia]
     ·exists JQ c1,JN c2;exact after (.inr (by lia))
    ·exists JN c1;exact after (.inl (by lia))
  ·rintro σ H' ⟨f,d,n,s4,rfl,_,_,_,_,hi,rfl⟩;rw[cR,M7] at hi;show N _ _;rw[hN];clear hN N;walk_at "rz";have:qd ls=true:=hi.mpr (Kh _);rw[this] at q;exact q _ k1
noncomputable def Jl:Option (List Nat)->V
 |none=>.aU
 |some w=>.str (wd w)
theorem rT(ws:List (List Nat)):(wV ws).length=ws.length:=JK ..
noncomputable def yl(K:W.Frag):Sp:=λvs H Q _=>∃(a:Addr) (ls:List Int),vs=[.ref a]/\H a=some (.tup (iV ls))/\lZ ls/\qd ls=true/\∀b H',KB [] H H'->H' b=some (.tup (wV (wordsOf Cw.gu ls)))->Q (.ref b) H'
theorem Cg(T:Txt K mg)(F:HasFn K mg "code_of" d8 ["lengths"])(hcan_be:ax P w K mg base aT 1 "can_be" ["lengths"] (Dh K))(hword_behind:ax P w K mg base aT 1 "word_behind" ["ahead","length"] G0):ax P w K mg base aT 4 "code_of" ["lengths"] (yl K):=by
 obtain⟨c,Pt,htab,hcc⟩:=T.pF.ex;refine F.IP eL (λvs H Q E h=>?_) (λf cdv A outer s H vs Q E hr hm fX h=>?_)
 ·obtain⟨a,ls,rfl,_⟩:=h;rfl
 ·have:=hcc _ _ ⟨hm,fX⟩;subst this;have hu:=aR hr;obtain⟨a,ls,rfl,ha,hL,ho,q⟩:=h;refine⟨_,(Z.aq (Z.dJ (Z.Bh (Z.wg K rfl (Z.fc hcan_be (Z.cons (Z.v 0) Z.nil)))) (Z.aA Z.Hi) Z.bN)
   (Z.aq (Z.sec (j:=1) eL.nd (osc:=af d8) (ON:=["lengths","words","ahead","thing"]) (own:=["length"]) (N:=["length","lengths","words","ahead","thing"]) (aQ.of rfl (by decide +kernel)) (Z.any K rfl (Z.v 0)) (λnd _ _ _ _=>(Z.bu (i:=0) nd rfl (by right))) (λ_ _ _ _=>Z.vy) (λ_ _ _ _=>Z.str))
   (Z.aq (Z.se (i:=2) eL.nd Z.aU)
   (Z.aq (Z.iW K1 rfl (Z.any K rfl (Z.Ho (k:=0) (j:=0) K rfl (by decide) htab rfl rfl rfl rfl rfl T.pV (Z.cons (Z.ct Y.pW rfl T.gP (by decide +kernel) (Z.cons (Z.cb (Z.cY K rfl) rfl T.cN (by decide +kernel) (Z.cons (Z.v 0) Z.nil)) Z.nil)) Z.nil) (hr.mono (by decide)) rfl (by decide) rfl rfl rfl rfl rfl rfl rfl (λ_ _ _ _=>rfl))) (Z.bu (i:=3) eL.nd rfl (by right)) (Z.aq (Z.asg (Z.fc hword_behind (Z.cons (Z.v 2) (Z.cons (Z.ix (Z.aP K rfl hu) (Z.v 0) (Z.v 3)) Z.nil))) (Z.rR (Z.v 1) (Z.v 3)))
   (Z.aA (Z.se (i:=2) eL.nd (Z.ix (Z.aP K rfl hu) (Z.v 1) (Z.v 3))))))
   (Z.aA (Z.ret (Z.ct (Z.cQ K rfl) rfl T.cO (by decide +kernel) (Z.cons (Z.v 1) Z.nil)))))))),?_⟩
  refine ay λN hN=>?_;walk_at "rz";refine⟨a,ls,rfl,.inl ha,hL,λH1 k1=>?_⟩;exists ho,OP;rw[JN (λz=>Bool.noConfusion z),hN];clear hN N;have ha1:=k1 _ _ ha (by simp)
  refine ay λN hN=>?_;exists aM ha1;refine cE (xs:=iV ls) (JX (show _<=20 by rw[cR];exact hL.2.1) (by decide)) (λD i ys H'=>H' D=some (.lst ys)/\ys=wV (List.replicate i [])/\KB [] H1 H'/\H1 D=none) (λD hD=>⟨ae,rfl,KB.new hD,hD⟩) (λD i ys H' h=>⟨h.1,by rw[h.2.1,rT,Kb]⟩) (λD i ys H' h=>bB.of (h.2.2.1 _ _ ha1 (by simp))) ?_ ?_
  ·rintro D i ys H' x R hx ⟨g1,rfl,g3,g4⟩ kk;walk_at "rz";refine kk _ _ g1 ⟨ae,?_,λb o e _=>?_,g4⟩
   ·rw[List.replicate_succ',wV,wV,Kg];rfl
   ·rw[ao (au e g4)];exact g3 b o e (by simp)
  rintro D ys H2 ⟨g1,rfl,g3,g4⟩;rw[cR] at g1;show N _ _;rw[hN];clear hN N;refine ay λN hN=>?_;walk_at "rz";rw[hN];clear hN N;have h02:=k1.trans g3;have D0:H D=none:=k1.free (by simp) g4
  have ha2:=h02 _ _ ha (by simp)
  refine ay λN hN=>?_;exists aM ha2;refine .inl ⟨_,rfl,λr hr0=>?_⟩;have k3:KB [] H2 (upd H2 r (.my 0 ((iV ls).length:Nat))):=KB.new hr0;have s3:upd H2 r (.my 0 ((iV ls).length:Nat)) r=some (.my 0 (ls.length:Nat)):=by rw[ae,cR]
  generalize upd H2 r (.my 0 ((iV ls).length:Nat))=H3 at *;have le:(kj ls.length).length=ls.length:=by rw[JK,Lo]
  have ha3:=k3 _ _ ha2 (by simp)
  refine⟨r,kj ls.length,ls,rfl,⟨ls.length,s3,rfl⟩,le.symm,by rw[le];have:=hL.2.1;lia,λi v k e1 e2 H' g=>?_,λH4 l g hl=>?_⟩
  ·have hi:i<ls.length:=(JO.mp e2).1;have e3:(kj ls.length)[i]?=some (.int (i:Int)):=by simp[hi]
   rw[e3] at e1;cases e1;exact⟨_,a,iV ls,rfl,rfl,bB.of (g.same _ _ ha3),b9 (by unfold iV;rw[JW,e2];rfl)⟩
  have eo:jO ls (kj ls.length)=(bC ls).map λk=>V.int ((k:Nat):Int):=Ce ..;rw[eo];have k4:KB [] H3 (upd H4 l (.lst ((bC ls).map λk=>V.int ((k:Nat):Int)))):=λb o e _=>by rw[ao (au (g.same _ _ e) hl)];exact g.same _ _ e
  have s4:upd H4 l (.lst ((bC ls).map λk=>V.int ((k:Nat):Int))) l=_:=ae;have gD4:=k4 _ _ (k3 _ _ g1 (by simp)) (by simp)
  have lD:l≠D:=λz=>by
   have:=g.same _ _ (k3 _ _ g1 (by simp))
   rw[<- z,hl] at this;cases this
  generalize upd H4 l (.lst ((bC ls).map λk=>V.int ((k:Nat):Int)))=H5 at *;have h05:KB [] H H5:=h02.trans (k3.trans k4);have a5:a≠D:=λz=>by rw[z,D0] at ha;cases ha
  clear k3 k4 g hl hr0 s3 ha3 le eo g1 h02 ha2 g3 g4 ha1 k1;refine mV (xs:=(bC ls).map λk=>V.int ((k:Nat):Int)) (λi σ H'=>∃o:Option V,i<=(bC ls).length/\(∀v,(fN ls ((bC ls).take i)).1=some v->v.length<=40)/\H' D=some (.lst (wV (fN ls ((bC ls).take i)).2))/\H' l=some (.lst ((bC ls).map λk=>V.int ((k:Nat):Int)))/\KB [] H H'/\σ=[some (.ref a),some (.ref D),some (Jl (fN ls ((bC ls).take i)).1),o]) ⟨none,Kh _,(λv z=>by cases z),gD4,s4,h05,rfl⟩ (λi σ H' _ h=>by obtain⟨o,_,_,_,h,_⟩:=h;exact cf.of h) ?_ ?_
  ·rintro i x σ H' hx ⟨o,hi,hw,gD,gl,h0,rfl⟩;have hio:i<(bC ls).length:=by have:=(JO.mp hx).1;rw[JK] at this;exact this
   obtain rfl:x=.int (((bC ls)[i]:Nat):Int):=by
    rw[JW,JI hio] at hx;exact (Option.some.inj hx).symm
   have hth:(bC ls)[i]<ls.length:=jJ (Kf hio);have eT:(bC ls).take (i+1)=(bC ls).take i++[(bC ls)[i]]:=by rw[Lz,JI hio];rfl
   rw[eT];generalize (bC ls)[i]=th at *;generalize (bC ls).take i=done at *;have ex:cI (iV ls) (th:Int)=some (.int ls[th]):=DE hth;have hlt:=hL.2.2 _ (Kf hth);have en:ls[th]=((b7 ls th:Nat):Int):=by
    unfold b7;rw[JY,JI hth];simp;lia
   have hn20:b7 ls th<=40:=by lia
   have eD:fN ls (done++[th])=Cw.along Cw.gu (b7 ls) [th] (fN ls done):=Cw.i7 _ _ _;have hwl:(fN ls done).2.length=ls.length:=Fs ls done;have gt:=aM (h0 _ _ ha (by simp))
   obtain⟨n,hn⟩:∃n,b7 ls th=n:=⟨_,rfl⟩;rw[hn] at en hn20;have fin:∀y:List Nat,y.length<=40->fN ls (done++[th])=(some y,(fN ls done).2.set th y)->∀M,M=(λσ H'=>∃o:Option V,i+1<=(bC ls).length/\(∀v,(fN ls (done++[th])).1=some v->v.length<=40)/\H' D=some (.lst (wV (fN ls (done++[th])).2))/\H' l=some (.lst ((bC ls).map λk=>V.int ((k:Nat):Int)))/\KB [] H H'/\σ=[some (.ref a),some (.ref D),some (Jl (fN ls (done++[th])).1),o])->M [some (.ref a),some (.ref D),some (.str (wd y)),some (.int (th:Nat))] (upd H' D (.lst ((wV (fN ls done).2).set th (.str (wd y))))):=λy hy e M hM=>by
    rw[hM,e];refine⟨some _,hio,λv z=>by cases z;exact hy,?_,by rw[ao lD];exact gl,λb u e _=>by rw[ao (au e D0)];exact h0 _ _ e (by simp),rfl⟩
    rw[ae];unfold wV;rw[MN]
   have xk:lV (wV (fN ls done).2).length (th:Int)=some th:=by rw[rP (by lia) (by rw[rT,hwl];lia),Ky]
   have setI:∀y:List Nat,cI ((wV (fN ls done).2).set th (.str (wd y))) (th:Int)=some (.str (wd y)):=λy=>b9 (Me (by rw[rT,hwl];exact hth))
   unfold bT;refine ay λM hM=>?_;exists gt,ex
   cases hs:(fN ls done).1 with
   |none =>
    refine⟨n,hn20,.inl ⟨by rw[en];rfl,?_⟩⟩
    exists gD,xk;rw[hM];clear hM M;dsimp only;refine vc λM hM=>?_;exists setI;refine fin _ (by rw[List.length_replicate];exact hn20) ?_ M hM
    rw[eD];generalize fN ls done=st at *;obtain⟨x,ws⟩:=st;obtain rfl:x=none:=hs;subst hn;rfl
   |some v =>
    refine⟨n,hn20,.inr ⟨v,by rw[en];rfl,hw v hs,?_⟩⟩
    exists gD,xk;rw[hM];clear hM M;dsimp only;refine vc λM hM=>?_;exists setI;refine fin _ (tW (hw v hs) hn20) ?_ M hM;rw[eD];generalize fN ls done=st at *;obtain⟨x,ws⟩:=st;obtain rfl:x=some v:=hs;subst hn;rfl
  ·rintro σ H' ⟨o,_,_,gD,_,h0,rfl⟩;rw[JK,KH] at gD;show N _ _;rw[hN];clear hN N;exists aO gD;exactλb hb=>q b _ (h0.trans (KB.new hb)) ae
noncomputable def aF:Row->Option Nat
 |.jump g=>some g
 |.zero _ g=>some g
 |_=>none
theorem pre_split{a b:List Nat}(h:a++b <+: z.drop p):a <+: z.drop p/\b <+: z.drop (p+a.length):=by
 obtain⟨y,e⟩:=h;refine⟨⟨b++y,by rw[<- e,Kj]⟩,y,?_⟩
 rw[<- List.drop_drop,<- e,Kj,N4]
theorem s_{ws:List (List Nat)}(h:Pf ws)(ht:t<ws.length)(hp:ws.getD t [] <+: z.drop p):jC ws z p=some (t,p+(ws.getD t []).length):=by
 unfold jC;rw[h.th ht hp];rfl
theorem E7:Pf uC:=⟨nW,λi j hi hj hne=>by
 rcases mq hi with rfl|rfl|rfl<;>rcases mq hj with rfl|rfl|rfl<;>first|exact absurd rfl hne|decide +revert⟩
theorem kH{cd:List (List (List Nat))}{b:Nat}(hR:sX cd)(hb:b<8)(hp:aY cd (2,b) <+: z.drop p):mf cd z p .box=some (.box b,p+(aY cd (2,b)).length):=by
 obtain⟨c0,c1,c2,rfl,l0,l1,l2⟩:=hR.fX.ex;show (jC c2 z p).map _=_;rw[s_ (hR.pf c2 (by simp)) (by lia) hp];rfl
theorem F_{cd:List (List (List Nat))}{n:Nat}(hR:sX cd)(hn:n<65536)(hp:aY cd (1,bM n)++(fe n).tail <+: z.drop p):mf cd z p .num=some (.num n,p+(aY cd (1,bM n)++(fe n).tail).length):=by
 obtain⟨c0,c1,c2,rfl,l0,l1,l2⟩:=hR.fX.ex;have hb:=jQ hn;obtain⟨h1,y,e⟩:=pre_split hp;have hl:=hp.length_le;rw[JL,Kq] at hl;have htl:(fe n).tail.length=bM n-1:=by rw[List.length_tail,sN]
 have hc:=s_ (hR.pf c1 (by simp)) (by lia) h1
 have h0:=(eY (hR.pf c1 (by simp)).ne hc).2.2.1
 replace hc:jC c1 z p=some (bM n,p+(aY [c0,c1,c2] (1,bM n)).length):=hc
 show (Aq c1 z p).map _=_;unfold Aq;rw[hc];dsimp only
 replace h0:p<p+(aY [c0,c1,c2] (1,bM n)).length:=h0
 generalize aY [c0,c1,c2] (1,bM n)=w at *;by_cases c:bM n=0
 ·rw[JQ c];have e0:=wB c;subst e0;rw[JL,htl,c];rfl
 ·rw[JN c,JQ (by lia),<- e,<- htl,MP]
  have hn0:0<n:=by
   rcases MM n with e|e
   ·subst e;exact absurd (by decide +kernel) c
   ·exact e
  rw[Cs hn0,JL,MZ];rfl
theorem lg{w:Nat}(d:Int):(dD w d).length=(d5 w).length+bH w:=by
 unfold dD;rw[JL,dQ];rfl
theorem DD{cd:List (List (List Nat))}(hk:k<3)(h1:-cJ k<=d)(h2:d<cJ k)(hp:dD k d <+: z.drop p):mf cd z p .go=some (.go d,p+(dD k d).length):=by
 obtain⟨hh,y,e⟩:=pre_split hp;have hl:=hp.length_le;rw[lg,Kq] at hl;have hc:=s_ (t:=k) E7 hk (by rw[w_ hk];exact hh)
 rw[w_ hk] at hc;have h16:0<bH k:=by rcases mq hk with rfl|rfl|rfl<;>decide
 have h2h:(2:Int)^bH k=2*cJ k:=by rcases mq hk with rfl|rfl|rfl<;>decide
 have hl2:(bX d (bH k) []).length=bH k:=by rw[dQ];rfl
 show (gA z p).map _=_;unfold gA;rw[hc];dsimp only;rw[if_pos (by lia),<- e,lg]
 have et:(bX d (bH k) []++y).take (bH k)=bX d (bH k) []:=by
  conv=>lhs;arg 1;rw[<- hl2]
  rw[MP]
 rw[et,uz,MZ];have hv:=jk (bH k) d;rw[h2h] at hv;have:CF k (Cw.val (bX d (bH k) []))=d:=by
  unfold CF;rw[hv];by_cases c:0<=d
  ·rw[Mj c (by lia),JN (by lia)]
  ·have:d % (2*cJ k)=d+2*cJ k:=by
    rw[<- Int.add_emod_right];exact Mj (by lia) (by lia)
   rw[this,JQ (by lia)];lia
 rw[this];rfl
noncomputable def dN(cd:List (List (List Nat)))(r:Row)(w:Nat)(d:Int):List Nat:=bL cd r++(match aF r with|none=>[]|some _=>dD w d)
noncomputable def Row.m(g:Int):Row->dF
 |.put b n=>.put b n
 |.two u a b=>.two u a b
 |.one u b=>.one u b
 |.jump _=>.jump g
 |.zero b _=>.zero b g
 |.halt=>.halt
theorem DR{cd:List (List (List Nat))}{n:Nat}{r:Row}(hR:sX cd)(hr:r.Ok n)(hd:∀t,aF r=some t->k<3/\-cJ k<=d/\d<cJ k)(hp:dN cd r k d <+: z.drop p):∃x,A1 cd z p=some x/\x.2=p+(dN cd r k d).length/\rk x=r.m ((x.2:Int)+d):=by
 have hw:∀{i:Nat} {y:List Nat},i<9->aY cd (0,i)++y <+: z.drop p->jC (cd.getD 0 []) z p=some (i,p+(aY cd (0,i)).length)/\y <+: z.drop (p+(aY cd (0,i)).length):=λ{i y} hi h=>by
  obtain⟨h1,h2⟩:=pre_split h;obtain⟨c0,c1,c2,rfl,l0,l1,l2⟩:=hR.fX.ex;exact⟨s_ (hR.pf c0 (by simp)) (by rw[show [c0,c1,c2].getD 0 []=c0 from rfl];lia) h1,h2⟩
 have fin:∀(i:Nat) (y:List Nat) (v:List (PV×Nat)) (e:Nat),i<9->dN cd r k d=aY cd (0,i)++y->(y <+: z.drop (p+(aY cd (0,i)).length)->qL cd z (BO i) (p+(aY cd (0,i)).length)=some (v,e))->e=p+(dN cd r k d).length->rk (⟨i,v⟩,e)=r.m ((e:Int)+d)->∃x,A1 cd z p=some x/\x.2=p+(dN cd r k d).length/\rk x=r.m ((x.2:Int)+d):=λi y v e hi e1 e2 e3 e4=>by
  rw[e1] at hp;obtain⟨h1,h2⟩:=hw hi hp;refine⟨(⟨i,v⟩,e),?_,e3,e4⟩;unfold A1;rw[h1,M8,e2 h2];rfl
 cases r with
 |put b n' =>
  have e0:dN cd (.put b n') k d=aY cd (0,0)++(aY cd (2,b)++(aY cd (1,bM n')++(fe n').tail)):=by
   simp[dN,bL,dh,Row.gq,Pk.qJ,Row.wi,gE,aF]
  refine fin 0 _ [(.box b,p+(aY cd (0,0)).length+(aY cd (2,b)).length),(.num n',p+(aY cd (0,0)).length+(aY cd (2,b)).length+(aY cd (1,bM n')++(fe n').tail).length)] (p+(aY cd (0,0)).length+(aY cd (2,b)).length+(aY cd (1,bM n')++(fe n').tail).length) (by decide) e0 (λhy=>?_) ?_ rfl
  ·obtain⟨y1,y2⟩:=pre_split hy;show (mf cd z _ .box).bind _=_;rw[kH hR hr.1 y1,M8];show ((mf cd z _ .num).bind _).map _=_;rw[F_ hR hr.2 y2];rfl
  ·rw[e0];simp only[JL];lia
 |two u a b =>
  have hu:(1+(u:Nat))<9:=(by decide:∀u:_root_.Fin 3,1+(u:Nat)<9) u
  have e0:dN cd (.two u a b) k d=aY cd (0,1+(u:Nat))++(aY cd (2,a)++aY cd (2,b)):=by
   simp[dN,bL,dh,Row.gq,Pk.qJ,Row.wi,gE,aF]
  have ek:BO (1+(u:Nat))=[.box,.box]:=by rcases zr u with rfl|rfl|rfl<;>rfl
  refine fin (1+(u:Nat)) _ [(.box a,p+(aY cd (0,1+(u:Nat))).length+(aY cd (2,a)).length),(.box b,p+(aY cd (0,1+(u:Nat))).length+(aY cd (2,a)).length+(aY cd (2,b)).length)] (p+(aY cd (0,1+(u:Nat))).length+(aY cd (2,a)).length+(aY cd (2,b)).length) hu e0 (λhy=>?_) ?_ ?_
  ·obtain⟨y1,y2⟩:=pre_split hy;rw[ek];show (mf cd z _ .box).bind _=_;rw[kH hR hr.1 y1,M8];show ((mf cd z _ .box).bind _).map _=_;rw[kH hR hr.2 y2];rfl
  ·rw[e0];simp only[JL];lia
  ·rcases zr u with rfl|rfl|rfl<;>rfl
 |one u b =>
  have hu:(4+(u:Nat))<9:=(by decide:∀u:_root_.Fin 2,4+(u:Nat)<9) u
  have e0:dN cd (.one u b) k d=aY cd (0,4+(u:Nat))++aY cd (2,b):=by
   simp[dN,bL,dh,Row.gq,Pk.qJ,Row.wi,gE,aF]
  have ek:BO (4+(u:Nat))=[.box]:=by rcases iQ u with rfl|rfl<;>rfl
  refine fin (4+(u:Nat)) _ [(.box b,p+(aY cd (0,4+(u:Nat))).length+(aY cd (2,b)).length)] (p+(aY cd (0,4+(u:Nat))).length+(aY cd (2,b)).length) hu e0 (λhy=>?_) ?_ ?_
  ·rw[ek];show (mf cd z _ .box).bind _=_;rw[kH hR hr hy];rfl
  ·rw[e0];simp only[JL];lia
  ·rcases iQ u with rfl|rfl<;>rfl
 |jump g =>
  have e0:dN cd (.jump g) k d=aY cd (0,6)++dD k d:=by
   simp[dN,bL,dh,Row.gq,Pk.qJ,Row.wi,gE,aF]
  obtain⟨d1,d2,d3⟩:=hd g rfl;refine fin 6 _ [(.go d,p+(aY cd (0,6)).length+(dD k d).length)] (p+(aY cd (0,6)).length+(dD k d).length) (by decide) e0 (λhy=>?_) ?_ rfl
  ·show (mf cd z _ .go).bind _=_;rw[DD d1 d2 d3 hy];rfl
  ·rw[e0];simp only[JL];lia
 |zero b g =>
  have e0:dN cd (.zero b g) k d=aY cd (0,7)++(aY cd (2,b)++dD k d):=by
   simp[dN,bL,dh,Row.gq,Pk.qJ,Row.wi,gE,aF]
  obtain⟨d1,d2,d3⟩:=hd g rfl;refine fin 7 _ [(.box b,p+(aY cd (0,7)).length+(aY cd (2,b)).length),(.go d,p+(aY cd (0,7)).length+(aY cd (2,b)).length+(dD k d).length)] (p+(aY cd (0,7)).length+(aY cd (2,b)).length+(dD k d).length) (by decide) e0 (λhy=>?_) ?_ rfl
  ·obtain⟨y1,y2⟩:=pre_split hy;show (mf cd z _ .box).bind _=_;rw[kH hR hr.1 y1,M8];show ((mf cd z _ .go).bind _).map _=_;rw[DD d1 d2 d3 y2];rfl
  ·rw[e0];simp only[JL];lia
 |halt =>
  have e0:dN cd .halt k d=aY cd (0,8)++[]:=by
   simp[dN,bL,dh,Row.gq,Pk.qJ,Row.wi,gE,aF]
  refine fin 8 _ [] (p+(aY cd (0,8)).length) (by decide) e0 (λhy=>rfl) ?_ rfl
  rw[e0];simp only[JL];rfl
noncomputable def Iu:Nat->Nat
 |0=>5
 |1=>10
 |_=>18
noncomputable def addW:Option Nat->Nat->Nat
 |none,_=>0
 |some _,w=>Iu w
theorem BX(g:Option Nat)(w:Nat):addW g w<=18:=by
 unfold addW Iu;split
 ·decide
 ·split<;>decide
noncomputable def jm:Nat->List Nat->List (Option Nat)->List Nat->List Nat
 |a,s::ss,g::gs,w::ws=>a::jm (a+s+addW g w) ss gs ws
 |a,_,_,_=>[a]
theorem nK(a:Nat)(ss:List Nat)(gs:List (Option Nat))(ws:List Nat):∃l,jm a ss gs ws=a::l:=by
 unfold jm;split
 ·exact⟨_,rfl⟩
 ·exact⟨_,rfl⟩
theorem jM:∀(ss:List Nat) (gs:List (Option Nat)) (ws:List Nat) (a:Nat),gs.length=ss.length->ws.length=ss.length->(jm a ss gs ws).length=ss.length+1
 |[],_,_,_,_,_=>by unfold jm;rfl
 |s::ss,[],_,_,h,_=>by cases h
 |s::ss,_::_,[],_,_,h=>by cases h
 |s::ss,g::gs,w::ws,a,h1,h2=>by
  rw[jm,J_,jM ss gs ws _ (Nat.succ.inj h1) (Nat.succ.inj h2)];rfl
theorem zL:∀(ss:List Nat) (gs:List (Option Nat)) (ws:List Nat) (a:Nat),(∀s∈ss,s<=150)->∀v∈jm a ss gs ws,a<=v/\v<=a+168*ss.length
 |[],_,_,a,_,v,h=>by
  have:v=a:=by unfold jm at h;simpa using h
  rw[this];simp
 |s::ss,[],_,a,_,v,h=>by
  have:v=a:=by unfold jm at h;simpa using h
  rw[this];simp
 |s::ss,_::_,[],a,_,v,h=>by
  have:v=a:=by unfold jm at h;simpa using h
  rw[this];simp
 |s::ss,g::gs,w::ws,a,hs,v,h=>by
  rw[jm] at h;have h1:=hs s JU;have h2:=BX g w;rw[J_];rcases JR.mp h with rfl|h
  ·exact⟨JS _,Nat.le_add_right _ _⟩
  ·have:=zL ss gs ws _ (λx hx=>hs x (JT _ hx)) v h;lia
theorem sj:∀(ss:List Nat) (gs:List (Option Nat)) (ws:List Nat) (a k:Nat) (s:Nat) (g:Option Nat) (w:Nat),ss[k]?=some s->gs[k]?=some g->ws[k]?=some w->(jm a ss gs ws).getD (k+1) 0=(jm a ss gs ws).getD k 0+s+addW g w
 |[],_,_,_,_,_,_,_,h,_,_=>by simp at h
 |s::ss,[],_,_,_,_,_,_,_,h,_=>by simp at h
 |s::ss,_::_,[],_,_,_,_,_,_,_,h=>by simp at h
 |s::ss,g::gs,w::ws,a,0,s',g',w',h1,h2,h3=>by
  simp at h1 h2 h3;subst h1;subst h2;subst h3;rw[jm];obtain⟨l,e⟩:=nK (a+s+addW g w) ss gs ws;rw[e];rfl
 |s::ss,g::gs,w::ws,a,k+1,s',g',w',h1,h2,h3=>by
  rw[jm];have:=sj ss gs ws (a+s+addW g w) k s' g' w' (by simpa using h1) (by simpa using h2) (by simpa using h3)
  simpa using this
noncomputable def fM(sp:List Nat)(t k:Nat):Int:=(sp.getD t 0:Int)-(sp.getD (k+1) 0:Int)
noncomputable def A2(w:Nat)(d:Int):Bool:=decide (-cJ w<=d) && decide (d<cJ w)
theorem jR:∀{ws:List Nat},(∀w∈ws,w<3)->ws.sum<=2*ws.length
 |[],_=>JS _
 |w::ws,h=>by
  have h1:=h w JU;have h2:=jR λx hx=>h x (JT _ hx);rw[M_,J_];lia
theorem xO(hs:∀s∈ss,s<=150)(i:Nat):(jm 0 ss gs ws).getD i 0<=168*ss.length:=by
 rw[JY]
 cases c:(jm 0 ss gs ws)[i]? with
 |none=>exact Kh _
 |some v=>have:=zL ss gs ws 0 hs v (KW c);show v<=_;lia
noncomputable def B9(ss:List Nat)(gs:List (Option Nat))(ws:List Nat):Prop:=∀(k t w:Nat),gs[k]?=some (some t)->ws[k]?=some w->A2 w (fM (jm 0 ss gs ws) t k)=true
noncomputable def jE(cd:List (List (List Nat)))(rs:List Row):List Nat:=rs.map λr=>(bL cd r).length
noncomputable def Cv(sp:List Nat)(k w:Nat):Option Nat->List Nat
 |none=>[]
 |some t=>dD w (fM sp t k)
noncomputable def mY(cd:List (List (List Nat)))(sp:List Nat):Nat->List Row->List Nat->List Nat
 |k,r::rs,w::ws=>bL cd r++Cv sp k w (aF r)++mY cd sp (k+1) rs ws
 |_,_,_=>[]
theorem gS{r:Row}{n:Nat}(h:r.Ok n)(e:aF r=some t):t<=n:=by
 cases r with
 |jump g=>cases e;exact h
 |zero b g=>cases e;exact h.2
 |put=>cases e
 |two=>cases e
 |one=>cases e
 |halt=>cases e
theorem tX{w:Nat}(h:w<3)(d:Int):(dD w d).length=Iu w:=by
 rw[lg];rcases mq h with rfl|rfl|rfl<;>rfl
structure Laid (cd:List (List (List Nat))) (rs:List Row) (ws sp z:List Nat):Prop where
 hR:sX cd
 len:ws.length=rs.length
 le:rs.length<=64
 ok:∀r∈rs,r.Ok rs.length
 lt:∀w∈ws,w<3
 oJ:sp=jm 0 (jE cd rs) (rs.map aF) ws
 fit:B9 (jE cd rs) (rs.map aF) ws
 hz:z=mY cd sp 0 rs ws
section
variable {cd:List (List (List Nat))} {rs:List Row} {ws sp z:List Nat}
theorem Laid.sl(L:Laid cd rs ws sp z):sp.length=rs.length+1:=by
 rw[L.oJ,jM _ _ _ _ (by unfold jE;rw[JK,JK]) (by unfold jE;rw[JK];exact L.len)]
 unfold jE;rw[JK]
noncomputable def Cm(sp:List Nat)(k:Nat)(r:Row):Int:=match aF r with|none=>0|some t=>fM sp t k
theorem Laid.row(L:Laid cd rs ws sp z)(hk:k<rs.length):∃w,ws[k]?=some w/\w<3/\sp.getD (k+1) 0=sp.getD k 0+(dN cd rs[k] w (Cm sp k rs[k])).length/\mY cd sp k (rs.drop k) (ws.drop k)=dN cd rs[k] w (Cm sp k rs[k])++mY cd sp (k+1) (rs.drop (k+1)) (ws.drop (k+1))/\∀t,aF rs[k]=some t->w<3/\-cJ w<=Cm sp k rs[k]/\Cm sp k rs[k]<cJ w:=by
 have hw:k<ws.length:=by rw[L.len];exact hk
 have ew:=JI hw;have lw:=L.lt _ (Kf hw);have er:=JI hk;have okr:=L.ok _ (Kf hk);refine⟨ws[k],ew,lw,?_,?_,?_⟩
 ·have:=sj (jE cd rs) (rs.map aF) ws 0 k (bL cd rs[k]).length (aF rs[k]) ws[k] (by unfold jE;rw[JW,er];rfl) (by rw[JW,er];rfl) ew
  rw[<- L.oJ] at this;rw[this,dN,JL,MZ];congr 2
  cases e:aF rs[k] with
  |none=>rfl
  |some t=>exact (tX lw _).symm
 ·rw[Lg hk,Lg hw,mY,dN];congr 2;unfold Cv Cm
  cases e:aF rs[k] with
  |none=>rfl
  |some t=>rfl
 ·intro t et;have hf:=L.fit k t ws[k] (by rw[JW,er];exact K7 some et) ew
  rw[<- L.oJ] at hf;unfold A2 at hf;rw[KO] at hf;unfold Cm;rw[et];exact⟨lw,Le hf.1,Le hf.2⟩
theorem Laid.at(L:Laid cd rs ws sp z):∀k,k<=rs.length->z.drop (sp.getD k 0)=mY cd sp k (rs.drop k) (ws.drop k)/\sp.getD k 0<=z.length
 |0,_=>by
  have e:sp.getD 0 0=0:=by
   rw[L.oJ];obtain⟨l,e⟩:=nK 0 (jE cd rs) (rs.map aF) ws;rw[e];rfl
  rw[e,Ld];exact⟨L.hz,Kh _⟩
 |k+1,hk=>by
  obtain⟨h1,h2⟩:=L.at k (by lia)
  obtain⟨w,_,_,e1,e2,_⟩:=L.row (show k<rs.length by lia)
  rw[e2] at h1;have hl:=K7 List.length h1;rw[Kq,JL] at hl;refine⟨?_,by lia⟩
  rw[e1,<- List.drop_drop,h1,N4]
theorem Laid.pos(L:Laid cd rs ws sp z){w:Nat}(hk:k<rs.length):0<(dN cd rs[k] w d).length:=by
 have g0:=L.hR.fX.at (p:=(0,rs[k].wi)) (.inl ⟨rfl,rs[k].xc⟩);obtain⟨c0,c1,c2,e,l0,l1,l2⟩:=L.hR.fX.ex;have hne:aY cd (0,rs[k].wi)≠[]:=by
  refine (L.hR.pf c0 (by rw[e];simp)).ne _ ?_
  have:=g0.2.1;rw[e] at this ⊢;exact KW this
 unfold dN bL dh;rw[JL,JL,List.flatMap_cons,JL];have:=N0.mpr hne;lia
theorem Laid.up(L:Laid cd rs ws sp z)(hk:k<rs.length):sp.getD k 0<sp.getD (k+1) 0:=by
 obtain⟨w,_,_,e1,_⟩:=L.row hk;have:=L.pos (w:=w) (d:=Cm sp k rs[k]) hk;lia
theorem Laid.mono(L:Laid cd rs ws sp z):∀(i d:Nat),i+d+1<=rs.length->sp.getD i 0<sp.getD (i+d+1) 0
 |i,0,h=>L.up (by lia)
 |i,d+1,h=>Mp (L.mono i d (by lia)) (L.up (show i+d+1<rs.length by lia))
theorem Laid.last(L:Laid cd rs ws sp z):z.length=sp.getD rs.length 0:=by
 obtain⟨h1,h2⟩:=L.at rs.length (JS _);rw[M7] at h1;have hl:=K7 List.length h1;rw[Kq,show (mY cd sp rs.length [] (ws.drop rs.length)).length=0 by unfold mY;rfl] at hl
 lia
theorem Laid.Jz(L:Laid cd rs ws sp z):z.length<=20000:=by
 rw[L.last,L.oJ];have:=xO (ss:=jE cd rs) (gs:=rs.map aF) (ws:=ws) (λs hs=>by
  obtain⟨r,hr,rfl⟩:=K2.mp hs;have:=gJ L.hR.fX (L.ok r hr)
  lia) rs.length
 have l:(jE cd rs).length=rs.length:=JK ..;have:=L.le;lia
end
noncomputable def bG(H:Hp)(p dq:Addr)(n:Nat):Prop:=∃(cells:List Int) (i t z:Int),H p=some (.lst [.ref dq,.int i,.int t,.int z])/\H dq=some (.lst (iV cells))/\(∀c∈cells,0<=c)/\0<=i/\i<=cells.length/\cells.length<=63/\0<=t/\t<=n
theorem bG.mono{p:Addr}{n m:Nat}(h:bG H p dq n)(hm:n<=m):bG H p dq m:=by
 obtain⟨cells,i,t,z,h1,h2,h3,h4,h5,h6,h7,h8⟩:=h;exact⟨cells,i,t,z,h1,h2,h3,h4,h5,h6,h7,by lia⟩
theorem bG.keep{p:Addr}{n:Nat}(h:bG H p dq n)(k:KB ex H H')(n1:p∉ex)(n2:dq∉ex):bG H' p dq n:=by
 obtain⟨cells,i,t,z,h1,h2,h3⟩:=h;exact⟨cells,i,t,z,k _ _ h1 n1,k _ _ h2 n2,h3⟩
theorem bG.kb{p:Addr}{n:Nat}(h:bG H p dq n)(k:KB [] H H'):bG H' p dq n:=h.keep k (by simp) (by simp)
theorem bG.lst{p:Addr}{n:Nat}(h:bG H p dq n):∀b∈[p,dq],∃ys,H b=some (.lst ys):=by
 obtain⟨cells,i,t,z,h1,h2,h3⟩:=h;intro b hb;simp only[JR,Kt,La] at hb;rcases hb with rfl|rfl
 ·exact⟨_,h1⟩
 ·exact⟨_,h2⟩
theorem bG.new{p l:Addr}{n:Nat}(h:bG H p dq n)(hl:H l=none):l∉[p,dq]:=λz=>by
 obtain⟨ys,e⟩:=h.lst l z;rw[hl] at e;cases e
theorem bG.tup{p:Addr}{n:Nat}(h:bG H p dq n)(k:KB [p,dq] H H')(e:H a=some (.tup xs)):H' a=some (.tup xs):=E3 k h.lst e
noncomputable def DL:Sp:=λvs H Q _=>∃c k:Int,vs=[.int c,.int k]/\0<=k/\k<2^60/\∀v:Int,Q (.int v) H
theorem EA(F:HasFn K mg "_law_mix" hX ["number","turn"]):ax P w K mg base aT 1 "_law_mix" ["number","turn"] DL:=by
 refine F.fR gH (λvs H Q E h=>?_) (λf cdv A outer s H vs Q E hr h=>?_)
 ·obtain⟨c,k,rfl,_⟩:=h;rfl
 ·obtain⟨c,k,rfl,h0,h1,q⟩:=h;have hu:=aR hr;refine⟨_,(Z.aq (Z.se (i:=2) gH.nd (Z.op cU (Z.op (Z.bp K rfl) (Z.op (Z.bp K rfl) (Z.op (Z.bp K rfl) (Z.op cU (Z.v 0) Z.int) (Z.op de (Z.op de Z.int (Z.v 1)) (Z.v 1))) (Z.op de Z.int (Z.v 1))) Z.int) Z.int))
   (Z.aq (Z.se (i:=2) gH.nd (Z.op cU (Z.op de (Z.v 2) (Z.v 2)) Z.int))
   (Z.aA (Z.ret (Z.op oz (Z.op cU (Z.op (Z.bp K rfl) (Z.op de (Z.v 2) Z.int) (Z.v 1)) Z.int) Z.int))))),?_⟩
  refine ay λN hN=>?_;walk_at "rz";refine⟨by decide,.inl (by decide),.inr ⟨by lia,by lia⟩,.inl (by decide),by decide,?_⟩
  rw[hN];clear hN N;generalize hx:(c % 1999999927+7001*k*k+40009*k+17) % 2147483629=x;have hx1:0<=x/\x<2147483629:=by rw[<- hx];exact⟨LI _ (by decide),LF _ (by decide)⟩
  refine ay λN hN=>?_;walk_at "rz";refine⟨.inl ⟨by lia,by lia⟩,by decide,?_⟩
  rw[hN];clear hN N;generalize hy:x*x % 2147483587=y;have hy1:0<=y/\y<2147483587:=by rw[<- hy];exact⟨LI _ (by decide),LF _ (by decide)⟩
  walk_at "rz";exact⟨.inr (by decide),by decide,⟨by decide,by decide⟩,q _⟩
noncomputable def zD(K:W.Frag):Sp:=λvs H Q _=>∃(a:Addr) (ns:List Int),vs=[.ref a]/\cf K H a (ns.map V.int)/\∀p dq H',bG H' p dq 0->KB [] H H'->Q (.ref p) H'
theorem Cb(T:Txt K mg)(F:HasFn K mg "_law_deck" eU ["script"]):ax P w K mg base aT 1 "_law_deck" ["script"] (zD K):=by
 refine F.fR nQ (λvs H Q E h=>?_) (λf cdv A outer s H vs Q E hr h=>?_)
 ·obtain⟨a,ns,rfl,_⟩:=h;rfl
 ·obtain⟨a,ns,rfl,hS,q⟩:=h;have hu:=aR hr;refine⟨_,(Z.aA (Z.ret (Z.lst (Z.cons (Z.C_ (osc:=af eU) (ON:=["script"]) (own:=["cell"]) (N:=["cell","script"]) (aQ.of rfl (by decide +kernel)) (Z.any K rfl (Z.slice (Z.Dm K rfl) (Z.v 0) Z.vZ (Z.oN Z.int))) (λnd _ _ _ _=>(Z.bu (i:=0) nd rfl (by right))) (λ_ _ _ _=>Z.vy) (λ_ _ _ _=>(Z.cb xZ rfl T.G_ (by decide +kernel) (Z.cons (Z.v 0) Z.nil)))) (Z.cons Z.int (Z.cons Z.int (Z.cons (Z.op cU (Z.op (Z.bp K rfl) (Z.cb (Z.GW K rfl rfl) rfl T.GY (by decide +kernel) (Z.cons (Z.slice (Z.Dm K rfl) (Z.v 0) Z.vZ (Z.oN Z.int)) Z.nil)) (Z.op de Z.int (Z.cb (Z.Eo K rfl) rfl T.cN (by decide +kernel) (Z.cons (Z.v 0) Z.nil)))) Z.int) Z.nil))))))),?_⟩
  have ec:dP (ns.map V.int) none (some 63)=iV (ns.take 63):=by
   unfold dP iV;rw[HT.e8,show HT.bW (ns.map V.int).length (ns.map V.int).length (some 63)=min 63 (ns.map V.int).length from HT.fW _ _ 63,JK,Mr,Ld,<- LY];congr 1;rw[List.take_eq_take_iff];lia
  have hm:(ns.take 63).length<=63:=by rw[Ki];lia
  generalize ns.take 63=ms at ec hm;walk_at "rz";refine⟨a,_,rfl,hS,λc hc=>?_⟩;rw[ec];have k1:KB [] H (upd H c (.lst (iV ms))):=KB.new hc;have s1:upd H c (.lst (iV ms)) c=some (.lst (iV ms)):=ae;generalize upd H c (.lst (iV ms))=H1 at *;simp only[aO s1];refine ip (xs:=iV ms) (JX (show _<=63 by rw[cR];exact hm) (by decide)) (λD i ys H'=>H' D=some (.lst ys)/\KB [] H1 H'/\H1 D=none/\∃bs:List Int,ys=iV bs/\bs.length=i/\∀b∈bs,0<=b) (λD hD=>⟨ae,KB.new hD,hD,[],rfl,rfl,λb hb=>nomatch hb⟩) (λD i ys H' h=>⟨h.1,by obtain⟨_,_,_,bs,rfl,e,_⟩:=h;rw[cR,e]⟩) (λD i ys H' h=>cf.of (h.2.1 _ _ s1 (by simp))) ?_ ?_
  ·rintro D i ys H' x R hx ⟨g1,g2,g3,bs,rfl,g4,g5⟩ k;obtain⟨hi,rfl⟩:=rV hx;walk_at "rz";refine k _ _ g1 ⟨ae,λb o e _=>?_,g3,bs++[_],(nR bs [_]).symm,by rw[JL,g4];rfl,λb hb=>?_⟩
   ·rw[ao (au e g3)];exact g2 b o e (by simp)
   ·rcases K8.mp hb with z|z
    ·exact g5 b z
    ·rw[Ka.mp z];split<;>lia
  ·rintro D ys H' ⟨g1,g2,g3,bs,rfl,g4,g5⟩;rw[cR] at g4;refine⟨a,_,rfl,(k1.trans g2).Hs (by simp) hS,λd hd=>?_⟩
   rw[ec];have k2:KB [] H' (upd H' d (.lst (iV ms))):=KB.new hd;have s2:upd H' d (.lst (iV ms)) d=some (.lst (iV ms)):=ae;generalize upd H' d (.lst (iV ms))=H2 at *;have kk:=(k1.trans g2).trans k2;refine⟨d,ms,rfl,cf.of s2,.ref a,_,rfl,.inl ⟨_,kk.Hs (by simp) hS,rfl⟩,.inl (by decide),by decide,by decide,λp hp=>?_⟩
   have gD:=k2 _ _ g1 (by simp)
   exact q p D _ ⟨bs,0,0,_,ae,by rw[ao (au gD hp)];exact gD,g5,by decide,by lia,by lia,by decide,by decide⟩ (kk.trans (KB.new hp))
noncomputable def eZ:Sp:=λvs H Q _=>∃(p dq:Addr) (m:Int) (n:Nat),vs=[.ref p,.int m]/\bG H p dq n/\n<2^50/\0<m/\m<2^30/\∀(v:Nat) H',(v:Int)<m->bG H' p dq (n+1)->KB [p,dq] H H'->Q (.int (v:Nat)) H'
theorem BU(T:Txt K mg)(F:HasFn K mg "_law_draw" gF ["deck","most"])(h_law_mix:ax P w K mg base aT 1 "_law_mix" ["number","turn"] DL):ax P w K mg base aT 2 "_law_draw" ["deck","most"] eZ:=by
 refine F.fR iM (λvs H Q E h=>?_) (λf cdv A outer s H vs Q E hr h=>?_)
 ·obtain⟨p,dq,m,n,rfl,_⟩:=h;rfl
 ·obtain⟨p,c,m,n,rfl,⟨cells,i,t,z,hp,hc,hn0,i0,i1,k63,t0,t1⟩,hn,hm0,hm1,q⟩:=h;have hu:=aR hr;have hcp:c≠p:=by
   rintro rfl;rw[hp] at hc
   cases cells<;>cases hc
  have sp:=aO hp;have fin:∀(a:Int) (H':Hp),bG H' p c (n+1)->KB [p,c] H H'->Q (.int (a % m)) H':=λa H' D k=>by
   have h0:=LI a (Int.ne_of_gt hm0);have h1:=LF a hm0;have:=q (a % m).toNat H' (by lia) D k
   rwa [Int.toNat_of_nonneg h0] at this
  refine⟨_,(Z.aq (Z.asg (Z.op (Z.bp K rfl) (Z.ix (Z.aP K rfl hu) (Z.v 0) Z.int) Z.int) (Z.rR (Z.v 0) Z.int))
   (Z.aq (Z.dJ (Z.aZ b8 (Z.ix (Z.aP K rfl hu) (Z.v 0) Z.int) (Z.cb (Z.cY K rfl) rfl T.cN (by decide +kernel) (Z.cons (Z.ix (Z.aP K rfl hu) (Z.v 0) Z.int) Z.nil))) (Z.aA (Z.ret (Z.op cU (Z.fc h_law_mix (Z.cons (Z.ix (Z.aP K rfl hu) (Z.v 0) Z.int) (Z.cons (Z.ix (Z.aP K rfl hu) (Z.v 0) Z.int) Z.nil))) (Z.v 1)))) Z.bN)
   (Z.aq (Z.se (i:=2) iM.nd (Z.ix (Z.aP K rfl hu) (Z.ix (Z.aP K rfl hu) (Z.v 0) Z.int) (Z.ix (Z.aP K rfl hu) (Z.v 0) Z.int)))
   (Z.aq (Z.dJ (Z.aZ fA (Z.v 2) (Z.op sL Z.int Z.int)) (Z.aq (Z.asg (Z.op (Z.bp K rfl) (Z.ix (Z.aP K rfl hu) (Z.v 0) Z.int) Z.int) (Z.rR (Z.v 0) Z.int))
   (Z.aA (Z.ret (Z.op cU (Z.fc h_law_mix (Z.cons (Z.v 2) (Z.cons (Z.ix (Z.aP K rfl hu) (Z.v 0) Z.int) Z.nil))) (Z.v 1))))) Z.bN)
   (Z.aq (Z.asg (Z.op oz (Z.v 2) (Z.v 1)) (Z.rR (Z.ix (Z.aP K rfl hu) (Z.v 0) Z.int) (Z.ix (Z.aP K rfl hu) (Z.v 0) Z.int)))
   (Z.aA (Z.ret (Z.op cU (Z.v 2) (Z.v 1))))))))),?_⟩
  have x1:lV 4 1=some 1:=by decide
  have x2:lV 4 2=some 2:=by decide
  refine ay λN hN=>?_;exists sp,hp,x2;have k1:KB [p,c] H (upd H p (.lst [.ref c,.int i,.int (t+1),.int z])):=KB.set (by simp)
  have p1:upd H p (.lst [.ref c,.int i,.int (t+1),.int z]) p=_:=ae;have c1:upd H p (.lst [.ref c,.int i,.int (t+1),.int z]) c=some (.lst (iV cells)):=by rw[ao hcp];exact hc
  generalize upd H p (.lst [.ref c,.int i,.int (t+1),.int z])=H1 at *;have s1:=aO p1;have sc:=aO c1;rw[hN];clear hN N;refine ay λN hN=>?_;exists s1,sc,cR;by_cases e1:i=(cells.length:Nat)
  ·exists JQ e1,s1;refine⟨_,_,rfl,by lia,by lia,λv=>?_⟩
   walk_at "rz";exact⟨hm0,fin v H1 ⟨cells,i,t+1,z,p1,c1,hn0,i0,i1,k63,by lia,by lia⟩ k1⟩
  ·rw[JN e1,hN];clear hN N;obtain⟨j,rfl⟩:∃j:Nat,i=(j:Int):=⟨i.toNat,by lia⟩
   have hj:j<cells.length:=by lia
   have aj:=DE hj;have hv0:=hn0 _ (Kf hj);refine ay λN hN=>?_;exists s1,sc,aj;generalize cells[j]=v at *;rw[hN];clear hN N;refine ay λN hN=>?_;walk_at "rz";refine⟨⟨by decide,by decide,by decide⟩,?_⟩
   by_cases e2:v<10^(18:Int).toNat
   ·rw[JQ e2];exists s1,p1,x1;have k2:KB [p,c] H1 (upd H1 p (.lst [.ref c,.int ((j:Int)+1),.int (t+1),.int z])):=KB.set (by simp)
    have p2:upd H1 p (.lst [.ref c,.int ((j:Int)+1),.int (t+1),.int z]) p=_:=ae;have c2:upd H1 p (.lst [.ref c,.int ((j:Int)+1),.int (t+1),.int z]) c=some (.lst (iV cells)):=by rw[ao hcp];exact c1
    generalize upd H1 p (.lst [.ref c,.int ((j:Int)+1),.int (t+1),.int z])=H2 at *;refine⟨_,_,rfl,by lia,by lia,λv=>?_⟩
    walk_at "rz";exact⟨hm0,fin v H2 ⟨cells,(j:Int)+1,t+1,z,p2,c2,hn0,by lia,by lia,k63,by lia,by lia⟩ (k1.trans k2)⟩
   ·rw[JN e2,hN];clear hN N;have xj:lV (iV cells).length (j:Int)=some j:=by rw[rP (by lia) (by rw[cR];lia)];simp
    refine ay λM hM=>?_;exists s1,c1,xj;refine⟨⟨hm0,by lia⟩,?_⟩
    rw[Ez];have k2:KB [p,c] H1 (upd H1 c (.lst (iV (cells.set j (v / m))))):=KB.set (by simp)
    have c2:upd H1 c (.lst (iV (cells.set j (v / m)))) c=_:=ae;have p2:upd H1 c (.lst (iV (cells.set j (v / m)))) p=_:=(ao hcp.symm).trans p1;generalize upd H1 c (.lst (iV (cells.set j (v / m))))=H2 at *;rw[hM];clear hM M;walk_at "rz";refine⟨hm0,fin v H2 ⟨cells.set j (v / m),j,t+1,z,p2,c2,λx hx=>?_,by lia,by rw[KD];lia,by rw[KD];exact k63,by lia,by lia⟩ (k1.trans k2)⟩
    rcases KA hx with hx|rfl
    ·exact hn0 x hx
    ·exact Int.ediv_nonneg hv0 (by lia)
theorem HC(l:List Nat)(a:Nat):(iV (nZ l)).eraseIdx a=iV (nZ (l.eraseIdx a)):=by
 unfold iV nZ;simp only[LU,Kg,LY,MB]
theorem Ad(l:List Nat)(n k:Nat):jo (iV (nZ l)) n (V.int (k:Int))=iV (nZ (jo l n k)):=by
 unfold jo iV nZ;simp only[Kg,LY,MB,Ku]
theorem dG(l:List Nat):(iV (nZ l)).length=l.length:=by rw[cR,hZ]
noncomputable def qR(K:W.Frag):Sp:=λvs H Q _=>∃(p dq:Addr) (m n:Nat),vs=[.ref p,.int (m:Nat)]/\bG H p dq n/\n<2^40/\2<=m/\m<=17/\∀(ls:List Int) (a:Addr) H',bG H' p dq (n+60)->KB [p,dq] H H'->H' a=some (.tup (iV ls))->ls.length=m->lZ ls->qd ls=true->Q (.ref a) H'
theorem zq(T:Txt K mg)(F:HasFn K mg "_law_lengths" dW ["deck","many"])(h_law_draw:ax P w K mg base aT 2 "_law_draw" ["deck","most"] eZ):ax P w K mg base aT 3 "_law_lengths" ["deck","many"] (qR K):=by
 refine F.fR cA (λvs H Q E h=>?_) (λf cdv A outer s H vs Q E hr h=>?_)
 ·obtain⟨p,dq,m,n,rfl,_⟩:=h;rfl
 ·have hu:=aR hr;obtain⟨p,dq,m,n,rfl,hd,hn,hm2,hm,q⟩:=h;refine⟨_,(Z.aq (Z.se (i:=2) cA.nd (Z.lst (Z.cons Z.int Z.nil)))
   (Z.aq (Z.iW K1 rfl (Z.Aj rfl T.gP (Z.cons (Z.op dI (Z.v 1) Z.int) Z.nil)) (Z.bu (i:=3) cA.nd rfl (by right)) (Z.aq (Z.se (i:=4) cA.nd (Z.op (Z.bp K rfl) (Z.bm K rfl PySem.F.plainAttrs_list PySem.F.slot_list_pop PySem.F.type_list_pop zO (Z.v 2) (Z.cons (Z.fc h_law_draw (Z.cons (Z.v 0) (Z.cons (Z.cb (Z.cY K rfl) rfl T.cN (by decide +kernel) (Z.cons (Z.v 2) Z.nil)) Z.nil))) Z.nil)) Z.int))
   (Z.aq (Z.expr (Z.bm K rfl PySem.F.plainAttrs_list PySem.F.slot_list_insert PySem.F.type_list_insert mR (Z.v 2) (Z.cons (Z.fc h_law_draw (Z.cons (Z.v 0) (Z.cons (Z.op (Z.bp K rfl) (Z.cb (Z.cY K rfl) rfl T.cN (by decide +kernel) (Z.cons (Z.v 2) Z.nil)) Z.int) Z.nil))) (Z.cons (Z.v 4) Z.nil))))
   (Z.aA (Z.expr (Z.bm K rfl PySem.F.plainAttrs_list PySem.F.slot_list_insert PySem.F.type_list_insert mR (Z.v 2) (Z.cons (Z.fc h_law_draw (Z.cons (Z.v 0) (Z.cons (Z.op (Z.bp K rfl) (Z.cb (Z.cY K rfl) rfl T.cN (by decide +kernel) (Z.cons (Z.v 2) Z.nil)) Z.int) Z.nil))) (Z.cons (Z.v 4) Z.nil))))))))
   (Z.aq (Z.dJ (Z.aZ b8 (Z.fc h_law_draw (Z.cons (Z.v 0) (Z.cons Z.int Z.nil))) Z.int) (Z.aq (Z.se (i:=5) cA.nd (Z.fc h_law_draw (Z.cons (Z.v 0) (Z.cons (Z.v 1) Z.nil))))
   (Z.aA (Z.asg (Z.cb (vA rfl) rfl T.HW (by decide +kernel) (Z.cons Z.int (Z.cons (Z.op (Z.bp K rfl) (Z.op (Z.bp K rfl) (Z.ix (Z.aP K rfl hu) (Z.v 2) (Z.v 5)) Z.int) (Z.fc h_law_draw (Z.cons (Z.v 0) (Z.cons Z.int Z.nil)))) Z.nil))) (Z.rR (Z.v 2) (Z.v 5))))) Z.bN)
   (Z.aA (Z.ret (Z.ct (Z.cQ K rfl) rfl T.cO (by decide +kernel) (Z.cons (Z.v 2) Z.nil))))))),?_⟩
  refine ay λN hN=>?_;walk_at "rz";refine⟨by decide,λd hd0=>?_⟩
  have k1:KB [] H (upd H d (.lst [.int 0])):=KB.new hd0;have s1:upd H d (.lst [.int 0]) d=some (.lst (iV (nZ [0]))):=ae;generalize upd H d (.lst [.int 0])=H1 at *;have nd:=hd.new hd0;have dp:p≠d:=λz=>nd (by simp[z])
  have ddq:dq≠d:=λz=>nd (by simp[z])
  rw[hN];clear hN N;refine ay λN hN=>?_;walk_at "rz";refine⟨by lia,by lia,?_⟩
  have setD:∀{G:Hp} {n:Nat} {o:HO},bG G p dq n->bG (upd G d o) p dq n:=λh=>h.keep (KB.set (ex:=[d]) (by simp)) (by simpa using dp) (by simpa using ddq)
  have keep:∀{G G':Hp},KB [p,dq] H G->KB [p,dq] G G'->KB [p,dq] H G':=λa b=>a.trans b;have keepD:∀{G:Hp} {o:HO},KB [p,dq] H G->KB [p,dq] H (upd G d o):=λa b o e z=>by rw[ao (au e hd0)];exact a b o e z
  refine eF (λi σ H'=>∃(l:List Nat) (o3 o4:Option V),Pt l/\l.length=i+1/\bG H' p dq (n+3*i)/\KB [p,dq] H H'/\H' d=some (.lst (iV (nZ l)))/\σ=[some (.ref p),some (.int (m:Nat)),some (.ref d),o3,o4,none]) ⟨[0],none,none,⟨by decide,by simp,.inl rfl⟩,rfl,hd.kb k1,k1.all,s1,rfl⟩ ?_ ?_
  ·rintro i σ H' hi ⟨l,o3,o4,hl,hli,hD,hk,gd,rfl⟩;unfold bT;refine ay λM hM=>?_;exists aO gd,dG;refine⟨.inl ⟨rfl,_,cf.of gd⟩,p,dq,_,_,rfl,hD,by lia,by lia,by lia,λa H2 ha D2 k2=>?_⟩
   have ha':a<l.length:=by lia
   have hle:=l.length_eraseIdx_of_lt ha';have gd2:=k2 _ _ gd nd;have six:seqIndex? (a:Int) (iV (nZ l)).length=some a:=by
    rw[dG];unfold seqIndex?;simp;lia
   have enZ:(iV (nZ l))[a]?=some (.int ((l[a]:Nat):Int)):=by unfold iV nZ;rw[JW,JW,JI ha'];rfl
   refine⟨d,_,_,a,_,rfl,rfl,gd2,by lia,by lia,six,enZ,?_⟩
   rw[HC];have D3:=setD (o:=.lst (iV (nZ (l.eraseIdx a)))) D2;have K3:=keepD (o:=.lst (iV (nZ (l.eraseIdx a)))) (hk.trans k2);have g3:upd H2 d (.lst (iV (nZ (l.eraseIdx a)))) d=_:=ae;generalize upd H2 d (.lst (iV (nZ (l.eraseIdx a))))=H3 at *;walk_at "rz";rw[show ((l[a]:Nat):Int)+1=((l[a]+1:Nat):Int) from rfl,hM];clear hM M;refine ay λM hM=>?_;exists aO g3,dG,hle;refine⟨.inl ⟨rfl,_,cf.of g3⟩,p,dq,_,_,rfl,D3,by lia,by lia,by lia,λv H4 hv D4 k4=>?_⟩
   have g4:=k4 _ _ g3 nd;refine⟨d,_,_,_,rfl,rfl,g4,by lia,by lia,KN (show _<=20 by rw[dG];lia) (by decide),?_⟩
   rw[dG,Ad,hle];generalize hl2:jo (l.eraseIdx a) (min (v:Int).toNat (l.length-1)) (l[a]+1)=l2;have le2:l2.length=l.length:=by rw[<- hl2,CT,hle];lia
   have pe2:l2.Perm ((l[a]+1)::l.eraseIdx a):=by rw[<- hl2];exact qE ..
   clear hl2;have D5:=setD (o:=.lst (iV (nZ l2))) D4;have K5:=keepD (o:=.lst (iV (nZ l2))) (K3.trans k4);have g5:upd H4 d (.lst (iV (nZ l2))) d=_:=ae;generalize upd H4 d (.lst (iV (nZ l2)))=H5 at *;rw[hM];clear hM M;dsimp only;refine vc λM hM=>?_;exists aO g5,dG;refine⟨.inl ⟨rfl,_,cf.of g5⟩,p,dq,_,_,rfl,D5,by lia,by lia,by lia,λv H6 hv D6 k6=>?_⟩
   have g6:=k6 _ _ g5 nd;refine⟨d,_,_,_,rfl,rfl,g6,by lia,by lia,KN (show _<=20 by rw[dG];lia) (by decide),?_⟩
   rw[dG,Ad];obtain⟨hP3,hL3⟩:=hl.next ha' (by lia) ((qE l2 (min (v:Int).toNat l2.length) (l[a]+1)).trans (List.Perm.cons _ pe2))
   rw[hM];exact⟨_,some _,some _,hP3,by lia,(setD D6).mono (by lia),keepD (K5.trans k6),ae,rfl⟩
  ·rintro σ H' ⟨l,o3,o4,hl,hli,hD,hk,gd,rfl⟩;have hlm:l.length=m:=by lia
   show N _ _;rw[hN];clear hN N;have h1:∀x∈l,1<=x:=by
    rcases hl.one with e|e
    ·exfalso;rw[e] at hlm;simp at hlm;lia
    ·exact e
   have fin:∀(l:List Nat) (G:Hp),G d=some (.lst (iV (nZ l)))->KB [p,dq] H G->l.length=m->(∀x∈l,1<=x/\x<=20)->Kr.ks 40 l<=2^40->bG G p dq (n+60)->∀t,G t=none->Q (.ref t) (upd G t (.tup (iV (nZ l)))):=λl G hg hK a b c e t ht=>by
    refine q (nZ l) t _ (e.kb (KB.new ht)) (hK.trans (KB.new ht)) ae (by rw[hZ];exact a) ⟨by rw[hZ];lia,by rw[hZ];lia,λx hx=>?_⟩ (EO c)
    obtain⟨y,hy,rfl⟩:=K2.mp hx;have:=b y hy;exact⟨by lia,by lia⟩
   refine ay λN hN=>?_;walk_at "rz";refine⟨p,dq,2,_,rfl,hD,by lia,by decide,by decide,λv H2 hv D2 k2=>?_⟩
   have g2:=k2 _ _ gd nd;by_cases c:(v:Int)=0
   ·exists JQ c;refine⟨p,dq,(m:Nat),_,rfl,D2,by lia,by lia,by lia,λa H3 ha D3 k3=>?_⟩
    have g3:=k3 _ _ g2 nd;have ha':a<l.length:=by lia
    have ea:cI (iV (nZ l)) (a:Int)=some (.int ((l[a]:Nat):Int)):=b9 (by unfold iV nZ;rw[JW,JW,JI ha'];rfl)
    exists aO g3,ea;refine⟨p,dq,5,_,rfl,D3,by lia,by decide,by decide,λv H4 hv D4 k4=>?_⟩
    have g4:=k4 _ _ g3 nd;obtain⟨nz,enz,hnz⟩:∃nz:Nat,(if ((l[a]:Nat):Int)+1+(v:Int)<20 then ((l[a]:Nat):Int)+1+(v:Int) else 20)=(nz:Int)/\l[a]<=nz/\nz<=20:=by
     have:=hl.le _ (Kf ha');by_cases c:((l[a]:Nat):Int)+1+(v:Int)<20
     ·rw[JQ c];exact⟨l[a]+1+v,by lia,by lia,by lia⟩
     ·rw[JN c];exact⟨20,rfl,by lia,by lia⟩
    have ei:lV (iV (nZ l)).length (a:Int)=some a:=by rw[dG,rP (by lia) (by lia)];simp
    exists enz,g4,ei;have es:(iV (nZ l)).set a (.int (nz:Int))=iV (nZ (l.set a nz)):=by unfold iV nZ;rw[MN,MN]
    rw[es];have D5:=setD (o:=.lst (iV (nZ (l.set a nz)))) D4;have K5:=keepD (o:=.lst (iV (nZ (l.set a nz)))) ((hk.trans k2).trans (k3.trans k4));have g5:upd H4 d (.lst (iV (nZ (l.set a nz)))) d=_:=ae;generalize upd H4 d (.lst (iV (nZ (l.set a nz))))=H5 at *;rw[hN];clear hN N;exists aO g5;refine fin _ H5 g5 K5 (by rw[KD];exact hlm) (λx hx=>?_) (JX (zZ ha' hnz.1) (NY hl.ks)) (D5.mono (by lia))
    rcases KA hx with hx|rfl
    ·exact⟨h1 x hx,by have:=hl.le x hx;lia⟩
    ·exact⟨by have:=h1 _ (Kf ha');lia,hnz.2⟩
   ·exists JN c;rw[hN];clear hN N;exists aO g2;exact fin l H2 g2 (hk.trans k2) hlm (λx hx=>⟨h1 x hx,by have:=hl.le x hx;lia⟩) (NY hl.ks) (D2.mono (by lia))
noncomputable def uv(H:Hp)(ca:Addr)(cd:List (List (List Nat))):Prop:=∃a0 a1 a2,H ca=some (.lst [.ref a0,.ref a1,.ref a2])/\H a0=some (.tup (wV (cd.getD 0 [])))/\H a1=some (.tup (wV (cd.getD 1 [])))/\H a2=some (.tup (wV (cd.getD 2 [])))
theorem uv.keep{ca:Addr}{cd:List (List (List Nat))}(h:uv H ca cd)(k:KB ex H H')(n:ca∉ex)(hx:∀b∈ex,∀xs,H b≠some (.tup xs)):uv H' ca cd:=by
 obtain⟨a0,a1,a2,h1,h2,h3,h4⟩:=h;exact⟨a0,a1,a2,k _ _ h1 n,k _ _ h2 λz=>hx _ z _ h2,k _ _ h3 λz=>hx _ z _ h3,k _ _ h4 λz=>hx _ z _ h4⟩
theorem uv.kb{ca:Addr}{cd:List (List (List Nat))}(h:uv H ca cd)(k:KB [] H H'):uv H' ca cd:=h.keep k (by simp) (by simp)
noncomputable def Ip(H:Hp)(v:V):Option (PV×Nat)->Prop
 |none=>v=.aU
 |some x=>∃t,v=.ref t/\H t=some (.tup [x.1.v x.2,.int (x.2:Nat)])
theorem HZ{b:Nat}(h:b<8):cI [V.str "a",.str "b",.str "c",.str "d",.str "e",.str "f",.str "g",.str "h"] (b:Int)=some (.str (bY b)):=by
 show cI (Gh.map V.str) (b:Int)=_;exact b9 (by rw[JW,(zV h).1];rfl)
noncomputable def qg(K:W.Frag):Sp:=λvs H Q _=>∃(ca:Addr) (cd:List (List (List Nat))) (z:List Nat) (p:Nat) (k:Kd),vs=[.str k.s,.ref ca,.str (wd z),.int (p:Nat)]/\uv H ca cd/\sX cd/\eC z/\z.length<=1000000/\∀v H',KB [] H H'->Ip H' v (mf cd z p k)->Q v H'
theorem vL(T:Txt K mg)(F:HasFn K mg "part_at" iX ["kind","codes","bits","place"])(hcoded_at:ax P w K mg base aT 2 "coded_at" ["code","bits","place"] (iH K))(hnumber_at:ax P w K mg base aT 3 "number_at" ["code","bits","place"] (uD K))(hgoal_at:ax P w K mg base aT 3 "goal_at" ["bits","place"] (ql K)):ax P w K mg base aT 4 "part_at" ["kind","codes","bits","place"] (qg K):=by
 obtain⟨u1,hg_OF_CLASSES,hr_OF_CLASSES⟩:=T.iA;obtain⟨u2,hg_OF_BOXES,hr_OF_BOXES⟩:=T.lH;obtain⟨aB,hg_BOXES,sB⟩:=T.jP;have hr_BOXES:RelV (.ref aB) (.ref aB):=rfl;refine F.fR kK (λvs H Q E h=>?_) (λf cdv A outer s H vs Q E hr h=>?_)
 ·obtain⟨ca,cd,z,p,k,rfl,_⟩:=h;rfl
 ·have hu:=aR hr;obtain⟨ca,cd,z,p,k,rfl,hc,hR,hb,hz,q⟩:=h;refine⟨_,(Z.aq (Z.dJ (Z.aZ b8 (Z.v 0) Z.str) (Z.aA (Z.ret (Z.fc hnumber_at (Z.cons (Z.ix (Z.aP K rfl hu) (Z.v 1) (Z.glob rfl hg_OF_CLASSES hr_OF_CLASSES)) (Z.cons (Z.v 2) (Z.cons (Z.v 3) Z.nil)))))) Z.bN)
   (Z.aq (Z.dJ (Z.aZ b8 (Z.v 0) Z.str) (Z.aA (Z.ret (Z.fc hgoal_at (Z.cons (Z.v 2) (Z.cons (Z.v 3) Z.nil))))) Z.bN)
   (Z.aq (Z.se (i:=4) kK.nd (Z.fc hcoded_at (Z.cons (Z.ix (Z.aP K rfl hu) (Z.v 1) (Z.glob rfl hg_OF_BOXES hr_OF_BOXES)) (Z.cons (Z.v 2) (Z.cons (Z.v 3) Z.nil)))))
   (Z.aA (Z.ret (Z.A5 (Z.aZ dH (Z.v 4) Z.aU) Z.aU (Z.tup (Z.cons (Z.ix (Z.hJ K rfl) (Z.glob rfl hg_BOXES hr_BOXES) (Z.ix (Z.aP K rfl hu) (Z.v 4) Z.int)) (Z.cons (Z.ix (Z.aP K rfl hu) (Z.v 4) Z.int) Z.nil))))))))),?_⟩
  obtain⟨c0,c1,c2,rfl,l0,l1,l2⟩:=hR.fX.ex;have n1:=(hR.pf c1 (by simp)).ne
  have n2:=(hR.pf c2 (by simp)).ne
  obtain⟨a0,a1,a2,g,g0,g1,g2⟩:=hc;have sg:=aO g;refine ay λN hN=>?_
  cases k with
  |box =>
   replace q:∀v H',KB [] H H'->Ip H' v ((jC c2 z p).map λx=>(.box x.1,x.2))->Q v H':=q
   exists JN (by decide +kernel:¬ Kd.s .box=Str.ofString "number")
   rw[hN];clear hN N;refine ay λN hN=>?_;exists JN (by decide +kernel:¬ Kd.s .box=Str.ofString "goal")
   rw[hN];clear hN N;refine ay λN hN=>?_;exists sg;refine⟨a2,c2,z,p,rfl,bB.of g2,n2,by lia,hz,λv H1 k1 o1=>?_⟩
   rw[hN];clear hN N
   cases c:jC c2 z p with
   |none =>
    rw[c] at q o1;obtain rfl:v=.aU:=o1;walk_at "rz";exact q _ _ k1 rfl
   |some x =>
    rw[c] at q o1;have hb:=(eY n2 c).1;obtain⟨t,rfl,ht⟩:=o1;exists JN (show ¬ V.ref t=V.aU from V.noConfusion),aM ht;refine⟨aB,_,_,_,rfl,rfl,sB H1,HZ (show x.1<8 by lia),?_⟩
    exists aM ht;exact⟨by decide,λb2 hb2=>q _ _ (k1.trans (KB.new hb2)) ⟨b2,rfl,ae⟩⟩
  |num =>
   replace q:∀v H',KB [] H H'->Ip H' v ((Aq c1 z p).map λx=>(.num x.1,x.2))->Q v H':=q
   exists JQ (show Kd.s .num=Str.ofString "number" from rfl),sg;refine⟨a1,c1,z,p,rfl,bB.of g1,n1,by lia,hb,hz,λv H1 k1 o1=>q v H1 k1 ?_⟩
   cases c:Aq c1 z p with
   |none=>rw[c] at o1;exact o1
   |some x=>rw[c] at o1;exact o1
  |go =>
   replace q:∀v H',KB [] H H'->Ip H' v ((gA z p).map λx=>(.go x.1,x.2))->Q v H':=q
   exists JN (by decide +kernel:¬ Kd.s .go=Str.ofString "number")
   rw[hN];clear hN N;refine ay λN hN=>?_;exists JQ (show Kd.s .go=Str.ofString "goal" from rfl);refine⟨z,p,rfl,hb,hz,λv H1 k1 o1=>q v H1 k1 ?_⟩
   cases c:gA z p with
   |none=>rw[c] at o1;exact o1
   |some x=>rw[c] at o1;exact o1
noncomputable def Im(H:Hp)(v:V):Option (RW×Nat)->Prop
 |none=>v=.aU
 |some x=>∃t r,v=.ref t/\H t=some (.tup [.ref r,.int (x.2:Nat)])/\H r=some (.tup x.1.v)
noncomputable def t9(K:W.Frag):Sp:=λvs H Q _=>∃(ca:Addr) (cd:List (List (List Nat))) (z:List Nat) (p:Int),vs=[.ref ca,.str (wd z),.int p]/\uv H ca cd/\sX cd/\eC z/\z.length<=1000000/\∀v H',KB [] H H'->Im H' v (wN cd z p)->Q v H'
noncomputable def cc:=bR
theorem xN(T:Txt K mg)(F:HasFn K mg "row_at" ko ["codes","bits","place"])(hcoded_at:ax P w K mg base aT 2 "coded_at" ["code","bits","place"] (iH K))(hpart_at:ax P w K mg base aT 4 "part_at" ["kind","codes","bits","place"] (qg K)):ax P w K mg base aT 5 "row_at" ["codes","bits","place"] (t9 K):=by
 obtain⟨u1,hg_OF_WORDS,hr_OF_WORDS⟩:=T.kN;obtain⟨dS,hg_SHAPES,hd0⟩:=T.kg;have hd_SHAPES:kZ K dS cc:=hd0;have hr_SHAPES:RelV (.ref dS) (.ref dS):=rfl;clear hd0;refine F.fR c_ (λvs H Q E h=>?_) (λf cdv A outer s H vs Q E hr h=>?_)
 ·obtain⟨ca,cd,z,p,rfl,_⟩:=h;rfl
 ·have hu:=aR hr;obtain⟨ca,cd,z,p,rfl,hc,hR,hb,hz,q⟩:=h;refine⟨_,(Z.aq (Z.dJ (Z.aZ fA (Z.v 2) Z.int) (Z.aA (Z.ret Z.aU)) Z.bN)
   (Z.aq (Z.se (i:=3) c_.nd (Z.fc hcoded_at (Z.cons (Z.ix (Z.aP K rfl hu) (Z.v 0) (Z.glob rfl hg_OF_WORDS hr_OF_WORDS)) (Z.cons (Z.v 1) (Z.cons (Z.v 2) Z.nil)))))
   (Z.aq (Z.dJ (Z.aZ dH (Z.v 3) Z.aU) (Z.aA (Z.ret Z.aU)) Z.bN)
   (Z.aq (Z.se (i:=4) c_.nd (Z.ix (Z.aP K rfl hu) (Z.ct (lR (D:=cc) K rfl rfl) rfl T.yU (by decide +kernel) (Z.cons (Z.glob rfl hg_SHAPES hr_SHAPES) Z.nil)) (Z.ix (Z.aP K rfl hu) (Z.v 3) Z.int)))
   (Z.aq (Z.se (i:=5) c_.nd (Z.lst (Z.cons (Z.v 4) Z.nil)))
   (Z.aq (Z.se (i:=6) c_.nd (Z.ix (Z.aP K rfl hu) (Z.v 3) Z.int))
   (Z.aq (Z.iW K1 rfl (Z.seq K rfl (Z.Je K rfl rfl hg_SHAPES hd_SHAPES (Z.v 4))) (Z.bu (i:=7) c_.nd rfl (by right)) (Z.aq (Z.se (i:=8) c_.nd (Z.fc hpart_at (Z.cons (Z.v 7) (Z.cons (Z.v 0) (Z.cons (Z.v 1) (Z.cons (Z.v 6) Z.nil))))))
   (Z.aq (Z.dJ (Z.aZ dH (Z.v 8) Z.aU) (Z.aA (Z.ret Z.aU)) Z.bN)
   (Z.aq (Z.expr (Z.app K (Z.v 5) (Z.cons (Z.ix (Z.aP K rfl hu) (Z.v 8) Z.int) Z.nil)))
   (Z.aA (Z.se (i:=6) c_.nd (Z.ix (Z.aP K rfl hu) (Z.v 8) Z.int)))))))
   (Z.aA (Z.ret (Z.tup (Z.cons (Z.ct (Z.cQ K rfl) rfl T.cO (by decide +kernel) (Z.cons (Z.v 5) Z.nil)) (Z.cons (Z.v 6) Z.nil)))))))))))),?_⟩
  refine ay λN hN=>?_;by_cases hp:p<0
  ·unfold wN at q;rw[JQ hp] at q;exists JQ hp;exact q _ _ (KB.refl _ _) rfl
  obtain⟨p,rfl⟩:∃p':Nat,p=(p':Int):=⟨p.toNat,by lia⟩
  rw[uK] at q;exists JN hp;rw[hN];clear hN N;refine ay λN hN=>?_;obtain⟨c0,c1,c2,rfl,l0,l1,l2⟩:=hR.fX.ex;have n0:=(hR.pf c0 (by simp)).ne
  have hc':=hc;obtain⟨a0,a1,a2,g,g0,g1,g2⟩:=hc';exists aO g;refine⟨a0,c0,z,p,rfl,bB.of g0,n0,by lia,hz,λv H1 k1 o1=>?_⟩
  rw[hN];clear hN N;refine ay λN hN=>?_;unfold A1 at q
  replace q:∀v H',KB [] H H'->Im H' v ((jC c0 z p).bind λx=>(qL [c0,c1,c2] z (BO x.1) x.2).map λy=>(⟨x.1,y.1⟩,y.2))->Q v H':=q
  cases c:jC c0 z p with
  |none =>
   rw[c] at q o1;obtain rfl:v=.aU:=o1;walk_at "rz";exact q _ _ k1 rfl
  |some x =>
   rw[c] at q o1;obtain⟨wi,e⟩:=x;have h9:wi<9:=by have:=(eY n0 c).1;dsimp only at this;lia
   replace q:∀v H',KB [] H H'->Im H' v ((qL [c0,c1,c2] z (BO wi) e).map λy=>(⟨wi,y.1⟩,y.2))->Q v H':=q
   obtain⟨t,rfl,ht⟩:=o1;dsimp only at ht;exists if_neg (show ¬ V.ref t=V.aU from V.noConfusion);rw[hN];clear hN N;refine ay λN hN=>?_;have ak:cI (cc.map λp=>V.str p.1) (wi:Int)=some (.str (cX.getD wi (Str.ofString ""))):=b9 (by
    show (cX.map V.str)[wi]?=_;rw[JW,JY,JI (show wi<cX.length from h9)];rfl)
   walk_at "rz";refine⟨dS,rfl,hd_SHAPES,by decide,λl hl=>?_⟩
   have k2:KB [] H1 (upd H1 l (.lst (cc.map λp=>V.str p.1))):=KB.new hl;have s2:upd H1 l (.lst (cc.map λp=>V.str p.1)) l=some (.lst (cc.map λp=>V.str p.1)):=ae;generalize upd H1 l (.lst (cc.map λp=>V.str p.1))=H2 at *;have ht2:=k2 _ _ ht (by simp)
   exists aM ht2,aO s2,ak;have h02:KB [] H H2:=k1.trans k2;clear k1 k2 s2 hl ht ak;rw[hN];clear hN N;have hlen:(BO wi).length<=2:=by
    have:wi=0\/wi=1\/wi=2\/wi=3\/wi=4\/wi=5\/wi=6\/wi=7\/wi=8:=by lia
    rcases this with rfl|rfl|rfl|rfl|rfl|rfl|rfl|rfl|rfl<;>decide
   have e1:=CM h9;generalize hps:BO wi=ks0 at *;generalize hw9:cX.getD wi (Str.ofString "")=W at *;refine ay λN hN=>?_;walk_at "rz";refine⟨by decide,λrl hrl=>?_⟩
   have k3:KB [] H2 (upd H2 rl (.lst [.str W])):=KB.new hrl;have s3:upd H2 rl (.lst [.str W]) rl=some (.lst [.str W]):=ae;generalize upd H2 rl (.lst [.str W])=H3 at *;have hrl0:H rl=none:=h02.free (by simp) hrl
   have h03:KB [] H H3:=h02.trans k3;have ht3:=k3 _ _ ht2 (by simp)
   rw[hN];clear hN N;refine ay λN hN=>?_;exists aM ht3;rw[hN];clear hN N;refine ay λN hN=>?_;walk_at "rz";refine⟨W,_,rfl,e1,λpk kt=>?_⟩;have st:∀H,bB K H pk ((ks0.map Kd.s).map V.str):=λH=>.inr kt;refine .inr ⟨⟨_,st H3⟩,?_⟩;have kL:∀{H4 H5:Hp},KB [rl] H4 H5->KB [rl] H H4->KB [] H H5:=λa b c o e _=>a _ _ (b _ _ e (by simpa using au e hrl0)) (by simpa using au e hrl0)
   refine zK (xs:=(ks0.map Kd.s).map V.str) (λi σ H'=>∃(acc:List (PV×Nat)) (a:Nat) (o7 o8:Option V),i<=ks0.length/\(qL [c0,c1,c2] z ks0 e=(qL [c0,c1,c2] z (ks0.drop i) a).map λy=>(acc++y.1,y.2))/\acc.length=i/\H' rl=some (.lst (.str W::acc.map λx=>x.1.v x.2))/\KB [] H H'/\σ=[some (.ref ca),some (.str (wd z)),some (.int (p:Nat)),some (.ref t),some (.str W),some (.ref rl),some (.int (a:Nat)),o7,o8]) ⟨[],e,none,none,Kh _,by rw[Ld];cases qL [c0,c1,c2] z ks0 e<;>rfl,rfl,s3,h03,rfl⟩ (λi σ H' _ _=>st H') ?_ ?_
   ·rintro i x σ H' hx ⟨acc,a,o7,o8,hi,ep,hacc,hrl',h0',rfl⟩;have hi2:i<ks0.length:=by have:=(JO.mp hx).1;rw[JK,JK] at this;exact this
    obtain rfl:x=.str (ks0[i]).s:=by
     rw[JW,JW,JI hi2] at hx;exact (Option.some.inj hx).symm
    rw[Lg hi2,qL] at ep;generalize ks0[i]=k at *;unfold bT;refine ay λM hM=>?_;walk_at "rz";refine⟨ca,[c0,c1,c2],z,a,k,rfl,hc.kb h0',hR,hb,hz,λv H5 k5 o5=>?_⟩;rw[hM];clear hM M;have h05:=h0'.trans k5
    cases c3:mf [c0,c1,c2] z a k with
    |none =>
     rw[c3] at ep o5;obtain rfl:v=.aU:=o5;have ep':qL [c0,c1,c2] z ks0 e=none:=ep;rw[ep'] at q;refine ay λM hM=>?_;walk_at "rz";exact q _ _ h05 rfl
    |some x =>
     rw[c3] at ep o5;obtain⟨t5,rfl,ht5⟩:=o5;refine ay λM hM=>?_;exists JN (show ¬ V.ref t5=V.aU from V.noConfusion);rw[hM];clear hM M;refine ay λM hM=>?_;exists aM ht5;have hr5:=k5 _ _ hrl' (by simp)
     refine⟨.inl ⟨rfl,_,cf.of hr5⟩,rl,_,_,rfl,rfl,hr5,Kp (show _<4 by rw[J_,JK];lia) (by decide),?_⟩
     rw[hM];clear hM M;have nt:t5≠rl:=λz=>by rw[z,hr5] at ht5;cases ht5
     have e6:(V.str W::acc.map λx=>x.1.v x.2)++[x.1.v x.2]=.str W::(acc++[x]).map λx=>x.1.v x.2:=by rw[Kg];rfl
     rw[e6];have s6:upd H5 rl (.lst (.str W::(acc++[x]).map λx=>x.1.v x.2)) rl=_:=ae;have ht6:=(ao (o:=HO.lst (.str W::(acc++[x]).map λx=>x.1.v x.2)) (H:=H5) nt).trans ht5;have h06:KB [] H (upd H5 rl (.lst (.str W::(acc++[x]).map λx=>x.1.v x.2))):=λc o e _=>by rw[ao (au e hrl0)];exact h05 _ _ e (by simp)
     generalize upd H5 rl (.lst (.str W::(acc++[x]).map λx=>x.1.v x.2))=H6 at *;dsimp only;refine vc λM hM=>?_;exists aM ht6;rw[hM];refine⟨acc++[x],x.2,some _,some _,hi2,?_,by rw[List.length_append,hacc];rfl,s6,h06,rfl⟩
     rw[ep,M8]
     cases qL [c0,c1,c2] z (ks0.drop (i+1)) x.2 with
     |none=>rfl
     |some y=>show some (acc++(x::y.1),y.2)=some ((acc++[x])++y.1,y.2);rw[Kj];rfl
   ·rintro σ H' ⟨acc,a,o7,o8,_,ep,_,hrl',h0',rfl⟩;rw[JK,JK,M7] at ep;have ep':qL [c0,c1,c2] z ks0 e=some (acc,a):=by rw[ep];show some (acc++[],a)=_;rw[K6]
    rw[ep'] at q;show N _ _;rw[hN];clear hN N;exists aO hrl';intro rt hrt;have k7:KB [] H' (upd H' rt (.tup (.str W::acc.map λx=>x.1.v x.2))):=KB.new hrt;have s7:upd H' rt (.tup (.str W::acc.map λx=>x.1.v x.2)) rt=_:=ae;generalize upd H' rt (.tup (.str W::acc.map λx=>x.1.v x.2))=H7 at *;refine⟨by decide,λtt htt=>q _ _ ((h0'.trans k7).trans (KB.new htt)) ⟨tt,rt,rfl,ae,?_⟩⟩
    rw[ao (au s7 htt),s7];show some (HO.tup (V.str W::_))=some (.tup (RW.v ⟨wi,acc⟩));unfold RW.v;rw[hw9]
noncomputable def NT(ex:List Addr)(H:Hp):Prop:=∀b∈ex,∀xs,H b≠some (.tup xs)
theorem NT.nil(H:Hp):NT [] H:=λb hb=>nomatch hb
theorem bG.nt{p:Addr}{n:Nat}(h:bG H p dq n):NT [p,dq] H:=λb hb xs e=>by
 obtain⟨ys,e'⟩:=h.lst b hb;rw[e] at e';cases e'
noncomputable def wJ(H:Hp)(b:Addr)(bk:List (List Int)):Prop:=∃as:List Addr,H b=some (.tup (as.map V.ref))/\as.length=bk.length/\∀(i:Nat) (a:Addr),as[i]?=some a->H a=some (.tup (iV (bk.getD i [])))
theorem wJ.keep{bk:List (List Int)}(h:wJ H b bk)(k:KB ex H H')(hx:NT ex H):wJ H' b bk:=by
 obtain⟨as,h1,h2,h3⟩:=h;exact⟨as,k _ _ h1 λz=>hx _ z _ h1,h2,λi a e=>k _ _ (h3 i a e) λz=>hx _ z _ (h3 i a e)⟩
theorem wJ.kb{bk:List (List Int)}(h:wJ H b bk)(k:KB [] H H'):wJ H' b bk:=h.keep k (NT.nil _)
theorem vd{l:List α}(h:l.length=3):∃a b c,l=[a,b,c]:=by
 rcases l with _|⟨a,_|⟨b,_|⟨c,_|⟨d,l⟩⟩⟩⟩<;>first|exact⟨_,_,_,rfl⟩ | (exfalso;revert h;simp)
noncomputable def oC(K:W.Frag):Sp:=λvs H Q _=>∃(b:Addr) (bk:List (List Int)),vs=[.ref b]/\wJ H b bk/\Bk bk/\∀ca H',H ca=none->KB [] H H'->uv H' ca (fZ bk)->Q (.ref ca) H'
theorem yY(T:Txt K mg)(F:HasFn K mg "codes_of" fG ["book"])(hcode_of:ax P w K mg base aT 4 "code_of" ["lengths"] (yl K)):ax P w K mg base aT 6 "codes_of" ["book"] (oC K):=by
 refine F.fR pI (λvs H Q E h=>?_) (λf cdv A outer s H vs Q E hr h=>?_)
 ·obtain⟨b,bk,rfl,_⟩:=h;rfl
 ·have hu:=aR hr;obtain⟨b,bk,rfl,hb,hB,q⟩:=h;obtain⟨as,hb1,hb2,hb3⟩:=hb;obtain⟨l0,l1,l2,rfl,_,_,_,hl⟩:=hB;refine⟨_,(Z.aA (Z.ret (Z.C_ (osc:=af fG) (ON:=["book"]) (own:=["lengths"]) (N:=["lengths","book"]) (aQ.of rfl (by decide +kernel)) (Z.any K rfl (Z.v 0)) (λnd _ _ _ _=>(Z.bu (i:=0) nd rfl (by right))) (λ_ _ _ _=>Z.vy) (λ_ _ _ _=>(Z.fc hcode_of (Z.cons (Z.v 0) Z.nil)))))),?_⟩
  exists aM hb1;refine cE (xs:=as.map V.ref) (JX (show _<=3 by rw[JK,hb2];exact JS 3) (by decide)) (λD i ys H'=>H D=none/\H' D=some (.lst ys)/\KB [] H H'/\∃cs:List Addr,ys=cs.map V.ref/\cs.length=i/\∀(j:Nat) (c:Addr),cs[j]?=some c->H' c=some (.tup (wV (wordsOf Cw.gu (List.getD [l0,l1,l2] j []))))) (λD hD=>⟨hD,ae,KB.new hD,[],rfl,rfl,λj c e=>nomatch e⟩) (λD i ys H' h=>⟨h.2.1,by obtain⟨_,_,_,cs,rfl,e,_⟩:=h;rw[JK,e]⟩) (λD i ys H' h=>bB.of (h.2.2.1 _ _ hb1 (by simp))) ?_ ?_
  ·rintro D i ys H' x R hx ⟨g0,g1,g2,cs,rfl,g4,g5⟩ kk;obtain⟨a,ea,rfl⟩:∃a,as[i]?=some a/\x=.ref a:=by
    rw[JW] at hx;obtain⟨a,e,rfl⟩:=Km.mp hx;exact⟨a,e,rfl⟩
   have hi:i<3:=by have:=(JO.mp ea).1;rw[hb2] at this;exact this
   have hm:List.getD [l0,l1,l2] i []∈[l0,l1,l2]:=by
    rcases mq hi with rfl|rfl|rfl<;>simp
   walk_at "rz";refine⟨a,_,rfl,g2 _ _ (hb3 i a ea) (by simp),(hl _ hm).1,(hl _ hm).2,λc H5 k5 e5=>?_⟩
   have gD:=k5 _ _ g1 (by simp)
   have cD:c≠D:=λz=>by rw[z,gD] at e5;cases e5
   refine kk _ _ gD ⟨g0,ae,λu o e _=>by rw[ao (au e g0)];exact k5 _ _ (g2 _ _ e (by simp)) (by simp),cs++[c],by rw[Kg];rfl,by rw[JL,g4];rfl,λj d e=>?_⟩
   rcases KG j cs.length with hj|hj
   ·rw[Ks hj] at e;have e6:=k5 _ _ (g5 j d e) (by simp)
    rw[ao (λz=>by rw[z,gD] at e6;cases e6)];exact e6
   ·rw[Kk hj] at e;obtain⟨hj2,rfl⟩:=JO.mp e;have:j=i:=by simp at hj2;lia
    subst this;rw[ao (show _≠D by simpa using cD)]
    simpa using e5
  ·rintro D ys H' ⟨g0,g1,g2,cs,rfl,g4,g5⟩;rw[JK,hb2] at g4;obtain⟨c0,c1,c2,rfl⟩:=vd g4;exact q D H' g0 g2 ⟨c0,c1,c2,g1,g5 0 c0 rfl,g5 1 c1 rfl,g5 2 c2 rfl⟩
noncomputable def xf(K:W.Frag):Sp:=λvs H Q _=>∃(p dq:Addr) (n:Nat),vs=[.ref p]/\bG H p dq n/\n<2^38/\∀(bk:List (List Int)) (b:Addr) H',bG H' p dq (n+200)->KB [p,dq] H H'->wJ H' b bk->Bk bk->Q (.ref b) H'
theorem BH(T:Txt K mg)(F:HasFn K mg "_law_book" eV ["deck"])(h_law_draw:ax P w K mg base aT 2 "_law_draw" ["deck","most"] eZ)(h_law_lengths:ax P w K mg base aT 3 "_law_lengths" ["deck","many"] (qR K)):ax P w K mg base aT 4 "_law_book" ["deck"] (xf K):=by
 refine F.fR nJ (λvs H Q E h=>?_) (λf cdv A outer s H vs Q E hr h=>?_)
 ·obtain⟨p,dq,n,rfl,_⟩:=h;rfl
 ·have hu:=aR hr;obtain⟨p,dq,n,rfl,hd,hn,q⟩:=h;refine⟨_,(Z.aq (Z.dJ (Z.aZ b8 (Z.fc h_law_draw (Z.cons (Z.v 0) (Z.cons Z.int Z.nil))) Z.int) (Z.aA (Z.ret (Z.tup (Z.cons (Z.op (Y.oF K rfl) (Z.tup (Z.cons Z.int Z.nil)) Z.int) (Z.cons (Z.op (Y.oF K rfl) (Z.tup (Z.cons Z.int Z.nil)) Z.int) (Z.cons (Z.op (Y.oF K rfl) (Z.tup (Z.cons Z.int Z.nil)) Z.int) Z.nil)))))) Z.bN)
   (Z.aA (Z.ret (Z.ct (Z.cQ K rfl) rfl T.cO (by decide +kernel) (Z.cons (Z.C_ (osc:=af eV) (ON:=["deck"]) (own:=["many"]) (N:=["many","deck"]) (aQ.of rfl (by decide +kernel)) (Z.any K rfl (Z.tup (Z.consts rfl))) (λnd _ _ _ _=>(Z.bu (i:=0) nd rfl (by right))) (λ_ _ _ _=>Z.vy) (λ_ _ _ _=>(Z.fc h_law_lengths (Z.cons (Z.v 1) (Z.cons (Z.v 0) Z.nil))))) Z.nil))))),?_⟩
  refine ay λN hN=>?_;walk_at "rz";refine⟨p,dq,4,_,rfl,hd,by lia,by decide,by decide,λv H1 hv D1 k1=>?_⟩
  by_cases c:(v:Int)=0
  ·exists JQ c;have rep:∀(G:Hp) (j k:Int) (Q:VK),1<k->k<=20->(∀t u G',KB [] G G'->G t=none->u≠t->G' u=some (.tup (iV (List.replicate k.toNat j)))->Q (.ref u) G')->(0+1<=sizeLine/\∀t,G t=none->Y.CZ K (.ref t) (.int k) (upd G t (.tup [.int j])) Q):=λG j k Q h1 h2 q=>by
    refine⟨by decide,λt ht=>.inr ⟨t,k,_,rfl,rfl,bB.of ae,by simp,(show 1<=1000 by decide),h1,by lia,λu hu=>?_⟩⟩
    have e:(List.replicate k.toNat [V.int j]).flatten=iV (List.replicate k.toNat j):=by
     unfold iV;rw[List.map_replicate];generalize k.toNat=m
     induction m with
     |zero=>rfl
     |succ m ih=>rw[K4,Mh,ih];rfl
    rw[e];have ut:u≠t:=λz=>by rw[z,ae] at hu;cases hu
    exact q t u _ ((KB.new ht).trans (KB.new hu)) ht ut ae
   refine rep H1 4 9 _ (by decide) (by decide) λt1 u1 G1 g1 _ _ e1=>?_
   refine rep G1 5 17 _ (by decide) (by decide) λt2 u2 G2 g2 _ _ e2=>?_
   refine rep G2 3 8 _ (by decide) (by decide) λt3 u3 G3 g3 _ _ e3=>⟨by decide,λb hb=>?_⟩
   have kk:KB [] H1 (upd G3 b (.tup [.ref u1,.ref u2,.ref u3])):=((g1.trans g2).trans g3).trans (KB.new hb);have up:∀{x:Addr} {o:HO},G3 x=some o->upd G3 b (.tup [.ref u1,.ref u2,.ref u3]) x=some o:=λe=>by rw[ao (au e hb)];exact e
   refine q [List.replicate 9 4,List.replicate 17 5,List.replicate 8 3] b _ ((D1.kb kk).mono (by lia)) (k1.trans kk.all) ⟨[u1,u2,u3],ae,rfl,λi a e=>?_⟩ ⟨_,_,_,rfl,rfl,rfl,rfl,λl hl=>?_⟩
   ·have hi:i<3:=(JO.mp e).1;rcases mq hi with rfl|rfl|rfl
    ·cases e;exact up (g3 _ _ (g2 _ _ e1 (by simp)) (by simp))
    ·cases e;exact up (g3 _ _ e2 (by simp))
    ·cases e;exact up e3
   have rr:∀(n:Nat) (k:Int),0<n->n<=20->1<=k->k<=20->lZ (List.replicate n k):=λn k a b c d=>⟨by rw[Kb];exact a,by rw[Kb];exact b,λx hx=>by rw[(KU.mp hx).2];lia⟩
   rcases JR.mp hl with rfl|hl
   ·exact⟨rr 9 4 (by decide) (by decide) (by decide) (by decide),by decide +kernel⟩
   ·rcases JR.mp hl with rfl|hl
    ·exact⟨rr 17 5 (by decide) (by decide) (by decide) (by decide),by decide +kernel⟩
    ·rw[Ka.mp hl];exact⟨rr 8 3 (by decide) (by decide) (by decide) (by decide),by decide +kernel⟩
  ·exists JN c;rw[hN];clear hN N;walk_at "rz";refine⟨by decide,λt ht=>?_⟩
   have k2:KB [] H1 (upd H1 t (.tup [.int 9,.int 17,.int 8])):=KB.new ht;have s2:upd H1 t (.tup [.int 9,.int 17,.int 8]) t=some (.tup (iV [9,17,8])):=ae;generalize upd H1 t (.tup [.int 9,.int 17,.int 8])=H2 at *;have D2:=D1.kb k2;refine cE (xs:=iV [9,17,8]) (by decide) (λD i ys H'=>H2 D=none/\H' D=some (.lst ys)/\bG H' p dq (n+1+60*i)/\KB [p,dq] H2 H'/\∃(as:List Addr) (done:List (List Int)),ys=as.map V.ref/\as.length=i/\done.map List.length=[9,17,8].take i/\(∀l∈done,lZ l/\qd l=true)/\∀(j:Nat) (a:Addr),as[j]?=some a->H' a=some (.tup (iV (done.getD j [])))) (λD hD=>⟨hD,ae,D2.kb (KB.new hD),KB.new hD,[],[],rfl,rfl,rfl,(λl h=>nomatch h),λj a e=>nomatch e⟩) (λD i ys H' h=>⟨h.2.1,by obtain⟨_,_,_,_,as,_,rfl,e,_⟩:=h;rw[JK,e]⟩) (λD i ys H' h=>bB.of (h.2.2.2.1 _ _ s2 λz=>D2.nt _ z _ s2)) ?_ ?_
   ·rintro D i ys H' x R hx ⟨g0,g1,gd,gk,as,done,rfl,ga,gl,gok,gat⟩ kk;obtain⟨hi,rfl⟩:=rV hx;have nD:=D2.new g0;have dl:done.length=i:=by
     have:=K7 List.length gl;rw[JK,Ki] at this;have h3:([9,17,8]:List Nat).length=3:=rfl;have hi3:i<3:=hi;lia
    have key:∀m:Nat,2<=m->m<=17->([9,17,8]:List Nat).take (i+1)=([9,17,8]:List Nat).take i++[m]->qR K [.ref p,.int (m:Nat)] H' R E0:=λm m2 m17 em=>by
     refine⟨p,dq,m,_,rfl,gd,by have:i<3:=hi;lia,m2,m17,λls a H5 D5 k5 e5 l1 l2 l3=>?_⟩
     have gD:=k5 _ _ g1 nD;have aD:a≠D:=λz=>by rw[z,gD] at e5;cases e5
     have pD:p≠D:=λz=>nD (by simp[z])
     have qD:dq≠D:=λz=>nD (by simp[z])
     refine kk _ _ gD ⟨g0,ae,(D5.keep (KB.set (ex:=[D]) (by simp)) (by simpa using pD) (by simpa using qD)).mono (by lia),λu o e z=>by rw[ao (au e g0)];exact k5 _ _ (gk _ _ e z) z,as++[a],done++[ls],by rw[Kg];rfl,by rw[JL,ga];rfl,by rw[Kg,gl,em];rw[Ku,l1];rfl,λl hl=>?_,λj b e=>?_⟩
     ·rcases K8.mp hl with hl|hl
      ·exact gok l hl
      ·rw[Ka.mp hl];exact⟨l2,l3⟩
     ·rcases KG j as.length with hj|hj
      ·rw[Ks hj] at e;have e6:=gd.tup k5 (gat j b e);rw[ao (λz=>by rw[z,gD] at e6;cases e6),e6,JY,JY,Ks (by lia)]
      ·rw[Kk hj] at e;obtain⟨hj2,rfl⟩:=JO.mp e;have hj3:j=as.length:=by simp at hj2;lia
       subst hj3;simp only[Li,MV];rw[ao aD,e5,JY,Kk (by lia),show as.length-done.length=0 by lia]
       rfl
    walk_at "rz";rcases mq (show i<3 from hi) with rfl|rfl|rfl
    ·exact key 9 (by decide) (by decide) rfl
    ·exact key 17 (by decide) (by decide) rfl
    ·exact key 8 (by decide) (by decide) rfl
   ·rintro D ys H' ⟨g0,g1,gd,gk,as,done,rfl,ga,gl,gok,gat⟩;exists aO g1;intro b hb;have gl':done.map List.length=[9,17,8]:=gl;have h3:done.length=3:=by have:=K7 List.length gl';rw[JK] at this;exact this
    obtain⟨x,y,z,rfl⟩:=vd h3;simp only[Ku,Ml,List.cons.injEq] at gl';refine q [x,y,z] b _ ((gd.kb (KB.new hb)).mono (by show n+1+60*3<=_;lia)) (k1.trans (k2.all.trans (gk.trans (KB.new hb)))) ⟨as,ae,by rw[ga];rfl,λj a e=>?_⟩ ⟨x,y,z,rfl,gl'.1,gl'.2.1,gl'.2.2.1,gok⟩
    have:=gat j a e;rw[ao (au this hb)];exact this
noncomputable def pR:Sp:=λvs H Q _=>∃(p dq:Addr) (n:Nat),vs=[.ref p]/\bG H p dq n/\n<2^40/\∀(v:Nat) H',bG H' p dq (n+2)->KB [p,dq] H H'->v<65536->Q (.int (v:Nat)) H'
theorem wc(T:Txt K mg)(F:HasFn K mg "_law_number" fk ["deck"])(h_law_draw:ax P w K mg base aT 2 "_law_draw" ["deck","most"] eZ):ax P w K mg base aT 3 "_law_number" ["deck"] pR:=by
 refine F.fR dX (λvs H Q E h=>?_) (λf cdv A outer s H vs Q E hr h=>?_)
 ·obtain⟨p,dq,n,rfl,_⟩:=h;rfl
 ·have hu:=aR hr;obtain⟨p,dq,n,rfl,hd,hn,q⟩:=h;refine⟨_,(Z.aq (Z.se (i:=1) dX.nd (Z.fc h_law_draw (Z.cons (Z.v 0) (Z.cons Z.int Z.nil))))
   (Z.aq (Z.dJ (Z.aZ b8 (Z.v 1) Z.int) (Z.aA (Z.ret Z.int)) Z.bN)
   (Z.aq (Z.se (i:=2) dX.nd (Z.op E8 Z.int (Z.op dI (Z.v 1) Z.int)))
   (Z.aA (Z.ret (Z.op (Z.bp K rfl) (Z.v 2) (Z.fc h_law_draw (Z.cons (Z.v 0) (Z.cons (Z.v 2) Z.nil))))))))),?_⟩
  refine ay λN hN=>?_;walk_at "rz";refine⟨p,dq,17,n,rfl,hd,by lia,by decide,by decide,λz H1 hz D1 k1=>?_⟩
  rw[hN];clear hN N;refine ay λN hN=>?_;by_cases a0:(z:Int)=0
  ·exists JQ a0;exact q 0 H1 (D1.mono (by lia)) k1 (by decide)
  ·exists JN a0;rw[hN];clear hN N;refine ay λN hN=>?_;walk_at "rz";refine⟨⟨by lia,by lia,by decide⟩,?_⟩
   rw[hN];clear hN N;obtain⟨j,ej,hj⟩:∃j:Nat,((z:Int)-1).toNat=j/\j<=15:=⟨_,rfl,by lia⟩
   rw[ej,Int.one_mul];have p1:(0:Int)<2^j:=O5 (by decide)
   have p2:(2:Int)^j<=2^15:=by
    have:2^j<=2^15:=Nr (by decide) hj
    exact_mod_cast this
   generalize (2:Int)^j=t at p1 p2;walk_at "rz";refine⟨p,dq,t,n+1,rfl,D1,by lia,p1,by lia,λv H2 hv D2 k2=>?_⟩
   walk_at "rz";obtain⟨k,ek⟩:∃k:Nat,t+(v:Int)=k:=⟨(t+(v:Int)).toNat,by lia⟩
   rw[ek];exact q k H2 D2 (k1.trans k2) (by lia)
theorem two8{c:Nat}(h1:(c:Int)<2):∃m:Int,cI [V.int 2,.int 8] (c:Int)=some (.int m)/\0<m/\m<=8:=by
 have:c=0\/c=1:=by lia
 rcases this with rfl|rfl
 ·exact⟨2,rfl,by decide,by decide⟩
 ·exact⟨8,rfl,by decide,by decide⟩
theorem oW{p:Addr}{n:Nat}(D:bG H p dq n)(hn:n<2^49)(q:∀b H',b<8->bG H' p dq (n+2)->KB [p,dq] H H'->Q (.str (bY b)) H'):
  0+1+1<=sizeLine/\∀m,H m=none->eZ [.ref p,.int 2] (upd H m (.lst [.int 2,.int 8])) (λy H2=>BP K (.ref m) y H2 λx H1=>eZ [.ref p,x] H1 (λy H2=>BP K (.str (Str.ofString "abcdefgh")) y H2 Q) E0) E0:=by
 refine⟨by decide,λm hm=>⟨p,dq,2,n,rfl,D.kb (KB.new hm),by lia,by decide,by decide,λd H2 hd D2 k2=>?_⟩⟩
 have s2:=aO (k2 m _ ae (D.new hm));have kk:KB [p,dq] H H2:=(KB.new hm).trans k2;obtain⟨x,ha,x0,x8⟩:=two8 hd;exists s2,ha;refine⟨p,dq,x,n+1,rfl,D2,by lia,x0,by lia,λy H3 hy D3 k3=>?_⟩
 have hb:=zk (show 0<=(y:Int) by lia) (show (y:Int)<8 by lia)
 exists hb;exact⟨by decide +kernel,q y H3 (by lia) D3 (kk.trans k3)⟩
noncomputable def DO(K:W.Frag):Sp:=λvs H Q _=>∃(p dq:Addr) (many n:Nat),vs=[.ref p,.int (many:Nat)]/\bG H p dq n/\n<2^38/\many<1000/\∀(r:Row) (a:Addr) H',r.Ok many->H' a=some (.tup r.vs)->bG H' p dq (n+5)->KB [p,dq] H H'->Q (.ref a) H'
theorem FV(T:Txt K mg)(F:HasFn K mg "_law_row" ic ["deck","goals"])(h_law_draw:ax P w K mg base aT 2 "_law_draw" ["deck","most"] eZ)(h_law_number:ax P w K mg base aT 3 "_law_number" ["deck"] pR):ax P w K mg base aT 4 "_law_row" ["deck","goals"] (DO K):=by
 refine F.fR eW (λvs H Q E h=>?_) (λf cdv A outer s H vs Q E hr h=>?_)
 ·obtain⟨p,dq,many,n,rfl,_⟩:=h;rfl
 ·have hu:=aR hr;obtain⟨p,dq,many,n,rfl,hd,hn,hmy,q⟩:=h;refine⟨_,(Z.aq (Z.se (i:=2) eW.nd (Z.lst (Z.consts rfl)))
   (Z.aq (Z.se (i:=3) eW.nd (Z.ix (Z.aP K rfl hu) (Z.v 2) (Z.fc h_law_draw (Z.cons (Z.v 0) (Z.cons Z.int Z.nil)))))
   (Z.aq (Z.se (i:=4) eW.nd (Z.ix (Z.aP K rfl hu) Z.str (Z.fc h_law_draw (Z.cons (Z.v 0) (Z.cons (Z.ix (Z.aP K rfl hu) (Z.lst (Z.consts rfl)) (Z.fc h_law_draw (Z.cons (Z.v 0) (Z.cons Z.int Z.nil)))) Z.nil)))))
   (Z.aq (Z.dJ (Z.aZ b8 (Z.v 3) Z.str) (Z.aA (Z.ret (Z.tup (Z.cons (Z.v 3) (Z.cons (Z.v 4) (Z.cons (Z.fc h_law_number (Z.cons (Z.v 0) Z.nil)) Z.nil)))))) Z.bN)
   (Z.aq (Z.dJ (Z.aZ (Z.HA K rfl hu) (Z.v 3) (Z.tup (Z.consts rfl))) (Z.aA (Z.ret (Z.tup (Z.cons (Z.v 3) (Z.cons (Z.v 4) (Z.cons (Z.ix (Z.aP K rfl hu) Z.str (Z.fc h_law_draw (Z.cons (Z.v 0) (Z.cons (Z.ix (Z.aP K rfl hu) (Z.lst (Z.consts rfl)) (Z.fc h_law_draw (Z.cons (Z.v 0) (Z.cons Z.int Z.nil)))) Z.nil)))) Z.nil)))))) Z.bN)
   (Z.aq (Z.dJ (Z.aZ (Z.HA K rfl hu) (Z.v 3) (Z.tup (Z.consts rfl))) (Z.aA (Z.ret (Z.tup (Z.cons (Z.v 3) (Z.cons (Z.v 4) Z.nil))))) Z.bN)
   (Z.aq (Z.dJ (Z.aZ b8 (Z.v 3) Z.str) (Z.aA (Z.ret (Z.tup (Z.cons (Z.v 3) (Z.cons (Z.fc h_law_draw (Z.cons (Z.v 0) (Z.cons (Z.op (Z.bp K rfl) (Z.v 1) Z.int) Z.nil))) Z.nil))))) Z.bN)
   (Z.aq (Z.dJ (Z.aZ b8 (Z.v 3) Z.str) (Z.aA (Z.ret (Z.tup (Z.cons (Z.v 3) (Z.cons (Z.v 4) (Z.cons (Z.fc h_law_draw (Z.cons (Z.v 0) (Z.cons (Z.op (Z.bp K rfl) (Z.v 1) Z.int) Z.nil))) Z.nil)))))) Z.bN)
   (Z.aA (Z.ret (Z.tup (Z.cons (Z.v 3) Z.nil)))))))))))),?_⟩
  refine ay λN hN=>?_;walk_at "rz";refine⟨by decide,λl hl=>?_⟩
  have k1:KB [] H (upd H l (.lst [.str (Str.ofString "put"),.str (Str.ofString "put"),.str (Str.ofString "add"),.str (Str.ofString "sub"),.str (Str.ofString "copy"),.str (Str.ofString "tell"),.str (Str.ofString "tell"),.str (Str.ofString "hear"),.str (Str.ofString "jump"),.str (Str.ofString "zero"),.str (Str.ofString "zero"),.str (Str.ofString "halt")])):=KB.new hl;have s1:upd H l (.lst [.str (Str.ofString "put"),.str (Str.ofString "put"),.str (Str.ofString "add"),.str (Str.ofString "sub"),.str (Str.ofString "copy"),.str (Str.ofString "tell"),.str (Str.ofString "tell"),.str (Str.ofString "hear"),.str (Str.ofString "jump"),.str (Str.ofString "zero"),.str (Str.ofString "zero"),.str (Str.ofString "halt")]) l=_:=ae;generalize upd H l _=H1 at *;have D1:=hd.kb k1;have nl:=hd.new hl;rw[hN];clear hN N;refine ay λN hN=>?_;walk_at "rz";refine⟨p,dq,12,n,rfl,D1,by lia,by decide,by decide,λc H2 hc D2 k2=>?_⟩
  have s2:=k2 _ _ s1 nl;obtain⟨v,hv,ha⟩:=Fe (xs:=[V.str (Str.ofString "put"),.str (Str.ofString "put"),.str (Str.ofString "add"),.str (Str.ofString "sub"),.str (Str.ofString "copy"),.str (Str.ofString "tell"),.str (Str.ofString "tell"),.str (Str.ofString "hear"),.str (Str.ofString "jump"),.str (Str.ofString "zero"),.str (Str.ofString "zero"),.str (Str.ofString "halt")]) (i:=c) hc;exists aO s2,ha;have kk2:KB [p,dq] H H2:=k1.all.trans k2;clear ha hc k1 k2 s1 s2 nl hl;rw[hN];clear hN N;refine ay λN hN=>?_;walk_at "rz";refine oW D2 (by lia) λbn H3 hb8 D3 k3=>?_
  have kk3:=kk2.trans k3;clear k3 D2 kk2 D1;rw[hN];clear hN N;have hv6:v=.str "put"\/(∃w,v=.str (w2 w))\/(∃w,v=.str (w1 w))\/v=.str "jump"\/v=.str "zero"\/v=.str "halt":=by
   simp only[JR,Kt,La] at hv;rcases hv with h|h|h|h|h|h|h|h|h|h|h|h<;>subst h<;>first|exact .inl rfl|exact .inr (.inl ⟨0,rfl⟩)|exact .inr (.inl ⟨1,rfl⟩)|exact .inr (.inl ⟨2,rfl⟩)|exact .inr (.inr (.inl ⟨0,rfl⟩))|exact .inr (.inr (.inl ⟨1,rfl⟩))|exact .inr (.inr (.inr (.inl rfl)))|exact .inr (.inr (.inr (.inr (.inl rfl))))|exact .inr (.inr (.inr (.inr (.inr rfl))))
  clear hv;have tell:∀(r:Row) (G:Hp) (m:Nat),r.Ok many->bG G p dq m->m<=n+5->KB [p,dq] H G->∀t,G t=none->Q (.ref t) (upd G t (.tup r.vs)):=λr G m ok D hm k t ht=>q r t _ ok ae ((D.kb (KB.new ht)).mono hm) (k.trans (KB.new ht));refine ay λN hN=>?_;rcases hv6 with rfl|⟨u,rfl⟩|⟨u,rfl⟩|hv
  ·exists (show (Str.ofString "put"=Str.ofString "put")=True from eq_true rfl),Mn;refine⟨p,dq,n+3,rfl,D3,by lia,λk H4 D4 k4 hk=>⟨by decide,λt ht=>?_⟩⟩
   exact tell (.put bn k) H4 _ ⟨hb8,hk⟩ D4 (by lia) (kk3.trans k4) t ht
  ·have n1:∀u,w2 u≠"put":=by decide +kernel
   have i1:∀u,qI (.str (w2 u)) [.str "add",.str "sub",.str "copy"]=true:=by decide +kernel
   exists JN (n1 u);rw[hN];clear hN N;refine ay λN hN=>?_;exists i1 u;refine⟨by decide,λt0 ht0=>⟨rfl,rfl,?_⟩⟩
   refine oW (D3.kb (KB.new ht0)) (by lia) λb2 H4 hb2 D4 k4=>⟨by decide,λt ht=>?_⟩
   exact tell (.two u bn b2) H4 _ ⟨hb8,hb2⟩ D4 (by lia) ((kk3.trans (KB.new ht0)).trans k4) t ht
  ·have n1:∀u,w1 u≠"put":=by decide +kernel
   have i1:∀u,qI (.str (w1 u)) [.str "add",.str "sub",.str "copy"]=false:=by decide +kernel
   have i2:∀u,qI (.str (w1 u)) [.str "tell",.str "hear"]=true:=by decide +kernel
   exists JN (n1 u);rw[hN];clear hN N;refine ay λN hN=>?_;exists i1 u;refine⟨by decide,λt0 ht0=>⟨rfl,rfl,?_⟩⟩
   rw[hN];clear hN N;refine ay λN hN=>?_;exists i2 u;refine⟨by decide,λt1 ht1=>⟨rfl,rfl,by decide,λt ht=>?_⟩⟩
   exact tell (.one u bn) _ _ hb8 ((D3.kb (KB.new ht0)).kb (KB.new ht1)) (by lia) ((kk3.trans (KB.new ht0)).trans (KB.new ht1)) t ht
  ·have n1:∀z∈([("jump"),("zero"),("halt")]:List Str),z≠"put"/\qI (.str z) [.str "add",.str "sub",.str "copy"]=false/\qI (.str z) [.str "tell",.str "hear"]=false:=by decide +kernel
   obtain⟨z,hz,rfl⟩:∃z∈([("jump"),("zero"),("halt")]:List Str),v=.str z:=by rcases hv with rfl|rfl|rfl<;>exact⟨_,by simp,rfl⟩
   obtain⟨e1,e2,e3⟩:=n1 z hz;exists JN e1;rw[hN];clear hN N;refine ay λN hN=>?_;exists e2;refine⟨by decide,λt0 ht0=>⟨rfl,rfl,?_⟩⟩
   rw[hN];clear hN N;refine ay λN hN=>?_;exists e3;refine⟨by decide,λt1 ht1=>⟨rfl,rfl,?_⟩⟩
   have D4:=(D3.kb (KB.new (o:=.tup [.str "add",.str "sub",.str "copy"]) ht0)).kb (KB.new (o:=.tup [.str "tell",.str "hear"]) ht1);have kk4:=(kk3.trans (KB.new (o:=.tup [.str "add",.str "sub",.str "copy"]) ht0)).trans (KB.new (o:=.tup [.str "tell",.str "hear"]) ht1);rw[hN];clear hN N;generalize upd (upd H3 t0 _) t1 _=H4 at *;refine ay λN hN=>?_;rcases hv with hv|hv
   ·cases hv;exists JQ (rfl:Str.ofString "jump"=Str.ofString "jump");refine⟨p,dq,(many:Int)+1,n+3,rfl,D4,by lia,by lia,by lia,λg H5 hg D5 k5=>⟨by decide,λt ht=>?_⟩⟩
    exact tell (.jump g) H5 _ (show g<=many by lia) D5 (by lia) (kk4.trans k5) t ht
   ·have nh:z≠"jump":=by rcases hv with hv|hv<;>cases hv<;>decide +kernel
    exists JN nh;rw[hN];clear hN N;refine ay λN hN=>?_;rcases hv with hv|hv
    ·cases hv;exists JQ (rfl:Str.ofString "zero"=Str.ofString "zero");refine⟨p,dq,(many:Int)+1,n+3,rfl,D4,by lia,by lia,by lia,λg H5 hg D5 k5=>⟨by decide,λt ht=>?_⟩⟩
     exact tell (.zero bn g) H5 _ ⟨hb8,(show g<=many by lia)⟩ D5 (by lia) (kk4.trans k5) t ht
    ·cases hv;have nz:Str.ofString "halt"≠Str.ofString "zero":=by decide +kernel
     exists JN nz;rw[hN];clear hN N;walk_at "rz";exact⟨by decide,λt ht=>tell .halt H4 _ trivial D4 (by lia) kk4 t ht⟩
noncomputable def PA(H:Hp)(as:List Addr)(rs:List Row):Prop:=as.length=rs.length/\∀(i:Nat) (q:Addr) (r:Row),as[i]?=some q->rs[i]?=some r->H q=some (.tup r.vs)
theorem PA.snoc{rs:List Row}{r:Row}(h:PA H as rs)(e:H q=some (.tup r.vs)):PA H (as++[q]) (rs++[r]):=by
 refine⟨by rw[JL,JL,h.1];rfl,λi q' r' e1 e2=>?_⟩
 rcases KG i as.length with hi|hi
 ·rw[Ks hi] at e1;rw[Ks (by rw[<- h.1];exact hi)] at e2
  exact h.2 i q' r' e1 e2
 ·have h1:=h.1;rw[Kk hi] at e1;rw[Kk (by lia),<- h1] at e2
  obtain⟨hj,rfl⟩:=JO.mp e1;obtain⟨hj2,rfl⟩:=JO.mp e2;have:i-as.length=0:=by simp at hj;lia
  simp only[this,MV];exact e
theorem PA.keep{rs:List Row}(h:PA H as rs)(k:KB ex H H')(hx:NT ex H):PA H' as rs:=⟨h.1,λi q r e1 e2=>k _ _ (h.2 i q r e1 e2) λz=>hx q z _ (h.2 i q r e1 e2)⟩
theorem ER{D:Addr}(h:H D=some (.lst ys)):NT [D] H:=λb hb xs e=>by
 rw[Ka.mp hb,h] at e;cases e
noncomputable def jy(H:Hp)(a:Addr)(rs:List Row):Prop:=∃as:List Addr,H a=some (.tup (as.map V.ref))/\PA H as rs
theorem jy.keep{rs:List Row}(h:jy H a rs)(k:KB ex H H')(hx:NT ex H):jy H' a rs:=by
 obtain⟨as,h1,h2⟩:=h;exact⟨as,k _ _ h1 λz=>hx a z _ h1,h2.keep k hx⟩
theorem jy.kb{rs:List Row}(h:jy H a rs)(k:KB [] H H'):jy H' a rs:=h.keep k (NT.nil _)
noncomputable def cq:Option Nat->V
 |none=>.aU
 |some t=>.int (t:Nat)
noncomputable def An:Sp:=λvs H Q _=>∃(n m:Int),vs=[.int n,.int m]/\-1<=m/\m<=40/\Q (.str (wd (bX n m.toNat []))) H
theorem Fc(T:Txt K mg)(F:HasFn K mg "last_figures" eA ["number","many"]):ax P w K mg base aT 1 "last_figures" ["number","many"] An:=by
 refine F.fR bQ (λvs H Q E h=>?_) (λf cdv A outer s H vs Q E hr h=>?_)
 ·obtain⟨n,m,rfl,_⟩:=h;rfl
 ·have hu:=aR hr;obtain⟨n,m,rfl,hm0,hm,q⟩:=h;refine⟨_,(Z.aq (Z.se (i:=2) bQ.nd Z.str)
   (Z.aq (Z.se (i:=3) bQ.nd (Z.v 0))
   (Z.aq (Z.iW K1 rfl (Z.Aj rfl T.gP (Z.cons (Z.v 1) Z.nil)) (Z.bu (i:=4) bQ.nd rfl (by right)) (Z.aq (Z.se (i:=2) bQ.nd (Z.op (Z.bp K rfl) (Z.ct vO rfl T.Gu (by decide +kernel) (Z.cons (Z.op cU (Z.v 3) Z.int) Z.nil)) (Z.v 2)))
   (Z.aA (Z.se (i:=3) bQ.nd (Z.op oz (Z.v 3) Z.int)))))
   (Z.aA (Z.ret (Z.v 2)))))),?_⟩
  refine ay λN hN=>?_;walk_at "rz";rw[hN];clear hN N;refine ay λN hN=>?_;walk_at "rz";rw[hN];clear hN N;refine ay λN hN=>?_;walk_at "rz";refine⟨by lia,by lia,?_⟩
  have hk:m.toNat<=40:=by lia
  generalize m.toNat=k at *;refine eF (λi σ H'=>∃(l:Int) (acc:List Nat) (o:Option V),H'=H/\i<=k/\bX l (k-i) acc=bX n k []/\acc.length=i/\σ=[some (.int n),some (.int m),some (.str (wd acc)),some (.int l),o]) ⟨n,[],none,rfl,Kh _,rfl,rfl,by rw[yT]⟩ ?_ ?_
  ·rintro i σ H' hi ⟨l,acc,o,rfl,_,e,hl,rfl⟩;unfold bT;refine ay λM hM=>?_;exists Gb;rw[lO,bE,bE];refine⟨by decide,by rcases Int.emod_two_eq l with h|h<;>rw[h]<;>decide,JX (show _<=50 by simp;lia) (by decide),?_⟩
   rw[hM];clear hM M;refine vc λM hM=>?_;walk_at "rz";refine⟨⟨by decide,by decide⟩,?_⟩
   rw[hM];refine⟨l / 2,dg l::acc,some _,rfl,hi,?_,by rw[J_,hl],rfl⟩
   rw[<- e,show k-i=(k-(i+1))+1 by lia]
   rfl
  ·rintro σ H' ⟨l,acc,o,rfl,_,e,_,rfl⟩;show N _ _;rw[hN];clear hN N;walk_at "rz";rw[Li] at e;rw[<- e] at q;exact q
theorem qS(n:Nat):bX (n:Int) (((bM n:Nat):Int)-1).toNat []=(fe n).tail:=by
 unfold fe
 cases e:bM n with
 |zero=>rfl
 |succ b =>
  obtain⟨d,ed⟩:=jY b (n:Int) [];rw[ed,show (((b+1:Nat):Int)-1).toNat=b by lia];rfl
noncomputable def m4:Sp:=λvs H Q _=>∃(n:Nat),vs=[.int (n:Nat)]/\n<65536/\Q (.str (wd (fe n).tail)) H
theorem sk(T:Txt K mg)(F:HasFn K mg "figures_behind_first" cw ["number"])(hlast_figures:ax P w K mg base aT 1 "last_figures" ["number","many"] An):ax P w K mg base aT 2 "figures_behind_first" ["number"] m4:=by
 refine F.fR f7 (λvs H Q E h=>?_) (λf cdv A outer s H vs Q E hr h=>?_)
 ·obtain⟨n,rfl,_⟩:=h;rfl
 ·have hu:=aR hr;obtain⟨n,rfl,hn,q⟩:=h;have hb:=jQ hn;refine⟨_,(Z.aA (Z.ret (Z.fc hlast_figures (Z.cons (Z.v 0) (Z.cons (Z.op dI (Z.Jm K rfl PySem.F.plainAttrs_int PySem.F.slot_int_bit_length PySem.F.type_int_bit_length Y.um (Z.v 0)) Z.int) Z.nil))))),?_⟩;walk_at "rz";refine⟨rfl,?_⟩;refine⟨_,rfl,rfl,?_⟩;walk_at "rz";refine⟨_,_,rfl,?_,?_,?_⟩
  ·show (-1:Int)<=((bM n:Nat):Int)-1;lia
  ·show ((bM n:Nat):Int)-1<=40;lia
  ·show Q (.str (wd (bX (n:Int) (((bM n:Nat):Int)-1).toNat []))) H;rw[qS];exact q
noncomputable def uL:Sp:=λvs H Q _=>∃(k:Nat) (d:Int),vs=[.int (k:Nat),.int d]/\k<3/\Q (.str (wd (dD k d))) H
theorem xS(T:Txt K mg)(F:HasFn K mg "jump_written" eG ["width","distance"])(hlast_figures:ax P w K mg base aT 1 "last_figures" ["number","many"] An):ax P w K mg base aT 2 "jump_written" ["width","distance"] uL:=by
 obtain⟨ah,hg_HEADS,kt_HEADS⟩:=T.nk;obtain⟨aw,hg_WIDTHS,kt_WIDTHS⟩:=T.lj;have hr_HEADS:RelV (.ref ah) (.ref ah):=rfl;have hr_WIDTHS:RelV (.ref aw) (.ref aw):=rfl;refine F.fR jA (λvs H Q E h=>?_) (λf cdv A outer s H vs Q E hr h=>?_)
 ·obtain⟨k,d,rfl,_⟩:=h;rfl
 ·have hu:=aR hr;obtain⟨k,d,rfl,hk,q⟩:=h;refine⟨_,(Z.aA (Z.ret (Z.op (Z.bp K rfl) (Z.ix (Z.hJ K rfl) (Z.glob rfl hg_HEADS hr_HEADS) (Z.v 0)) (Z.fc hlast_figures (Z.cons (Z.v 1) (Z.cons (Z.ix (Z.hJ K rfl) (Z.glob rfl hg_WIDTHS hr_WIDTHS) (Z.v 0)) Z.nil)))))),?_⟩;walk_at "rz";have p2:cI [V.str (Str.ofString "0"),.str (Str.ofString "10"),.str (Str.ofString "11")] (k:Int)=some (.str (wd (d5 k))):=by
   rcases mq hk with rfl|rfl|rfl
   ·exact K7 (λz=>some (V.str z)) (by decide +kernel)
   ·exact K7 (λz=>some (V.str z)) (by decide +kernel)
   ·exact K7 (λz=>some (V.str z)) (by decide +kernel)
  have p3:cI [V.int 4,.int 8,.int 16] (k:Int)=some (.int ((bH k:Nat):Int)):=by rcases mq hk with rfl|rfl|rfl<;>rfl
  have p4:bH k<=16/\(d5 k).length<=2:=by rcases mq hk with rfl|rfl|rfl<;>decide
  refine⟨ah,_,_,_,rfl,rfl,kt_HEADS H,p2,aw,_,_,_,rfl,rfl,kt_WIDTHS H,p3,_,_,rfl,by lia,by lia,?_⟩
  rw[Ky];walk_at "rz";rw[lO,bE,bE,dQ];exact⟨JX (show _<=30 by simp;lia) (by decide),q⟩
theorem Dk{X:Cx}{es:List Expr}{tk:Nat}{tp:Pos}{e1 e2:Expr}{ta:TA}{p pos:Pos}(K:W.Frag)(hK:X.K=K)(hg:Gl X "zip")(hm:X.mg "zip"=none)(ha:QA X [e1,e2] ta)(h1:autoParam (gc e1=true) ℜ0)(h2:autoParam (gc e2=true) ℜ0):QI X (.Tuple es tk tp) (.Call (.Name "zip" p) [e1,e2] [] pos) (wZ K ta):=by
 subst hK;exact⟨Ca hg hm ha.h h1 h2⟩
theorem pK(K:W.Frag)(ta:TA)(σ:L2.St)(H:Hp)(R:It->Hp->Prop):L2.wZ K ta σ H R=ta σ H λvs H1=>∃p q:Bool×Addr,vs=[V.ref p.2,V.ref q.2]/\(∃xs,oI K p.1 H1 p.2 xs)/\(∃ys,oI K q.1 H1 q.2 ys)/\∀n,R (Gv K (ib n [p,q])) H1:=rfl
theorem mW{g:TG}{tb:TS}{D:Ends}{σ:L2.St}{k1 k2:Bool}{n:Nat}(hxy:xs.length=ys.length)(Pv:Nat->L2.St->Hp->Prop)(h0:Pv 0 σ H)(hl:∀i σ H,Pv i σ H->oI K k1 H a xs/\oI K k2 H b ys)
  (hs:∀i x y σ H p,xs[i]?=some x->ys[i]?=some y->Pv i σ H->H p=none->g (.ref p) σ (upd H p (.tup [x,y])) λσ2 H2=>tb {D with nx:=Pv (i+1),ct:=Pv (i+1),bk:=D.nx} σ2 H2) (hd:∀σ H,Pv xs.length σ H->D.nx σ H):rY (Gv K (ib n [(k1,a),(k2,b)])) g tb D σ H:=by
 refine⟨λi m σ H=>m=xs.length-i/\i<=xs.length/\Pv i σ H,⟨xs.length,by simp,Kh _,h0⟩,?_⟩
 rintro i m σ H ⟨rfl,hi,p⟩;obtain⟨q1,q2⟩:=hl i σ H p;by_cases hlt:i<xs.length
 ·have hl2:i<ys.length:=by lia
  refine .inr ⟨⟨[xs[i],ys[i]],.cons ⟨xs,q1,by simp[hlt]⟩ (.cons ⟨ys,q2,by simp[hl2]⟩ .nil)⟩,Pv (i+1),λσ' H' p'=>⟨xs.length-(i+1),by lia,rfl,hlt,p'⟩,λx H' z=>?_⟩
  obtain⟨c',vs,pr,fr,rfl,rfl⟩:=z;obtain⟨v1,vs,rfl,e1,pr⟩:=Paired.j6 pr;obtain⟨v2,vs,rfl,e2,pr⟩:=Paired.j6 pr;cases pr;exact hs i v1 v2 σ H c' (e1 xs q1) (e2 ys q2) p fr
 ·have e:i=xs.length:=by lia
  subst e;exact .inl ⟨⟨[],(k1,n,a),_,[],rfl,.nil,xs,q1,rfl⟩,hd σ H p⟩
noncomputable def A6(H:Hp)(ps:List Addr)(l:List (Nat×Nat)):Prop:=ps.length=l.length/\∀(j:Nat) (q:Addr) (x:Nat×Nat),ps[j]?=some q->l[j]?=some x->H q=some (.tup [.int (x.1:Nat),.int (x.2:Nat)])
theorem A6.snoc{ps:List Addr}{l:List (Nat×Nat)}{x:Nat×Nat}(h:A6 H ps l)(e:H q=some (.tup [.int (x.1:Nat),.int (x.2:Nat)])):A6 H (ps++[q]) (l++[x]):=by
 refine⟨by rw[JL,JL,h.1];rfl,λi q' r' e1 e2=>?_⟩
 rcases KG i ps.length with hi|hi
 ·rw[Ks hi] at e1;rw[Ks (by rw[<- h.1];exact hi)] at e2
  exact h.2 i q' r' e1 e2
 ·have h1:=h.1;rw[Kk hi] at e1;rw[Kk (by lia),<- h1] at e2
  obtain⟨hj,rfl⟩:=JO.mp e1;obtain⟨hj2,rfl⟩:=JO.mp e2;have:i-ps.length=0:=by simp at hj;lia
  simp only[this,MV];exact e
theorem Ci{D:Addr}(h:H D=some (.lst ys)):NT [D] H:=λb hb xs e=>by
 rw[Ka.mp hb,h] at e;cases e
theorem A6.keep{ps:List Addr}{l:List (Nat×Nat)}(h:A6 H ps l)(k:KB ex H H')(hx:NT ex H):A6 H' ps l:=⟨h.1,λi q r e1 e2=>k _ _ (h.2 i q r e1 e2) λz=>hx q z _ (h.2 i q r e1 e2)⟩
theorem I_(x:V)(xs:List V):dP (x::xs) (some 1) none=xs:=by
 unfold dP;rw[HT.e8,show (some (1:Int))=some ((1:Nat):Int) from rfl,HT.fW];simp
theorem Dz{x:V}(h:H a=some (.tup (x::xs)))(q:∀p,H p=none->Q (.ref p) (upd H p (.tup xs))):rH K (.ref a) (some 1) none H Q:=⟨a,x::xs,rfl,bB.of h,λz=>by
 have:=z.1;rw[show (some (1:Int))=some ((1:Nat):Int) from rfl,HT.fW] at this;simp at this,by rw[I_];exact q⟩
noncomputable def pG:Sp:=λvs H Q _=>∃(ra:Addr) (r:Row) (k:Nat),vs=[.ref ra]/\H ra=some (.tup r.vs)/\r.Ok k/\∀D ps H',H D=none->KB [] H H'->H' D=some (.lst (ps.map V.ref))->A6 H' ps (dh r)->Q (.ref D) H'
theorem vV(T:Txt K mg)(F:HasFn K mg "coded_things" eI ["row"]):ax P w K mg base aT 1 "coded_things" ["row"] pG:=by
 obtain⟨u0,hg_OF_WORDS,hr_OF_WORDS⟩:=T.kN;obtain⟨u1,hg_OF_CLASSES,hr_OF_CLASSES⟩:=T.iA;obtain⟨u2,hg_OF_BOXES,hr_OF_BOXES⟩:=T.lH;obtain⟨aB,hg_BOXES,sB⟩:=T.jP;have hr_BOXES:RelV (.ref aB) (.ref aB):=rfl;obtain⟨_,oB,hmB,hoB,hdB⟩:=T.Bu;rw[hg_BOXES] at hmB;cases hmB;have tyB:∀H,Gm K "tuple" (.ref aB) H:=λH=>.inr (.inl ⟨rfl,oB,hoB,by
  rcases sB (λ_=>none) with h|⟨o,_,_,h1,h2,_⟩
  ·rcases h with h|⟨_,h⟩
   ·cases h
   ·cases h
  ·rw[hoB] at h1;cases h1;exact h2,hdB⟩)
 obtain⟨dS,hg_SHAPES,hd0⟩:=T.kg;have hd_SHAPES:kZ K dS cc:=hd0;have hr_SHAPES:RelV (.ref dS) (.ref dS):=rfl;refine F.fR cP (λvs H Q E h=>?_) (λf cdv A outer s H vs Q E hr h=>?_)
 ·obtain⟨ra,r,k,rfl,_⟩:=h;rfl
 ·have hu:=aR hr;obtain⟨ra,r,k,rfl,hra,bc,q⟩:=h;refine⟨_,(Z.aq (Z.se (i:=1) cP.nd (Z.lst (Z.cons (Z.tup (Z.cons (Z.glob rfl hg_OF_WORDS hr_OF_WORDS) (Z.cons (Z.bm K rfl PySem.F.plainAttrs_list PySem.F.slot_list_index PySem.F.type_list_index Y.Cj (Z.ct (lR (D:=cc) K rfl rfl) rfl T.yU (by decide +kernel) (Z.cons (Z.glob rfl hg_SHAPES hr_SHAPES) Z.nil)) (Z.cons (Z.ix (Z.aP K rfl hu) (Z.v 0) Z.int) Z.nil)) Z.nil))) Z.nil)))
   (Z.aq (Z.iW K1 rfl (Dk K rfl rfl T.De (Z.cons (Z.Je K rfl rfl hg_SHAPES hd_SHAPES (Z.ix (Z.aP K rfl hu) (Z.v 0) Z.int)) (Z.cons (Z.slice (Z.Ej K rfl) (Z.v 0) (Z.oN Z.int) Z.vZ) Z.nil))) (Z.q5 (n:=2) K rfl rfl (Z.b_ (Z.bu (i:=2) cP.nd rfl (by right)) (Z.b_ (Z.bu (i:=3) cP.nd rfl (by right)) Z.j3))) (Z.aA (Z.dJ (Z.aZ b8 (Z.v 2) Z.str) (Z.aA (Z.expr (Z.app K (Z.v 1) (Z.cons (Z.tup (Z.cons (Z.glob rfl hg_OF_BOXES hr_OF_BOXES) (Z.cons (Z.bm K rfl PySem.F.plainAttrs_tuple PySem.F.slot_tuple_index PySem.F.type_tuple_index (Ei (X:=_)) (Z.glob rfl hg_BOXES hr_BOXES) (Z.cons (Z.v 3) Z.nil)) Z.nil))) Z.nil)))) (Z.aA (Z.dJ (Z.aZ b8 (Z.v 2) Z.str) (Z.aA (Z.expr (Z.app K (Z.v 1) (Z.cons (Z.tup (Z.cons (Z.glob rfl hg_OF_CLASSES hr_OF_CLASSES) (Z.cons (Z.Jm K rfl PySem.F.plainAttrs_int PySem.F.slot_int_bit_length PySem.F.type_int_bit_length Y.um (Z.v 3)) Z.nil))) Z.nil)))) Z.bN)))))
   (Z.aA (Z.ret (Z.v 1))))),?_⟩
  have a0:cI r.vs 0=some (.str r.wd):=by cases r<;>rfl
  refine ay λN hN=>?_;exists aM hra,a0;refine⟨dS,rfl,hd_SHAPES,by decide,λl hl=>?_⟩
  have k1:=KB.new (ex:=[]) (o:=.lst (cc.map λp=>V.str p.1)) hl;have s1:upd H l (.lst (cc.map λp=>V.str p.1)) l=some (.lst (cc.map λp=>V.str p.1)):=ae;generalize upd H l (.lst (cc.map λp=>V.str p.1))=H1 at *;refine⟨.inl ⟨rfl,_,cf.of s1⟩,?_⟩;have hra1:=k1 _ _ hra (by simp)
  exists aM hra1,a0;refine⟨l,cX,r.wd,r.wi,rfl,s1,rfl,(Dq r).1,(Dq r).2,⟨by decide,λp1 hp1=>⟨by decide,λD hD=>?_⟩⟩⟩
  have kp1:=KB.new (ex:=[]) (o:=.tup [.int 0,.int (r.wi:Nat)]) hp1;have sp1:upd H1 p1 (.tup [.int 0,.int (r.wi:Nat)]) p1=_:=ae;generalize upd H1 p1 (.tup [.int 0,.int (r.wi:Nat)])=H2 at *;have kD:=KB.new (ex:=[]) (o:=.lst [.ref p1]) hD;have sD:upd H2 D (.lst [.ref p1]) D=some (.lst ([p1].map V.ref)):=ae;generalize upd H2 D (.lst [.ref p1])=H3 at *;have hDH:H D=none:=(k1.trans kp1).free (by simp) hD
  have th3:A6 H3 [p1] [(0,r.wi)]:=⟨rfl,λj q x e1 e2=>by
   have hj:j<1:=(JO.mp e1).1;obtain rfl:j=0:=by lia
   cases e1;cases e2
   exact kD _ _ sp1 (by simp)⟩
  have k03:=(k1.trans kp1).trans kD;rw[hN];clear hN N;clear sp1 hp1 s1 hl hD hra1;refine ay λN hN=>?_;have hra3:=k03 _ _ hra (by simp)
  exists pK,aM hra3,a0;refine⟨_,_,rfl,v7 r,λpk kt=>?_⟩;rw[Row.Hg] at hra3;refine Dz hra3 λtl htl=>?_;have kt3:=KB.new (ex:=[]) (o:=.tup (r.gq.map Pk.v)) htl;have st3:upd H3 tl (.tup (r.gq.map Pk.v)) tl=_:=ae;generalize upd H3 tl (.tup (r.gq.map Pk.v))=H4 at *;have k04:=k03.trans kt3;have ktq:∀G:Hp,bB K G pk ((r.gq.map Pk.kd).map V.str):=λG=>.inr kt;refine⟨(false,pk),(false,tl),⟨rfl,rfl⟩,⟨_,ktq _⟩,⟨_,bB.of st3⟩,λn=>?_⟩;refine mW (xs:=(r.gq.map Pk.kd).map V.str) (ys:=r.gq.map Pk.v) (by rw[JK,JK,JK]) (λi σ H'=>∃(ps:List Addr) (o2 o3:Option V),i<=r.gq.length/\KB [] H H'/\H' tl=some (.tup (r.gq.map Pk.v))/\H' D=some (.lst (ps.map V.ref))/\A6 H' ps ((0,r.wi)::(r.gq.take i).flatMap Pk.qJ)/\σ=[some (.ref ra),some (.ref D),o2,o3]) ⟨[p1],none,none,Kh _,k04,st3,kt3 _ _ sD (by simp),th3.keep kt3 (NT.nil _),rfl⟩ (λi σ H' h=>by obtain⟨_,_,_,_,_,h1,_⟩:=h;exact⟨ktq _,bB.of h1⟩) ?_ ?_
  ·rintro i x y σ H' z hx hy ⟨ps,o2,o3,hi,hk,h1,h2,h3,rfl⟩ hz;have hlt:i<r.gq.length:=by have:=(JO.mp hy).1;rw[JK] at this;exact this
   have ep:=JI hlt;have pok:=Row.zJ bc _ (Kf hlt);have et:(r.gq.take (i+1)).flatMap Pk.qJ=(r.gq.take i).flatMap Pk.qJ++(r.gq[i]).qJ:=by rw[Lz,ep,List.flatMap_append];simp
   rw[JW,JW,ep] at hx;rw[JW,ep] at hy;generalize r.gq[i]=pt at *
   cases hx;cases hy
   unfold bT;refine⟨z,_,rfl,bB.of ae,rfl,_,_,rfl,_,_,rfl,rfl,?_⟩;have kz:=KB.new (ex:=[]) (o:=.tup [.str pt.kd,pt.v]) hz;generalize upd H' z (.tup [.str pt.kd,pt.v])=H5 at *;have hk5:=hk.trans kz;have h15:=kz _ _ h1 (by simp)
   have h25:=kz _ _ h2 (by simp)
   have h35:=h3.keep kz (NT.nil _);dsimp only;refine vc λM hM=>?_;have psl:ps.length<=4:=by
    have e:=h3.1;rw[e];have c:=oE r;unfold dh at c;rw[J_] at c ⊢;have:((r.gq.take i).flatMap Pk.qJ).length<=(r.gq.flatMap Pk.qJ).length:=by
     rw[<- Lh i r.gq,List.flatMap_append,JL,Lh];exact Nat.le_add_right _ _
    lia
   have fin:∀(u v:Nat) (G:Hp) (t:Addr),pt.qJ=[(u,v)]->KB [] H5 G->G t=none->M [some (.ref ra),some (.ref D),some (.str pt.kd),some pt.v] (upd (upd G t (.tup [.int (u:Nat),.int (v:Nat)])) D (.lst (ps.map V.ref++[.ref t]))):=λu v G t ec kG ht=>by
    rw[hM];have kt':=KB.new (ex:=[]) (o:=.tup [.int (u:Nat),.int (v:Nat)]) ht;have st':upd G t (.tup [.int (u:Nat),.int (v:Nat)]) t=some (.tup [.int (u:Nat),.int (v:Nat)]):=ae;generalize upd G t (.tup [.int (u:Nat),.int (v:Nat)])=G2 at *;have k52:=kG.trans kt';have hD2:=k52 _ _ h25 (by simp)
    have nt:=Ci hD2;refine⟨ps++[t],_,_,hlt,λb o e _=>by rw[ao (au e hDH)];exact k52 _ _ (hk5 _ _ e (by simp)) (by simp),by rw[ao (λz=>by rw[z] at h15;rw[h25] at h15;cases h15)];exact k52 _ _ h15 (by simp),by rw[ae,Kg];rfl,?_,rfl⟩
    rw[et,ec,<- Lj];exact ((h35.keep k52 (NT.nil _)).snoc (q:=t) (x:=(u,v)) st').keep (KB.set (ex:=[D]) (by simp)) nt
   cases pt with
   |box b =>
    obtain⟨e1,e2⟩:=zV (b:=b) pok;walk_at "rz";rw[JQ (show (Pk.box b).kd=Str.ofString "box" from rfl)];refine⟨.inl ⟨rfl,_,cf.of h25⟩,tyB _,aB,Gh,bY b,b,rfl,sB _,rfl,e1,e2,by decide,λt ht=>?_⟩
    have h26:upd H5 t (.tup [.int 2,.int (b:Nat)]) D=some (.lst (ps.map V.ref)):=by rw[ao (au h25 ht)];exact h25
    exact⟨D,_,_,rfl,rfl,h26,KN (show _<=10 by rw[JK];lia) (by decide),fin 2 b H5 t rfl (KB.refl _ _) ht⟩
   |num n =>
    walk_at "rz";rw[JN (show ¬ (Pk.num n).kd=Str.ofString "box" from (by decide +kernel:¬ Str.ofString "number"=Str.ofString "box")),JQ (show (Pk.num n).kd=Str.ofString "number" from rfl)]
    refine⟨.inl ⟨rfl,_,cf.of h25⟩,rfl,(n:Int),rfl,rfl,by decide,λt ht=>?_⟩
    have h26:upd H5 t (.tup [.int 1,.int (bM n:Nat)]) D=some (.lst (ps.map V.ref)):=by rw[ao (au h25 ht)];exact h25
    exact⟨D,_,_,rfl,rfl,h26,KN (show _<=10 by rw[JK];lia) (by decide),fin 1 (bM n) H5 t rfl (KB.refl _ _) ht⟩
   |goal g =>
    walk_at "rz";rw[JN (show ¬ (Pk.goal g).kd=Str.ofString "box" from (by decide +kernel:¬ Str.ofString "goal"=Str.ofString "box")),JN (show ¬ (Pk.goal g).kd=Str.ofString "number" from (by decide +kernel:¬ Str.ofString "goal"=Str.ofString "number"))]
    rw[hM];exact⟨ps,_,_,hlt,hk5,h15,h25,by rw[et];show A6 H5 ps ((0,r.wi)::((r.gq.take i).flatMap Pk.qJ++[]));rw[K6];exact h35,rfl⟩
  ·rintro σ H' ⟨ps,o2,o3,hi,hk,h1,h2,h3,rfl⟩;show N _ _;rw[hN];clear hN N;walk_at "rz";refine q D ps H' hDH hk h2 ?_;rw[JK,JK,KH] at h3;exact h3
theorem oK{σ:L2.St}{te:TE}(hn:xs.length<=sizeLine)(Pv:Addr->Nat->List V->Hp->Prop)(h0:∀D,H D=none->Pv D 0 [] (upd H D (.lst [])))(hD:∀D i ys H',Pv D i ys H'->H' D=some (.lst ys)/\ys.length=i)
  (hl:∀D i ys H',Pv D i ys H'->cf K H' a xs)
  (hs:∀D i ys H' x,xs[i]?=some x->Pv D i ys H'->∃q u v,x=.ref q/\H' q=some (.tup [u,v])/\∀R:VK,(∀v H5,H5 D=some (.lst ys)->Pv D (i+1) (ys++[v]) (upd H5 D (.lst (ys++[v])))->R v H5)->te (some u::some v::σ) H' R) (hd:∀D ys H',Pv D xs.length ys H'->Q (.ref D) H') :
  tU (wO K a) 2 (vT K 2 (kA (bT 0) (kA (bT 1) wj))) jx te Q σ H:=by
 intro D hD0;refine⟨λi m ys σ' H'=>m=xs.length-i/\i<=xs.length/\Pv D i ys H'/\∃o1 o2,σ'=o1::o2::σ,⟨xs.length,by simp,Kh _,h0 D hD0,none,none,rfl⟩,?_⟩
 rintro i m ys σ' H' ⟨rfl,hi,p,o1,o2,rfl⟩;obtain⟨hDi,hly⟩:=hD _ _ _ _ p;have q:=hl _ _ _ _ p;refine⟨hDi,?_⟩;by_cases hlt:i<xs.length
 ·refine .inr ⟨⟨xs,xs[i],q,by simp[hlt]⟩,by lia,λx H2 y=>?_⟩
  obtain⟨rfl,y⟩:=y;obtain⟨t,u,v,rfl,ht,h⟩:=hs D i ys H2 x (y xs q) p;refine⟨t,[u,v],rfl,bB.of ht,rfl,u,[v],rfl,v,[],rfl,rfl,?_⟩;unfold jx;dsimp only;rw[if_pos rfl];exact h _ λv H5 q1 q2=>⟨q1,xs.length-(i+1),by lia,rfl,hlt,q2,_,_,rfl⟩
 ·have e:i=xs.length:=by lia
  subst e;exact .inl ⟨⟨xs,q,JS _⟩,hd D ys H' p⟩
noncomputable def ur(K:W.Frag):Sp:=λvs H Q _=>∃(ra ca:Addr) (r:Row) (k:Nat) (cd:List (List (List Nat))),vs=[.ref ra,.ref ca]/\H ra=some (.tup r.vs)/\r.Ok k/\uv H ca cd/\Cd cd/\∀H',KB [] H H'->Q (.str (wd (bL cd r))) H'
theorem yI(T:Txt K mg)(F:HasFn K mg "bits_ahead_of_goal" bV ["row","codes"])(hcoded_things:ax P w K mg base aT 1 "coded_things" ["row"] pG)(hfigures_behind_first:ax P w K mg base aT 2 "figures_behind_first" ["number"] m4):ax P w K mg base aT 3 "bits_ahead_of_goal" ["row","codes"] (ur K):=by
 refine F.fR dz (λvs H Q E h=>?_) (λf cdv A outer s H vs Q E hr h=>?_)
 ·obtain⟨ra,ca,r,k,cd,rfl,_⟩:=h;rfl
 ·have hu:=aR hr;obtain⟨ra,ca,r,k,cd,rfl,hra,bc,fX,hC,q⟩:=h;refine⟨_,(Z.aq (Z.se (i:=2) dz.nd (Z.bm K rfl PySem.F.plainAttrs_str PySem.F.slot_str_join PySem.F.type_str_join (Z.Ai K rfl) Z.str (Z.cons (Z.C_ (osc:=af bV) (ON:=["row","codes","bits"]) (own:=["which","thing"]) (N:=["which","thing","row","codes","bits"]) (aQ.of rfl (by decide +kernel)) (Z.any K rfl (Z.fc hcoded_things (Z.cons (Z.v 0) Z.nil))) (λnd _ _ _ _=>(Z.q5 (n:=2) K rfl rfl (Z.b_ (Z.bu (i:=0) nd rfl (by right)) (Z.b_ (Z.bu (i:=1) nd rfl (by right)) Z.j3)))) (λ_ _ _ _=>Z.vy) (λ_ _ _ _=>(Z.ix (Z.aP K rfl hu) (Z.ix (Z.aP K rfl hu) (Z.v 3) (Z.v 0)) (Z.v 1)))) Z.nil)))
   (Z.aA (Z.ret (Z.A5 (Z.aZ b8 (Z.ix (Z.aP K rfl hu) (Z.v 0) Z.int) Z.str) (Z.op (Z.bp K rfl) (Z.v 2) (Z.fc hfigures_behind_first (Z.cons (Z.ix (Z.aP K rfl hu) (Z.v 0) (Z.un fV Z.int)) Z.nil))) (Z.v 2))))),?_⟩
  have a0:cI r.vs 0=some (.str r.wd):=by cases r<;>rfl
  refine ay λN hN=>?_;walk_at "rz";refine⟨rfl,ra,r,k,rfl,hra,bc,λD ps H1 hD k1 hD1 th=>?_⟩;exists aO hD1;have hcd1:uv H1 ca cd:=fX.keep k1 (by simp) (λb hb=>nomatch hb)
  have thl:=th.1;have cl:=oE r;refine oK (xs:=ps.map V.ref) (JX (show _<=3 by rw[JK];lia) (by decide)) (λL i ys H'=>H1 L=none/\H' L=some (.lst ys)/\KB [] H1 H'/\i<=(dh r).length/\ys=(((dh r).take i).map λp=>wd (aY cd p)).map V.str) (λL hL=>⟨hL,ae,KB.new hL,Kh _,rfl⟩) (λL i ys H' h=>⟨h.2.1,by rw[h.2.2.2.2,JK,JK,Ki];have:=h.2.2.2.1;lia⟩) (λL i ys H' h=>cf.of (h.2.2.1 _ _ hD1 (by simp))) ?_ ?_
  ·rintro L i ys H' x hx ⟨g0,g1,gk,hi,rfl⟩;obtain⟨c,ec,rfl⟩:∃c,ps[i]?=some c/\x=.ref c:=by
    rw[JW] at hx;obtain⟨c,e,rfl⟩:=Km.mp hx;exact⟨c,e,rfl⟩
   have hlt:i<(dh r).length:=by have:=(JO.mp ec).1;lia
   have er:=JI hlt;have et:(dh r).take (i+1)=(dh r).take i++[(dh r)[i]]:=by rw[Lz,er];rfl
   have hc:=gk _ _ (th.2 i c _ ec er) (by simp)
   have ck:=zj bc _ (Kf hlt);generalize (dh r)[i]=pr at *;refine⟨c,_,_,rfl,hc,λR kk=>?_⟩;have g:=hC.at ck;obtain⟨a0',a1',a2',y1,y2,y3,y4⟩:=hcd1;have y1':=gk _ _ y1 (by simp)
   obtain⟨ai,e1,e2⟩:∃ai,cI [V.ref a0',.ref a1',.ref a2'] (pr.1:Int)=some (.ref ai)/\H' ai=some (.tup (wV (cd.getD pr.1 []))):=by
    rcases ck with ⟨h,_⟩|⟨h,_⟩|⟨h,_⟩<;>rw[h]
    ·exact⟨a0',rfl,gk _ _ y2 (by simp)⟩
    ·exact⟨a1',rfl,gk _ _ y3 (by simp)⟩
    ·exact⟨a2',rfl,gk _ _ y4 (by simp)⟩
   have e3:cI (wV (cd.getD pr.1 [])) (pr.2:Int)=some (.str (wd (aY cd pr))):=b9 (by unfold wV;rw[JW,g.2.1];rfl)
   exists aO y1',e1,aM e2,e3;exact kk _ _ g1 ⟨g0,ae,λu o e _=>by rw[ao (au e g0)];exact gk _ _ e (by simp),hlt,by rw[et,Kg,Kg];rfl⟩
  rintro L ys H2 ⟨_,gL,k2,_,rfl⟩;rw[JK,thl,KH] at gL;have k02:=k1.trans k2;have hl:=oV hC bc;have e1:((dh r).map λp=>wd (aY cd p))=((dh r).map (aY cd)).map wd:=by rw[L5];rfl
  have e2:(((dh r).map λp=>wd (aY cd p)).map λx=>x.length).sum=((dh r).flatMap (aY cd)).length:=by
   rw[List.length_flatMap,L5];rfl
  refine⟨_,L,_,rfl,rfl,cf.of gL,?_,?_⟩
  ·rw[e2,show (Str.ofString "").length=0 from by decide +kernel];lia
  rw[e1,nv,<- List.flatMap_def];rw[hN];clear hN N;have hra2:=k02 _ _ hra (by simp)
  exists aM hra2,a0;have hh:bL cd r=(dh r).flatMap (aY cd)++gE r:=rfl;have qq:=q H2 k02;rw[hh] at qq;generalize (dh r).flatMap (aY cd)=y at *;by_cases hp:r.wd=Str.ofString "put"
  ·obtain⟨b,n,rfl⟩:∃b n,r=.put b n:=by
    cases r with
    |put b n=>exact⟨b,n,rfl⟩
    |two u b c=>exact absurd hp ((by decide +kernel:∀u,¬ w2 u=Str.ofString "put") u)
    |one u b=>exact absurd hp ((by decide +kernel:∀u,¬ w1 u=Str.ofString "put") u)
    |jump g=>exact absurd hp (show ¬ Str.ofString "jump"=Str.ofString "put" from by decide +kernel)
    |zero b g=>exact absurd hp (show ¬ Str.ofString "zero"=Str.ofString "put" from by decide +kernel)
    |halt=>exact absurd hp (show ¬ Str.ofString "halt"=Str.ofString "put" from by decide +kernel)
   rw[JQ hp];refine⟨n,rfl,bc.2,?_⟩;walk_at "rz";rw[lO,bE,bE];exact⟨JX (show _<=200 by have:=hl.2;show y.length+(gE (.put b n)).length<=200;lia) (by decide),qq⟩
  ·rw[JN hp];have et:gE r=[]:=by cases r<;>first|rfl|exact absurd rfl hp
   rw[et,K6] at qq;exact qq
noncomputable def wF:Option Nat->Nat->V
 |none,_=>.aU
 |some _,w=>.int (w:Nat)
noncomputable def iw(gs:List (Option Nat))(ws:List Nat):List V:=List.zipWith wF gs ws
theorem Aa(h:ws.length=gs.length):(iw gs ws).length=gs.length:=by unfold iw;rw[List.length_zipWith];lia
theorem ni{g:Option Nat}{w:Nat}(h1:gs[i]?=some g)(h2:ws[i]?=some w):(iw gs ws)[i]?=some (wF g w):=by
 unfold iw;rw[List.getElem?_zipWith,h1,h2]
noncomputable def DP:Sp:=λvs H Q _=>∃(g:Option Nat) (w:Nat),vs=[wF g w]/\w<3/\Q (.int (addW g w:Nat)) H
theorem FA(T:Txt K mg)(F:HasFn K mg "own_part" iu ["width"]):ax P w K mg base aT 1 "own_part" ["width"] DP:=by
 obtain⟨ah,hg_HEADS,kt_HEADS⟩:=T.nk;obtain⟨aw,hg_WIDTHS,kt_WIDTHS⟩:=T.lj;have hr_HEADS:RelV (.ref ah) (.ref ah):=rfl;have hr_WIDTHS:RelV (.ref aw) (.ref aw):=rfl;refine F.fR pE (λvs H Q E h=>?_) (λf cdv A outer s H vs Q E hr h=>?_)
 ·obtain⟨g,w,rfl,_⟩:=h;rfl
 ·have hu:=aR hr;obtain⟨g,k,rfl,hk,q⟩:=h;refine⟨_,(Z.aA (Z.ret (Z.A5 (Z.aZ dH (Z.v 0) Z.aU) Z.int (Z.op (Z.bp K rfl) (Z.cb (Z.cY K rfl) rfl T.cN (by decide +kernel) (Z.cons (Z.ix (Z.hJ K rfl) (Z.glob rfl hg_HEADS hr_HEADS) (Z.v 0)) Z.nil)) (Z.ix (Z.hJ K rfl) (Z.glob rfl hg_WIDTHS hr_WIDTHS) (Z.v 0)))))),?_⟩
  cases g with
  |none =>
   unfold wF;walk_at "rz";exact q
  |some t =>
   have p2:cI [V.str (Str.ofString "0"),.str (Str.ofString "10"),.str (Str.ofString "11")] (k:Int)=some (.str (wd (d5 k))):=by
    rcases mq hk with rfl|rfl|rfl
    ·exact K7 (λz=>some (V.str z)) (by decide +kernel)
    ·exact K7 (λz=>some (V.str z)) (by decide +kernel)
    ·exact K7 (λz=>some (V.str z)) (by decide +kernel)
   have p3:cI [V.int 4,.int 8,.int 16] (k:Int)=some (.int ((bH k:Nat):Int)):=by rcases mq hk with rfl|rfl|rfl<;>rfl
   unfold wF;walk_at "rz";rw[JN (show ¬ V.int (k:Nat)=V.aU from λz=>nomatch z)];refine⟨ah,_,_,_,rfl,rfl,kt_HEADS H,p2,?_⟩;walk_at "rz";rw[bE];refine⟨JX (show (d5 k).length<=2 by rcases mq hk with rfl|rfl|rfl<;>decide) (by decide),aw,_,_,_,rfl,rfl,kt_WIDTHS H,p3,?_⟩
   walk_at "rz";rw[show ((d5 k).length:Int)+(bH k:Nat)=((addW (some t) k:Nat):Int) by rcases mq hk with rfl|rfl|rfl<;>rfl]
   exact q
theorem BV{l:List Nat}{v:V}(h:(iV (nZ l))[i]?=some v):∃x:Nat,l[i]?=some x/\v=.int (x:Nat):=by
 unfold iV nZ at h;rw[L5,JW] at h;obtain⟨x,e,rfl⟩:=Km.mp h;exact⟨x,e,rfl⟩
theorem fQ(l:List Nat):(iV (nZ l)).length=l.length:=by rw[cR,hZ]
theorem wU{l:List Nat}(h:i<l.length):cI (iV (nZ l)) (i:Int)=some (.int ((l.getD i 0:Nat):Int)):=b9 (by unfold iV nZ;rw[L5,JW,JI h,JY,JI h];rfl)
theorem By{l:List Nat}(h:i<l.length):cI (iV (nZ (l.take (i+1)))) (-1)=some (.int ((l.getD i 0:Nat):Int)):=by
 have hi2:(l.take (i+1)).length=i+1:=by rw[Ki];lia
 unfold cI lV;rw[JN (by decide),JQ (by rw[fQ,hi2];lia),fQ,hi2,show -1+((i+1:Nat):Int)=(i:Int) by lia]
 show (iV (nZ (l.take (i+1))))[((i:Nat):Int).toNat]?=_;rw[Ky];unfold iV nZ;rw[L5,JW,N_ (Mt i),JI h,JY,JI h];rfl
noncomputable def lb(K:W.Frag):Sp:=λvs H Q _=>∃(a b:Addr) (k:Bool) (ss:List Nat) (gs:List (Option Nat)) (ws:List Nat),vs=[.ref a,.ref b]/\H a=some (.lst (iV (nZ ss)))/\oI K k H b (iw gs ws)/\(∀H',KB [] H H'->oI K k H' b (iw gs ws))/\gs.length=ss.length/\ws.length=ss.length/\ss.length<=64/\(∀w∈ws,w<3)/\∀d H',H d=none->KB [] H H'->H' d=some (.lst (iV (nZ (jm 0 ss gs ws))))->Q (.ref d) H'
theorem vb(T:Txt K mg)(F:HasFn K mg "row_starts" fT ["sizes","widths"])(hown_part:ax P w K mg base aT 1 "own_part" ["width"] DP):ax P w K mg base aT 2 "row_starts" ["sizes","widths"] (lb K):=by
 refine F.fR dB (λvs H Q E h=>?_) (λf cdv A outer s H vs Q E hr h=>?_)
 ·obtain⟨a,b,k,ss,gs,ws,rfl,_⟩:=h;rfl
 ·have hu:=aR hr;obtain⟨a,b,k,ss,gs,ws,rfl,ha,hb,hbk,h1,h2,h3,h4,q⟩:=h;have hl:=jM ss gs ws 0 h1 h2;have hat:=sj ss gs ws 0;obtain⟨l0,e0⟩:=nK 0 ss gs ws;refine⟨_,(Z.aq (Z.se (i:=2) dB.nd (Z.lst (Z.cons Z.int Z.nil)))
   (Z.aq (Z.iW K1 rfl (Dk K rfl rfl T.De (Z.cons (Z.v 0) (Z.cons (Z.v 1) Z.nil))) (Z.q5 (n:=2) K rfl rfl (Z.b_ (Z.bu (i:=3) dB.nd rfl (by right)) (Z.b_ (Z.bu (i:=4) dB.nd rfl (by right)) Z.j3))) (Z.aA (Z.expr (Z.app K (Z.v 2) (Z.cons (Z.op (Z.bp K rfl) (Z.op (Z.bp K rfl) (Z.ix (Z.aP K rfl hu) (Z.v 2) (Z.un fV Z.int)) (Z.v 3)) (Z.fc hown_part (Z.cons (Z.v 4) Z.nil))) Z.nil)))))
   (Z.aA (Z.ret (Z.v 2))))),?_⟩
  generalize oJ:jm 0 ss gs ws=sp at *;refine ay λN hN=>?_;walk_at "rz";refine⟨by decide,λfd hfd=>?_⟩
  have k1:=KB.new (ex:=[]) (o:=.lst [.int 0]) hfd;have s1:upd H fd (.lst [.int 0]) fd=some (.lst (iV (nZ (sp.take 1)))):=by rw[ae,e0];rfl
  generalize upd H fd (.lst [.int 0])=H1 at *;rw[hN];clear hN N;refine ay λN hN=>?_;exists pK;refine⟨(true,a),(k,b),⟨rfl,rfl⟩,⟨_,cf.of (k1 _ _ ha (by simp))⟩,⟨_,hbk _ k1⟩,λn=>?_⟩
  refine mW (xs:=iV (nZ ss)) (ys:=iw gs ws) (by rw[fQ,Aa (by lia),h1]) (λi σ H'=>∃o3 o4:Option V,i<=ss.length/\KB [] H H'/\H' fd=some (.lst (iV (nZ (sp.take (i+1)))))/\σ=[some (.ref a),some (.ref b),some (.ref fd),o3,o4]) ⟨none,none,Kh _,k1,s1,rfl⟩ (λi σ H' ⟨_,_,_,k,_⟩=>⟨cf.of (k _ _ ha (by simp)),hbk _ k⟩) ?_ ?_
  ·rintro i x y σ H' p hx hy ⟨o3,o4,hi,hk,gf,rfl⟩ hp;obtain⟨s0,es,rfl⟩:=BV hx;have hlt:i<ss.length:=(JO.mp es).1;have eg:=JI (show i<gs.length by lia)
   have ew:=JI (show i<ws.length by lia)
   have lw:=h4 _ (Kf (show i<ws.length by lia))
   generalize gs[i]'_=g at eg;generalize ws[i]'_=w0 at ew lw;have en:=hat i s0 g w0 es eg ew;rw[ni eg ew] at hy;cases hy;unfold bT;refine⟨p,_,rfl,bB.of ae,rfl,_,_,rfl,_,_,rfl,rfl,?_⟩;have k2:=hk.trans (KB.new (o:=.tup [.int (s0:Nat),wF g w0]) hp);have gf2:upd H' p (.tup [.int (s0:Nat),wF g w0]) fd=some (.lst (iV (nZ (sp.take (i+1))))):=by rw[ao (au gf hp)];exact gf
   generalize upd H' p (.tup [.int (s0:Nat),wF g w0])=H2 at *;have et:sp.take (i+1+1)=sp.take (i+1)++[sp.getD (i+1) 0]:=by
    rw[Lz,JY,JI (show i+1<sp.length by lia)];rfl
   have lst:=By (l:=sp) (i:=i) (by lia)
   dsimp only;refine vc λM hM=>?_;exists aO gf2,lst;refine⟨.inl ⟨rfl,_,cf.of gf2⟩,g,w0,rfl,lw,?_⟩;walk_at "rz";refine⟨fd,_,_,rfl,rfl,gf2,Nat.lt_of_le_of_lt (show _<=1000 by rw[fQ,List.length_take];lia) (by decide),?_⟩
   rw[hM];refine⟨_,_,hlt,λu o e _=>by rw[ao (au e hfd)];exact k2 _ _ e (by simp),?_,rfl⟩
   rw[ae,et,en];unfold nZ;rw[Kg,nR];rfl
  ·rintro σ H' ⟨o3,o4,hi,hk,gf,rfl⟩;show N _ _;rw[hN];clear hN N;walk_at "rz";rw[KC (by rw[hl,fQ];exact JS _)] at gf
   exact q fd H' hfd hk gf
noncomputable def si:Sp:=λvs H Q _=>∃(a b:Addr) (sp:List Nat) (gs:List (Option Nat)) (k t:Nat),vs=[.ref a,.ref b,.int (k:Nat)]/\H a=some (.lst (iV (nZ sp)))/\H b=some (.lst (gs.map cq))/\gs[k]?=some (some t)/\t<sp.length/\k+1<sp.length/\Q (.int (fM sp t k)) H
theorem BL(T:Txt K mg)(F:HasFn K mg "distance_of" eX ["starts","goals","row"]):ax P w K mg base aT 1 "distance_of" ["starts","goals","row"] si:=by
 refine F.fR lQ (λvs H Q E h=>?_) (λf cdv A outer s H vs Q E hr h=>?_)
 ·obtain⟨a,b,sp,gs,k,t,rfl,_⟩:=h;rfl
 ·have hu:=aR hr;obtain⟨a,b,sp,gs,k,t,rfl,ha,hb,hg,ht,hk,q⟩:=h;refine⟨_,(Z.aA (Z.ret (Z.op dI (Z.ix (Z.aP K rfl hu) (Z.v 0) (Z.ix (Z.aP K rfl hu) (Z.v 1) (Z.v 2))) (Z.ix (Z.aP K rfl hu) (Z.v 0) (Z.op (Z.bp K rfl) (Z.v 2) Z.int))))),?_⟩;have ag:cI (gs.map cq) (k:Int)=some (.int (t:Nat)):=b9 (by rw[JW,hg];rfl)
  have as1:=wU ht;have as2:cI (iV (nZ sp)) ((k:Int)+1)=some (.int ((sp.getD (k+1) 0:Nat):Int)):=wU hk;exists aO hb,ag,aO ha,as1,as2;exact q
noncomputable def yr:Sp:=λvs H Q _=>∃(a b c:Addr) (sp:List Nat) (gs:List (Option Nat)) (ws:List Nat) (k t w:Nat),vs=[.ref a,.ref b,.ref c,.int (k:Nat)]/\H a=some (.lst (iV (nZ sp)))/\H b=some (.lst (gs.map cq))/\H c=some (.lst (iw gs ws))/\gs[k]?=some (some t)/\ws[k]?=some w/\w<3/\t<sp.length/\k+1<sp.length/\Q (.bl (A2 w (fM sp t k))) H
theorem CC(T:Txt K mg)(F:HasFn K mg "fits" rJ ["starts","goals","widths","row"])(hdistance_of:ax P w K mg base aT 1 "distance_of" ["starts","goals","row"] si):ax P w K mg base aT 2 "fits" ["starts","goals","widths","row"] yr:=by
 obtain⟨ah,hg_HALVES,kt_HALVES⟩:=T.qc;have hr_HALVES:RelV (.ref ah) (.ref ah):=rfl;refine F.fR tL (λvs H Q E h=>?_) (λf cdv A outer s H vs Q E hr h=>?_)
 ·obtain⟨a,b,c,sp,gs,ws,k,t,w,rfl,_⟩:=h;rfl
 ·have hu:=aR hr;obtain⟨a,b,c,sp,gs,ws,k,t,w0,rfl,ha,hb,hc,hg,hw,lw,ht,hk,q⟩:=h;refine⟨_,(Z.aq (Z.se (i:=4) tL.nd (Z.ix (Z.hJ K rfl) (Z.glob rfl hg_HALVES hr_HALVES) (Z.ix (Z.aP K rfl hu) (Z.v 2) (Z.v 3))))
   (Z.aA (Z.ret (Z.chain (Hc) (fA) (Z.un fV (Z.v 4)) (Z.fc hdistance_of (Z.cons (Z.v 0) (Z.cons (Z.v 1) (Z.cons (Z.v 3) Z.nil)))) (Z.v 4))))),?_⟩
  have aw:cI (iw gs ws) (k:Int)=some (.int (w0:Nat)):=b9 (ni hg hw);have ah':cI [V.int 8,.int 128,.int 32768] (w0:Int)=some (.int (cJ w0)):=by rcases mq lw with rfl|rfl|rfl<;>rfl
  refine ay λN hN=>?_;exists aO hc,aw;refine⟨ah,_,_,_,rfl,rfl,kt_HALVES H,ah',?_⟩;rw[hN];clear hN N;walk_at "rz";refine⟨a,b,sp,gs,k,t,rfl,ha,hb,hg,ht,hk,?_⟩;walk_at "rz";unfold A2 at q;by_cases c1:-cJ w0<=fM sp t k
  ·rw[JQ c1];rw[Kw c1,OL] at q;exact q
  ·rw[JN c1];rw[Ko c1,N1] at q;exact q
noncomputable def ki(sp:List Nat)(gs:List (Option Nat))(ws:List Nat)(k:Nat):Bool:=match gs[k]?,ws[k]? with
 |some (some t),some w=>!A2 w (fM sp t k)
 |_,_=>false
noncomputable def dZ(ss:List Nat)(gs:List (Option Nat))(ws:List Nat):Option Nat:=(List.range' 0 gs.length).find? (ki (jm 0 ss gs ws) gs ws)
noncomputable def sT(K:W.Frag):Sp:=λvs H Q _=>∃(a b c:Addr) (ss:List Nat) (gs:List (Option Nat)) (ws:List Nat),vs=[.ref a,.ref b,.ref c]/\H a=some (.lst (iV (nZ ss)))/\H b=some (.lst (gs.map cq))/\H c=some (.lst (iw gs ws))/\gs.length=ss.length/\ws.length=ss.length/\ss.length<=64/\(∀t,some t∈gs->t<=ss.length)/\(∀w∈ws,w<3)/\∀H',KB [] H H'->Q (wQ (dZ ss gs ws)) H'
theorem yJ(T:Txt K mg)(F:HasFn K mg "first_too_narrow" cS ["sizes","goals","widths"])(hrow_starts:ax P w K mg base aT 2 "row_starts" ["sizes","widths"] (lb K))(hfits:ax P w K mg base aT 2 "fits" ["starts","goals","widths","row"] yr):ax P w K mg base aT 3 "first_too_narrow" ["sizes","goals","widths"] (sT K):=by
 refine F.fR bZ (λvs H Q E h=>?_) (λf cdv A outer s H vs Q E hr h=>?_)
 ·obtain⟨a,b,c,ss,gs,ws,rfl,_⟩:=h;rfl
 ·have hu:=aR hr;obtain⟨a,b,c,ss,gs,ws,rfl,ha,hb,hc,h1,h2,h3,h5,h4,q⟩:=h;refine⟨_,(Z.aq (Z.se (i:=3) bZ.nd (Z.fc hrow_starts (Z.cons (Z.v 0) (Z.cons (Z.v 2) Z.nil))))
   (Z.aq (Z.iW K1 rfl (Z.DK K rfl rfl T.gC (Z.cons (Z.v 1) Z.nil)) (Z.q5 (n:=2) K rfl rfl (Z.b_ (Z.bu (i:=4) bZ.nd rfl (by right)) (Z.b_ (Z.bu (i:=5) bZ.nd rfl (by right)) Z.j3))) (Z.aA (Z.dJ (Z.tw (Z.p8 (Z.aZ iN (Z.v 5) Z.aU) (Z.j0 (Z.Bh (Z.wg K rfl (Z.fc hfits (Z.cons (Z.v 3) (Z.cons (Z.v 1) (Z.cons (Z.v 2) (Z.cons (Z.v 4) Z.nil)))))))))) (Z.aA (Z.ret (Z.v 4))) Z.bN)))
   (Z.aA (Z.ret Z.aU)))),?_⟩
  refine ay λN hN=>?_;walk_at "rz";refine⟨a,c,true,ss,gs,ws,rfl,ha,cf.of hc,λH' k=>cf.of (k _ _ hc (by simp)),h1,h2,h3,h4,λd H1 hd k1 g1=>?_⟩
  rw[hN];clear hN N;have sl:=jM ss gs ws 0 h1 h2;unfold dZ at q;generalize jm 0 ss gs ws=sp at *;refine ay λN hN=>?_;walk_at "rz";refine⟨⟨_,cf.of (k1 _ _ hb (by simp))⟩,?_⟩
  refine lI (xs:=gs.map cq) (λi σ H'=>∃o4 o5:Option V,KB [] H H'/\H' d=some (.lst (iV (nZ sp)))/\i<=gs.length/\(List.range' i (gs.length-i)).find? (ki sp gs ws)=(List.range' 0 gs.length).find? (ki sp gs ws)/\σ=[some (.ref a),some (.ref b),some (.ref c),some (.ref d),o4,o5]) ⟨none,none,k1,g1,Kh _,rfl,rfl⟩ (λi σ H' _ h=>by obtain⟨_,_,k,_⟩:=h;exact cf.of (k _ _ hb (by simp))) ?_ ?_
  ·rintro i x σ H' p hx ⟨o4,o5,hk,gd,hi,ef,rfl⟩ hp;have hlt:i<gs.length:=by have:=(JO.mp hx).1;rw[JK] at this;exact this
   have eg:=JI hlt;have gm:=Kf hlt;have ew:=JI (show i<ws.length by lia)
   have lw:=h4 _ (Kf (show i<ws.length by lia))
   generalize gs[i]'_=g at eg gm;generalize ws[i]'_=w0 at ew lw;rw[JW,eg] at hx;cases hx;rw[show gs.length-i=(gs.length-(i+1))+1 by lia,Lw,L4] at ef
   unfold bT;refine⟨p,_,rfl,bB.of ae,rfl,_,_,rfl,_,_,rfl,rfl,?_⟩;have kz:=KB.new (ex:=[]) (o:=.tup [.int i,cq g]) hp;generalize upd H' p (.tup [.int i,cq g])=H2 at *;have hk2:=hk.trans kz;have gd2:=kz _ _ gd (by simp)
   dsimp only;refine vc λM hM=>?_;refine DZ λA B hA hB=>?_;walk_at "rz";have go:ki sp gs ws i=false->∀G:Hp,KB [] H G->G d=some (.lst (iV (nZ sp)))->B [some (.ref a),some (.ref b),some (.ref c),some (.ref d),some (.int (i:Int)),some (cq g)] G:=λhf G kG gG=>by
    rw[hB];show M _ _;rw[hM];rw[hf] at ef;exact⟨_,_,kG,gG,hlt,ef,rfl⟩
   cases g with
   |none =>
    rw[JN (show ¬ ¬ cq none=V.aU from λz=>z rfl)];exact go (by unfold ki;rw[eg]) _ hk2 gd2
   |some t =>
    rw[JQ (show ¬ cq (some t)=V.aU from λz=>nomatch z)];have ht:t<=ss.length:=h5 t gm;refine⟨d,b,c,sp,gs,ws,i,t,w0,rfl,gd2,hk2 _ _ hb (by simp),hk2 _ _ hc (by simp),eg,ew,lw,by lia,by lia,?_⟩
    have et:ki sp gs ws i=!A2 w0 (fM sp t i):=by unfold ki;rw[eg,ew]
    refine⟨_,rfl,?_⟩
    cases co:A2 w0 (fM sp t i) with
    |true=>
     rw[JN (by decide)]
     exact go (by rw[et,co];rfl) _ hk2 gd2
    |false =>
     rw[JQ rfl,hA];rw[et,co] at ef;have ef':some i=(List.range' 0 gs.length).find? (ki sp gs ws):=ef;rw[<- ef'] at q;walk_at "rz";exact q _ hk2
  ·rintro σ H' ⟨o4,o5,hk,gd,hi,ef,rfl⟩;show N _ _;rw[hN];clear hN N;rw[JK,Li] at ef;have ef':none=(List.range' 0 gs.length).find? (ki sp gs ws):=ef;rw[<- ef'] at q;walk_at "rz";exact q _ hk
noncomputable def p0:Sp:=λvs H Q _=>∃(b:Addr) (gs:List (Option Nat)),vs=[.ref b]/\H b=some (.lst (gs.map cq))/\gs.length<=64/\∀d H',H d=none->KB [] H H'->H' d=some (.lst (iw gs (List.replicate gs.length 0)))->Q (.ref d) H'
theorem CG(gs:List (Option Nat)):iw gs (List.replicate gs.length 0)=gs.map λg=>wF g 0:=by
 induction gs with
 |nil=>rfl
 |cons g gs ih=>rw[J_,K4,Ku,<- ih];rfl
theorem vw(T:Txt K mg)(F:HasFn K mg "narrowest" eQ ["goals"]):ax P w K mg base aT 1 "narrowest" ["goals"] p0:=by
 refine F.fR nE (λvs H Q E h=>?_) (λf cdv A outer s H vs Q E hr h=>?_)
 ·obtain⟨b,gs,rfl,_⟩:=h;rfl
 ·have hu:=aR hr;obtain⟨b,gs,rfl,hb,hl,q⟩:=h;refine⟨_,(Z.aA (Z.ret (Z.C_ (osc:=af eQ) (ON:=["goals"]) (own:=["goal"]) (N:=["goal","goals"]) (aQ.of rfl (by decide +kernel)) (Z.any K rfl (Z.v 0)) (λnd _ _ _ _=>(Z.bu (i:=0) nd rfl (by right))) (λ_ _ _ _=>Z.vy) (λ_ _ _ _=>(Z.A5 (Z.aZ dH (Z.v 0) Z.aU) Z.aU Z.int))))),?_⟩
  exists aO hb;refine ip (xs:=gs.map cq) (JX (show _<=64 by rw[JK];exact hl) (by decide)) (λD i ys H'=>H D=none/\H' D=some (.lst ys)/\KB [] H H'/\ys=((gs.take i).map λg=>wF g 0)/\i<=gs.length) (λD hD=>⟨hD,ae,KB.new hD,rfl,Kh _⟩) (λD i ys H' h=>⟨h.2.1,by rw[h.2.2.2.1,JK,Ki];have:=h.2.2.2.2;lia⟩) (λD i ys H' h=>cf.of (h.2.2.1 _ _ hb (by simp))) ?_ ?_
  ·rintro D i ys H' x R hx ⟨g0,g1,gk,rfl,hi⟩ kk;have hlt:i<gs.length:=by have:=(JO.mp hx).1;rw[JK] at this;exact this
   have eg:=JI hlt;have et:gs.take (i+1)=gs.take i++[gs[i]]:=by rw[Lz,eg];rfl
   rw[JW,eg] at hx;cases hx;have fin:R (wF gs[i] 0) H':=kk _ _ g1 ⟨g0,ae,λu o e _=>by rw[ao (au e g0)];exact gk _ _ e (by simp),by rw[et,Kg];rfl,hlt⟩
   walk_at "rz"
   cases hg:gs[i] with
   |none=>rw[hg] at fin;rw[JQ (show cq none=V.aU from rfl)];exact fin
   |some t=>rw[hg] at fin;rw[JN (show ¬ cq (some t)=V.aU from λz=>nomatch z)];exact fin
  ·rintro D ys H' ⟨g0,g1,gk,rfl,hi⟩;refine q D H' g0 gk ?_;rw[g1,JK,KH,CG]
noncomputable def xC(ss:List Nat)(gs:List (Option Nat)):Nat->List Nat->List Nat
 |0,ws=>ws
 |m+1,ws=>match dZ ss gs ws with
  |none=>ws
  |some k=>xC ss gs m (ws.set k (ws.getD k 0+1))
noncomputable def Ac(ss:List Nat)(gs:List (Option Nat)):List Nat:=xC ss gs (2*ss.length+1) (List.replicate ss.length 0)
theorem Eu{gs:List (Option Nat)}{ws:List Nat}(hs:∀s∈ss,s<=150)(hn:ss.length<=64)(t k:Nat):A2 2 (fM (jm 0 ss gs ws) t k)=true:=by
 have h3:=xO (gs:=gs) (ws:=ws) hs t;have h4:=xO (gs:=gs) (ws:=ws) hs (k+1);unfold A2 fM;rw[Kw (show -cJ 2<=_ by show -32768<=_;lia),Kw (show _<cJ 2 by show _<32768;lia)]
 rfl
theorem ke(hs:∀s∈ss,s<=150)(hn:ss.length<=64)(hl:ws.length=ss.length)(hg:gs.length=ss.length)(hw:∀w∈ws,w<3)(h:dZ ss gs ws=some k):∃t w,gs[k]?=some (some t)/\ws[k]?=some w/\w<2:=by
 have h1:=List.find?_some h;have h2:=NW h;unfold ki at h1;have hk:k<gs.length:=by have:=List.mem_range'.mp h2;obtain⟨i,hi,e⟩:=this;lia
 have eg:=JI hk;have ew:=JI (show k<ws.length by lia)
 have lw:=hw _ (Kf (show k<ws.length by lia))
 rw[eg,ew] at h1;generalize gs[k]'_=g at *;generalize ws[k]'_=w at *
 cases g with
 |none=>cases h1
 |some t =>
  refine⟨t,w,eg,ew,?_⟩;rcases KG w 2 with c|c
  ·exact c
  ·have:w=2:=by lia
   subst this
   replace h1:(!A2 2 (fM (jm 0 ss gs ws) t k))=true:=h1
   rw[Eu hs hn t k] at h1;cases h1
theorem sh(h:dZ ss gs ws=none):B9 ss gs ws:=λk t w h1 h2=>by
 have hk:k<gs.length:=(JO.mp h1).1;have:=List.find?_eq_none.mp h k (List.mem_range'.mpr ⟨k,hk,by lia⟩)
 unfold ki at this;rw[h1,h2] at this
 simpa using this
theorem uI{l:List Nat}{w:Nat}(h:l[k]?=some w):(l.set k (l.getD k 0+1)).sum=l.sum+1:=by
 induction l generalizing k with
 |nil=>cases h
 |cons x l ih =>
  cases k with
  |zero=>show ((x+1)::l).sum=_;rw[M_,M_];lia
  |succ k=>show (x::l.set k (l.getD k 0+1)).sum=_;rw[M_,M_,ih (by simpa using h)];lia
theorem Ea{v:Nat}(h:gs[k]?=some (some t)):(iw gs ws).set k (.int (v:Nat))=iw gs (ws.set k v):=by
 induction gs generalizing ws k with
 |nil=>cases h
 |cons g gs ih =>
  cases ws with
  |nil=>rfl
  |cons w ws =>
   cases k with
   |zero=>cases h;rfl
   |succ k=>show wF g w::(iw gs ws).set k _=wF g w::iw gs (ws.set k v);rw[ih (by simpa using h)]
structure Wy (ss:List Nat) (gs:List (Option Nat)) (ws:List Nat):Prop where
 len:ws.length=ss.length
 lt:∀w∈ws,w<3
 to:xC ss gs (2*ss.length+1-ws.sum) ws=Ac ss gs
theorem Wy.zero(ss:List Nat)(gs:List (Option Nat)):Wy ss gs (List.replicate ss.length 0):=⟨Kb ..,λw hw=>by rw[(KU.mp hw).2];decide,by rw[Mg,OU];rfl⟩
theorem Wy.next(h:Wy ss gs ws)(hs:∀s∈ss,s<=150)(hn:ss.length<=64)(hg:gs.length=ss.length)(hf:dZ ss gs ws=some k):Wy ss gs (ws.set k (ws.getD k 0+1))/\(ws.set k (ws.getD k 0+1)).sum=ws.sum+1/\ws.sum<2*ss.length:=by
 obtain⟨t,w,e1,e2,e3⟩:=ke hs hn h.len hg h.lt hf;have es:=uI e2;have eg:ws.getD k 0=w:=by rw[JY,e2];rfl
 have hlt:∀x∈ws.set k (ws.getD k 0+1),x<3:=λx hx=>by
  rcases KA hx with z|z
  ·exact h.lt x z
  ·rw[z,eg];lia
 have hb:=jR hlt;rw[KD,h.len,es] at hb;refine⟨⟨by rw[KD,h.len],hlt,?_⟩,es,by lia⟩
 rw[es,<- h.to,show 2*ss.length+1-ws.sum=(2*ss.length+1-(ws.sum+1))+1 by lia,xC,hf]
theorem Wy.done(h:Wy ss gs ws)(hf:dZ ss gs ws=none):Ac ss gs=ws:=by
 rw[<- h.to];have hb:=jR h.lt;rw[h.len] at hb;rw[show 2*ss.length+1-ws.sum=(2*ss.length-ws.sum)+1 by lia,xC,hf]
theorem Wy.fit(hs:∀s∈ss,s<=150)(hn:ss.length<=64)(hg:gs.length=ss.length):∀(m:Nat) (ws:List Nat),Wy ss gs ws->2*ss.length+1-ws.sum<=m->Wy ss gs (Ac ss gs)/\B9 ss gs (Ac ss gs)
 |0,ws,h,hm=>by
  have hb:=jR h.lt;rw[h.len] at hb;lia
 |m+1,ws,h,hm=>by
  cases hf:dZ ss gs ws with
  |none=>rw[h.done hf];exact⟨h,sh hf⟩
  |some k =>
   obtain⟨h1,h2,h3⟩:=h.next hs hn hg hf;exact Wy.fit hs hn hg m _ h1 (by lia)
theorem Hk(hs:∀s∈ss,s<=150)(hn:ss.length<=64)(hg:gs.length=ss.length):(Ac ss gs).length=ss.length/\(∀w∈Ac ss gs,w<3)/\B9 ss gs (Ac ss gs):=by
 obtain⟨h1,h2⟩:=Wy.fit hs hn hg _ _ (Wy.zero ss gs) (JS _);exact⟨h1.len,h1.lt,h2⟩
noncomputable def pY(K:W.Frag):Sp:=λvs H Q _=>∃(a b:Addr) (ss:List Nat) (gs:List (Option Nat)),vs=[.ref a,.ref b]/\H a=some (.lst (iV (nZ ss)))/\H b=some (.lst (gs.map cq))/\gs.length=ss.length/\ss.length<=64/\(∀s∈ss,s<=150)/\(∀t,some t∈gs->t<=ss.length)/\∀t u v H',KB [] H H'->H' t=some (.tup [.ref u,v])->H' u=some (.tup (iw gs (Ac ss gs)))->Q (.ref t) H'
theorem v5(T:Txt K mg)(F:HasFn K mg "raised_till_good" cV ["sizes","goals"])(hnarrowest:ax P w K mg base aT 1 "narrowest" ["goals"] p0)(hfirst_too_narrow:ax P w K mg base aT 3 "first_too_narrow" ["sizes","goals","widths"] (sT K)):ax P w K mg base aT 4 "raised_till_good" ["sizes","goals"] (pY K):=by
 obtain⟨uW,hg_WIDEST,hr_WIDEST⟩:=T.yF;refine F.fR bI (λvs H Q E h=>?_) (λf cdv A outer s H vs Q E hr h=>?_)
 ·obtain⟨a,b,ss,gs,rfl,_⟩:=h;rfl
 ·have hu:=aR hr;obtain⟨a,b,ss,gs,rfl,ha,hb,hg,hn,hs,ht,q⟩:=h;refine⟨_,(Z.aq (Z.se (i:=2) bI.nd (Z.fc hnarrowest (Z.cons (Z.v 1) Z.nil)))
   (Z.aq (Z.se (i:=3) bI.nd (Z.lst Z.nil))
   (Z.aq (Z.se (i:=4) bI.nd (Z.fc hfirst_too_narrow (Z.cons (Z.v 0) (Z.cons (Z.v 1) (Z.cons (Z.v 2) Z.nil)))))
   (Z.aq (Z.nr K1 (Z.aZ iN (Z.v 4) Z.aU) (Z.aq (Z.dJ (Z.aZ b8 (Z.ix (Z.aP K rfl hu) (Z.v 2) (Z.v 4)) (Z.glob rfl hg_WIDEST hr_WIDEST)) (Z.aA Z.Hi) Z.bN)
   (Z.aq (Z.asg (Z.op (Z.bp K rfl) (Z.ix (Z.aP K rfl hu) (Z.v 2) (Z.v 4)) Z.int) (Z.rR (Z.v 2) (Z.v 4)))
   (Z.aq (Z.expr (Z.app K (Z.v 3) (Z.cons (Z.v 4) Z.nil)))
   (Z.aA (Z.se (i:=4) bI.nd (Z.fc hfirst_too_narrow (Z.cons (Z.v 0) (Z.cons (Z.v 1) (Z.cons (Z.v 2) Z.nil))))))))))
   (Z.aA (Z.ret (Z.tup (Z.cons (Z.ct (Z.cQ K rfl) rfl T.cO (by decide +kernel) (Z.cons (Z.v 2) Z.nil)) (Z.cons (Z.ct (Z.cQ K rfl) rfl T.cO (by decide +kernel) (Z.cons (Z.v 3) Z.nil)) Z.nil))))))))),?_⟩
  refine ay λN hN=>?_;walk_at "rz";refine⟨b,gs,rfl,hb,by lia,λd H1 hd k1 g1=>?_⟩
  rw[hg] at g1;rw[hN];clear hN N;refine ay λN hN=>?_;walk_at "rz";refine⟨Kh _,λpp hpp=>?_⟩;have k2:=KB.new (ex:=[]) (o:=.lst []) hpp;have s2:upd H1 pp (.lst []) pp=some (.lst (iV (nZ []))):=ae;generalize upd H1 pp (.lst [])=H2 at *;have g2:=k2 _ _ g1 (by simp)
  have k02:=k1.trans k2;have hppH:H pp=none:=k1.free (by simp) hpp
  have dpp:d≠pp:=λz=>by rw[z,hpp] at g1;cases g1
  rw[hN];clear hN N;refine ay λN hN=>?_;walk_at "rz";have wy0:=Wy.zero ss gs;refine⟨a,b,d,ss,gs,_,rfl,k02 _ _ ha (by simp),k02 _ _ hb (by simp),g2,hg,wy0.len,hn,ht,wy0.lt,λH3 k3=>?_⟩
  rw[hN];clear hN N;have k03:=k02.trans k3;have g3:=k3 _ _ g2 (by simp)
  have s3:=k3 _ _ s2 (by simp)
  refine ay λN hN=>?_;refine⟨λm σ H'=>∃(ws pa:List Nat),m=2*ss.length-ws.sum/\Wy ss gs ws/\pa.length=ws.sum/\KB [] H H'/\H' d=some (.lst (iw gs ws))/\H' pp=some (.lst (iV (nZ pa)))/\σ=[some (.ref a),some (.ref b),some (.ref d),some (.ref pp),some (wQ (dZ ss gs ws))],⟨2*ss.length,_,[],by rw[Mg,OU];rfl,wy0,by rw[Mg,OU];rfl,k03,g3,s3,rfl⟩,?_⟩
  rintro m σ H' ⟨ws,pa,rfl,wy,hpa,hk,gd,gp,rfl⟩;walk_at "rz"
  cases hf:dZ ss gs ws with
  |none =>
   rw[JN (show ¬ ¬ wQ none=V.aU from λz=>z rfl)];show N _ _;rw[hN];clear hN N;rw[wy.done hf] at q;exists aO gd;intro u hu';have k5:=KB.new (ex:=[]) (o:=.tup (iw gs ws)) hu';have s5:upd H' u (.tup (iw gs ws)) u=_:=ae;have gp5:=k5 _ _ gp (by simp)
   generalize upd H' u (.tup (iw gs ws))=H5 at *;exists aO gp5;intro u2 hu2;have k6:=KB.new (ex:=[]) (o:=.tup (iV (nZ pa))) hu2;have s6:=k6 _ _ s5 (by simp)
   generalize upd H5 u2 (.tup (iV (nZ pa)))=H6 at *;refine⟨by decide,λt ht=>?_⟩
   have k7:=KB.new (ex:=[]) (o:=.tup [.ref u,.ref u2]) ht;exact q t u _ _ (hk.trans (k5.trans (k6.trans k7))) ae (k7 _ _ s6 (by simp))
  |some k =>
   rw[JQ (show ¬ wQ (some k)=V.aU from λz=>nomatch z)];obtain⟨t,w0,e1,e2,e3⟩:=ke hs hn wy.len hg wy.lt hf;obtain⟨wn,ws1,ws2⟩:=wy.next hs hn hg hf;refine⟨λσ' H'=>∃m',m'<2*ss.length-ws.sum/\∃(ws pa:List Nat),m'=2*ss.length-ws.sum/\Wy ss gs ws/\pa.length=ws.sum/\KB [] H H'/\H' d=some (.lst (iw gs ws))/\H' pp=some (.lst (iV (nZ pa)))/\σ'=[some (.ref a),some (.ref b),some (.ref d),some (.ref pp),some (wQ (dZ ss gs ws))],λ_ _ h=>h,?_⟩;have aw:cI (iw gs ws) (k:Int)=some (.int (w0:Nat)):=b9 (ni e1 e2);have eg:ws.getD k 0=w0:=by rw[JY,e2];rfl
   rw[eg] at wn ws1;show BP K (V.ref d) (.int (k:Nat)) H' _;exists aO gd,aw;have c2:¬ (w0:Int)=2:=by lia
   have c3:lV (iw gs ws).length (k:Int)=some k:=by
    have hkl:=(JO.mp e2).1;have:=wy.len;rw[Aa (by lia)]
    unfold lV;rw[JQ (by lia),JQ (by lia),Ky]
   rw[JN c2];show BP K (V.ref d) (.int (k:Nat)) H' _;exists aO gd,aw;show zc (V.ref d) (.int (k:Nat)) (.int ((w0:Int)+1)) H' _;exists gd,c3;rw[show ((w0:Int)+1)=((w0+1:Nat):Int) from rfl,Ea e1];have hdd:H d=none:=hd;have kd:KB [] H (upd H' d (.lst (iw gs (ws.set k (w0+1))))):=λu o e z=>by rw[ao (au e hdd)];exact hk _ _ e z
   have gd5:upd H' d (.lst (iw gs (ws.set k (w0+1)))) d=_:=ae;have gp5:upd H' d (.lst (iw gs (ws.set k (w0+1)))) pp=some (.lst (iV (nZ pa))):=by rw[ao dpp.symm];exact gp
   generalize upd H' d (.lst (iw gs (ws.set k (w0+1))))=H5 at *;refine⟨.inl ⟨rfl,_,cf.of gp5⟩,pp,_,_,rfl,rfl,gp5,KN (show _<=1000 by rw[fQ,hpa];lia) (by decide),?_⟩
   have kp:KB [] H (upd H5 pp (.lst (iV (nZ pa)++[wQ (some k)]))):=λu o e z=>by rw[ao (au e hppH)];exact kd _ _ e z
   have gd6:upd H5 pp (.lst (iV (nZ pa)++[wQ (some k)])) d=some (.lst (iw gs (ws.set k (w0+1)))):=by rw[ao dpp];exact gd5
   have gp6:upd H5 pp (.lst (iV (nZ pa)++[wQ (some k)])) pp=some (.lst (iV (nZ (pa++[k])))):=by rw[ae];unfold nZ;rw[Kg,nR];rfl
   generalize upd H5 pp (.lst (iV (nZ pa)++[wQ (some k)]))=H6 at *;refine⟨a,b,d,ss,gs,_,rfl,kp _ _ ha (by simp),kp _ _ hb (by simp),gd6,hg,wn.len,hn,ht,wn.lt,λH7 k7=>?_⟩
   exact⟨2*ss.length-(ws.sum+1),by lia,ws.set k (w0+1),pa++[k],by rw[ws1],wn,by rw[JL,ws1,hpa];rfl,kp.trans k7,k7 _ _ gd6 (by simp),k7 _ _ gp6 (by simp),rfl⟩
noncomputable def qm(K:W.Frag):Sp:=λvs H Q _=>∃(a b:Addr) (ss:List Nat) (gs:List (Option Nat)),vs=[.ref a,.ref b]/\H a=some (.lst (iV (nZ ss)))/\H b=some (.lst (gs.map cq))/\gs.length=ss.length/\ss.length<=64/\(∀s∈ss,s<=150)/\(∀t,some t∈gs->t<=ss.length)/\∀u H',KB [] H H'->H' u=some (.tup (iw gs (Ac ss gs)))->Q (.ref u) H'
theorem vY(T:Txt K mg)(F:HasFn K mg "least_widths" ee ["sizes","goals"])(hraised_till_good:ax P w K mg base aT 4 "raised_till_good" ["sizes","goals"] (pY K)):ax P w K mg base aT 5 "least_widths" ["sizes","goals"] (qm K):=by
 refine F.fR jD (λvs H Q E h=>?_) (λf cdv A outer s H vs Q E hr h=>?_)
 ·obtain⟨a,b,ss,gs,rfl,_⟩:=h;rfl
 ·have hu:=aR hr;obtain⟨a,b,ss,gs,rfl,ha,hb,hg,hn,hs,ht,q⟩:=h;refine⟨_,(Z.aA (Z.ret (Z.ix (Z.aP K rfl hu) (Z.fc hraised_till_good (Z.cons (Z.v 0) (Z.cons (Z.v 1) Z.nil))) Z.int))),?_⟩;walk_at "rz";refine⟨a,b,ss,gs,rfl,ha,hb,hg,hn,hs,ht,λt u v H' k h1 h2=>?_⟩;exists aM h1,Fq;exact q u H' k h2
theorem EY:200000<=sizeLine:=by decide
noncomputable def DC:List Key:=[.inr "a",.inr "b",.inr "c",.inr "d",.inr "e",.inr "f",.inr "g",.inr "h"]
structure f_ where
 given:List Int
 heard:Nat
 told:List Int
 bs:List Int
structure MA where
 m:Addr
 dx:Addr
 gv:Addr
 tl:Addr
 bx:Addr
noncomputable def yL(a:MA)(h:Nat):List (Str×V):=[("given",.ref a.gv),("heard",.int (h:Nat)),("told",.ref a.tl),("boxes",.ref a.bx)]
structure MS (K:W.Frag) (C:Addr) (H:Hp) (a:MA) (st:f_):Prop where
 om:H a.m=some (.ins C a.dx (yL a st.heard))
 od:H a.dx=some (.own a.m)
 og:H a.gv=some (.tup (iV st.given))
 ot:H a.tl=some (.lst (iV st.told))
 ob:H a.bx=some (.dK (DC.zip (iV st.bs)))
 l8:st.bs.length=8
 hh:st.heard<=st.given.length
noncomputable def MF(a:MA):List Addr:=[a.m,a.tl,a.bx]
theorem pz(a:MA)(h:Nat):(yL a h).lookup ("given":Str)=some (.ref a.gv):=rfl
theorem lJ(a:MA)(h:Nat):(yL a h).lookup ("heard":Str)=some (.int (h:Nat)):=rfl
theorem sP(a:MA)(h:Nat):(yL a h).lookup ("told":Str)=some (.ref a.tl):=rfl
theorem fD(a:MA)(h:Nat):(yL a h).lookup ("boxes":Str)=some (.ref a.bx):=rfl
theorem wx(a:MA)(h k:Nat):cT "heard" (.int (k:Nat)) (yL a h)=yL a k:=rfl
theorem MS.ne1{a:MA}{st:f_}(M:MS K C H a st):a.tl≠a.m/\a.bx≠a.m/\a.gv≠a.m/\a.dx≠a.m/\a.bx≠a.tl/\a.gv≠a.tl/\a.dx≠a.tl/\a.gv≠a.bx/\a.dx≠a.bx:=by
 have h1:=M.om;have h2:=M.od;have h3:=M.og;have h4:=M.ot;have h5:=M.ob;have ap:∀{x y:Addr} {o o':HO},H x=some o->H y=some o'->o≠o'->x≠y:=λh h' n e=>n (by rw[e] at h;exact Option.some.inj (h.symm.trans h'))
 exact⟨ap h4 h1 (by simp),ap h5 h1 (by simp),ap h3 h1 (by simp),ap h2 h1 (by simp),ap h5 h4 (by simp),ap h3 h4 (by simp),ap h2 h4 (by simp),ap h3 h5 (by simp),ap h2 h5 (by simp)⟩
noncomputable def uf(K:W.Frag)(C:Addr):Sp:=λvs H Q _=>∃(a:MA) (st:f_),vs=[.ref a.m]/\MS K C H a st /\
 (st.given.length<=st.heard->Q (.int 0) H)/\∀x,st.given[st.heard]?=some x->∀H',MS K C H' a {st with heard:=st.heard+1}->KB (MF a) H H'->Q (.int x) H'
theorem pN(T:Txt K mg)(cM:iE K C)(na_given:bf K C "given")(na_heard:bf K C "heard")(F:gX K "heard_number" "Machine.heard_number" aG f fd):cg P w K mg base aT 1 f fd ["self"] (uf K C):=by
 refine F.ok ft (λvs H Q E h=>?_) (λcdv A outer s H vs Q E hr h=>?_)
 ·obtain⟨a,st,rfl,_⟩:=h;rfl
 ·obtain⟨a,st,rfl,M,q1,q2⟩:=h;have hu:=aR hr;have key:∃t,QB (dM aT P w K mg base ["self"] "Machine.heard_number" (af aG) f cdv A outer s H E).lW (aI aG) t/\t {nx:=λ_ H'=>Q .aU H',rt:=Q} (start ["self"] [.ref a.m]) H:=by
   refine⟨_,(Z.aq (Z.dJ (Z.aZ sZ (Z.fld K rfl (Z.v 0)) (Z.cb (Z.cY K rfl) rfl T.cN (by decide +kernel) (Z.cons (Z.fld K rfl (Z.v 0)) Z.nil))) (Z.aA (Z.ret Z.int)) Z.bN)
   (Z.aq (Z.oi K rfl (Z.v 0) (Z.op (Z.bp K rfl) (Z.fld K rfl (Z.v 0)) Z.int))
   (Z.aA (Z.ret (Z.ix (Z.aP K rfl hu) (Z.fld K rfl (Z.v 0)) (Z.op dI (Z.fld K rfl (Z.v 0)) Z.int)))))),?_⟩
   have e1:sq H a.gv=some (false,iV st.given):=aM M.og;have hl:(iV st.given).length=st.given.length:=JK ..;refine ay λN hN=>?_;walk_at "rz";refine⟨a.m,C,a.dx,_,_,rfl,M.om,cM,na_heard,lJ a _,a.m,C,a.dx,_,_,rfl,M.om,cM,na_given,pz a _,?_⟩;simp only[L2.Ap.Aw,e1,hl];walk_at "rz";by_cases h1:st.given.length<=st.heard
   ·rw[JQ (by omega)]
    exact q1 h1
   ·rw[JN (by omega),hN];clear hN N
    have h2:st.heard<st.given.length:=by omega
    obtain⟨n1,n2,n3,n4,n5,n6,n7,n8,n9⟩:=M.ne1;have M':MS K C (upd H a.m (.ins C a.dx (yL a (st.heard+1)))) a {st with heard:=st.heard+1}:=⟨ae,by rw[ao n4];exact M.od,by rw[ao n3];exact M.og,by rw[ao n1];exact M.ot,by rw[ao n2];exact M.ob,M.l8,h2⟩
    refine ay λN hN=>?_;walk_at "rz";refine⟨a.m,C,a.dx,_,_,rfl,M.om,cM,na_heard,lJ a _,?_⟩;walk_at "rz";refine⟨a.m,C,a.dx,_,rfl,M.om,cM,na_heard,(show 4<1000 by decide),?_⟩
    rw[show ((st.heard:Nat):Int)+1=((st.heard+1:Nat):Int) from rfl,wx,hN];clear hN N;walk_at "rz";refine⟨a.m,C,a.dx,_,_,rfl,M'.om,cM,na_given,pz a _,a.m,C,a.dx,_,_,rfl,M'.om,cM,na_heard,lJ a _,?_⟩;have e2:sq (upd H a.m (.ins C a.dx (yL a (st.heard+1)))) a.gv=some (false,iV st.given):=aM M'.og;have e3:cI (iV st.given) (((st.heard+1:Nat):Int)-1)=some (V.int st.given[st.heard]):=by
     rw[show ((st.heard+1:Nat):Int)-1=((st.heard:Nat):Int) by omega]
     exact b9 (by unfold iV;rw[JW,JI h2];rfl)
    simp only[L2.Ap.wu,L2.Ap.fC,e2,e3];exact q2 _ (JI h2) _ M' (KB.set (by unfold MF;simp))
  obtain⟨t,hb,ht⟩:=key;exact⟨t,hb.h,ht⟩
noncomputable def qy(bs:List Int)(b:Nat):Int:=bs[b]?.getD 0
theorem qY:∀(b:Nat),b<8->∀bs:List Int,bs.length=8->ia (DC.zip (iV bs)) (.inr (bY b))=some (.int (qy bs b)):=by
 intro b hb bs hl;obtain⟨x0,x1,x2,x3,x4,x5,x6,x7,rfl⟩:=HK hl;rcases Gi hb with rfl|rfl|rfl|rfl|rfl|rfl|rfl|rfl<;>rfl
theorem FL:∀(b:Nat),b<8->∀(bs:List Int) (x:Int),bs.length=8->putK (DC.zip (iV bs)) (.inr (bY b)) (.int x)=DC.zip (iV (bs.set b x)):=by
 intro b hb bs x hl;obtain⟨x0,x1,x2,x3,x4,x5,x6,x7,rfl⟩:=HK hl;rcases Gi hb with rfl|rfl|rfl|rfl|rfl|rfl|rfl|rfl<;>rfl
noncomputable def cL(st:f_):Int×f_:=match st.given[st.heard]? with
 |some x=>(x,{st with heard:=st.heard+1})
 |none=>(0,st)
noncomputable def cC(st:f_):dF->Int×f_
 |.put _ n=>((n:Nat),st)
 |.two w a b=>((match w with
  |0=>(qy st.bs a+qy st.bs b) % 65536
  |1=>(qy st.bs a-qy st.bs b) % 65536
  |2=>qy st.bs b % 65536),st)
 |.one _ _=>((cL st).1 % 65536,(cL st).2)
 |_=>(0,st)
noncomputable def isNum:dF->Bool
 |.put _ _=>true
 |.two _ _ _=>true
 |.one 1 _=>true
 |_=>false
noncomputable def DJ(K:W.Frag)(C:Addr):Sp:=λvs H Q _=>∃(a:MA) (st:f_) (p:Addr) (r:dF),vs=[.ref a.m,.ref p]/\MS K C H a st/\H p=some (.tup r.vs)/\r.Ok/\isNum r=true /\
 ∀H',MS K C H' a (cC st r).2->KB (MF a) H H'->Q (.int (cC st r).1) H'
theorem xJ{fh:Addr}{d_heard_number:FuncData}(T:Txt K mg)(cM:iE K C)(na_boxes:bf K C "boxes")(mm_heard_number:Meth K C "heard_number" fh)(bm_heard_number:Binds K d_heard_number ["self"] [])(FO_heard_number:cg P w K mg base aT 1 fh d_heard_number ["self"] (uf K C))(F:gX K "number_for" "Machine.number_for" aJ f fd):cg P w K mg base aT 2 f fd ["self","row"] (DJ K C):=by
 obtain⟨u_WHOLE,hg_WHOLE,hr_WHOLE⟩:=T.Ct;refine F.ok bO (λvs H Q E h=>?_) (λcdv A outer s H vs Q E hr h=>?_)
 ·obtain⟨a,st,p,r,rfl,_⟩:=h;rfl
 ·obtain⟨a,st,p,r,rfl,M,hp,bc,hi,q⟩:=h;have hu:=aR hr;have key:∃t,QB (dM aT P w K mg base ["self","row","word","old","other"] "Machine.number_for" (af aJ) f cdv A outer s H E).lW (aI aJ) t/\t {nx:=λ_ H'=>Q .aU H',rt:=Q} (start ["self","row","word","old","other"] [.ref a.m,.ref p]) H:=by
   refine⟨_,(Z.aq (Z.se (i:=2) bO.nd (Z.ix (Z.aP K rfl hu) (Z.v 1) Z.int))
   (Z.aq (Z.dJ (Z.aZ b8 (Z.v 2) Z.str) (Z.aA (Z.ret (Z.ix (Z.aP K rfl hu) (Z.v 1) Z.int))) Z.bN)
   (Z.aq (Z.dJ (Z.aZ b8 (Z.v 2) Z.str) (Z.aA (Z.ret (Z.op cU (Z.d_ K rfl (Z.v 0) cM mm_heard_number FO_heard_number (hr.mono (by decide)) bm_heard_number cu) (Z.glob rfl hg_WHOLE hr_WHOLE)))) Z.bN)
   (Z.aq (Z.se (i:=3) bO.nd (Z.xm hu (Z.fld K rfl (Z.v 0)) (Z.ix (Z.aP K rfl hu) (Z.v 1) Z.int)))
   (Z.aq (Z.se (i:=4) bO.nd (Z.xm hu (Z.fld K rfl (Z.v 0)) (Z.ix (Z.aP K rfl hu) (Z.v 1) Z.int)))
   (Z.aq (Z.dJ (Z.aZ b8 (Z.v 2) Z.str) (Z.aA (Z.ret (Z.op cU (Z.op (Z.bp K rfl) (Z.v 3) (Z.v 4)) (Z.glob rfl hg_WHOLE hr_WHOLE)))) Z.bN)
   (Z.aq (Z.dJ (Z.aZ b8 (Z.v 2) Z.str) (Z.aA (Z.ret (Z.op cU (Z.op dI (Z.v 3) (Z.v 4)) (Z.glob rfl hg_WHOLE hr_WHOLE)))) Z.bN)
   (Z.aA (Z.ret (Z.op cU (Z.v 4) (Z.glob rfl hg_WHOLE hr_WHOLE))))))))))),?_⟩
   have e1:sq H p=some (false,r.vs):=aM hp;refine ay λN hN=>?_;walk_at "rz";simp only[L2.Ap.fC,e1];have dg:∀b,b<8->wk H a.bx (.str (bY b)) (some (.int (qy st.bs b))):=λb hb=>.inl ⟨_,.inr (bY b),.inl M.ob,rfl,(qY b hb st.bs M.l8).symm⟩;have sD:∀{x y:Str} {P1 P2:Prop},x≠y->P2->(if x=y then P1 else P2):=λh h2=>by rw[JN h];exact h2
   cases r with
   |put b n =>
    show N [some (.ref a.m),some (.ref p),some (.str "put"),none,none] H;rw[hN];clear hN N;refine ay λN hN=>?_;walk_at "rz";simp only[L2.Ap.fC,e1];exact q H M (KB.refl _ _)
   |two u b c =>
    show N [some (.ref a.m),some (.ref p),some (.str (w2 u)),none,none] H;have hput:w2 u≠"put":=(show ∀u,w2 u≠"put" by decide +kernel) u
    have hhear:w2 u≠"hear":=(show ∀u,w2 u≠"hear" by decide +kernel) u
    rw[hN];clear hN N;refine ay λN hN=>?_;walk_at "rz";refine sD hput ?_;rw[hN];clear hN N;refine ay λN hN=>?_;walk_at "rz";refine sD hhear ?_;rw[hN];clear hN N;refine ay λN hN=>?_;walk_at "rz";refine⟨a.m,C,a.dx,_,_,rfl,M.om,cM,na_boxes,fD a _,?_⟩;simp only[L2.Ap.fC,e1];refine⟨a.bx,_,rfl,dg b bc.1,?_⟩;rw[hN];clear hN N;refine ay λN hN=>?_;walk_at "rz";refine⟨a.m,C,a.dx,_,_,rfl,M.om,cM,na_boxes,fD a _,?_⟩;simp only[L2.Ap.fC,e1];refine⟨a.bx,_,rfl,dg c bc.2,?_⟩;rw[hN];clear hN N;have fin:=q H M (KB.refl _ _);have hs:w2 1="sub":=rfl;refine ay λN hN=>?_;walk_at "rz";rcases zr u with rfl|rfl|rfl
    ·rw[JQ (show w2 0="add" from rfl)];exact⟨by decide,fin⟩
    ·refine sD (by decide +kernel) ?_
     rw[hN];clear hN N;refine ay λN hN=>?_;walk_at "rz";rw[JQ (show w2 1="sub" from rfl)];exact⟨by decide,fin⟩
    ·refine sD (by decide +kernel) ?_
     rw[hN];clear hN N;refine ay λN hN=>?_;walk_at "rz";refine sD (by decide +kernel) ?_
     rw[hN];clear hN N;walk_at "rz";exact⟨by decide,fin⟩
   |one u b =>
    have hu1:u=1:=by
     rcases iQ u with h|h
     ·rw[h] at hi;cases hi
     ·exact h
    subst hu1;show N [some (.ref a.m),some (.ref p),some (.str "hear"),none,none] H;rw[hN];clear hN N;refine ay λN hN=>?_;walk_at "rz";refine sD (by decide +kernel) ?_
    rw[hN];clear hN N;refine ay λN hN=>?_;walk_at "rz";refine⟨a.m,a.dx,_,rfl,M.om,rfl,a,st,rfl,M,λh=>?_,λx hx H' M' kb=>?_⟩
    ·have e0:cL st=(0,st):=by unfold cL;rw[L0.mpr h]
     have e2:cC st (.one 1 b)=(0 % 65536,st):=by unfold cC;rw[e0]
     rw[e2] at q;walk_at "rz";exact⟨by decide,q H M (KB.refl _ _)⟩
    ·have e0:cL st=(x,{st with heard:=st.heard+1}):=by unfold cL;rw[hx]
     have e2:cC st (.one 1 b)=(x % 65536,{st with heard:=st.heard+1}):=by unfold cC;rw[e0]
     rw[e2] at q;walk_at "rz";exact⟨by decide,q H' M' kb⟩
   |jump g=>cases hi
   |zero b g=>cases hi
   |halt=>cases hi
  obtain⟨t,hb,ht⟩:=key;exact⟨t,hb.h,ht⟩
noncomputable def carry(st:f_):dF->Bool×f_
 |.jump _=>(true,st)
 |.zero b _=>(decide (qy st.bs b=0),st)
 |.one 0 b=>(false,{st with told:=st.told++[qy st.bs b]})
 |.halt=>(false,st)
 |.put b n=>(false,{(cC st (.put b n)).2 with bs:=(cC st (.put b n)).2.bs.set b (cC st (.put b n)).1})
 |.two w a b=>(false,{(cC st (.two w a b)).2 with bs:=(cC st (.two w a b)).2.bs.set a (cC st (.two w a b)).1})
 |.one 1 b=>(false,{(cC st (.one 1 b)).2 with bs:=(cC st (.one 1 b)).2.bs.set b (cC st (.one 1 b)).1})
noncomputable def tO(K:W.Frag)(C:Addr):Sp:=λvs H Q _=>∃(a:MA) (st:f_) (p:Addr) (r:dF),vs=[.ref a.m,.ref p]/\MS K C H a st/\H p=some (.tup r.vs)/\r.Ok/\st.told.length<100000 /\
 ∀H',MS K C H' a (carry st r).2->KB (MF a) H H'->Q (.bl (carry st r).1) H'
theorem qF{fn:Addr}{d_number_for:FuncData}(T:Txt K mg)(cM:iE K C)(na_boxes:bf K C "boxes")(na_told:bf K C "told")(mm_number_for:Meth K C "number_for" fn)(bm_number_for:Binds K d_number_for ["self","row"] [])(FO_number_for:cg P w K mg base aT 2 fn d_number_for ["self","row"] (DJ K C))(F:gX K "carry_out" "Machine.carry_out" aN f fd):cg P w K mg base aT 3 f fd ["self","row"] (tO K C):=by
 refine F.ok dE (λvs H Q E h=>?_) (λcdv A outer s H vs Q E hr h=>?_)
 ·obtain⟨a,st,p,r,rfl,_⟩:=h;rfl
 ·obtain⟨a,st,p,r,rfl,M,hp,bc,htl,q⟩:=h;have hu:=aR hr;have key:∃t,QB (dM aT P w K mg base ["self","row","word"] "Machine.carry_out" (af aN) f cdv A outer s H E).lW (aI aN) t/\t {nx:=λ_ H'=>Q .aU H',rt:=Q} (start ["self","row","word"] [.ref a.m,.ref p]) H:=by
   refine⟨_,(Z.aq (Z.se (i:=2) dE.nd (Z.ix (Z.aP K rfl hu) (Z.v 1) Z.int))
   (Z.aq (Z.dJ (Z.aZ b8 (Z.v 2) Z.str) (Z.aA (Z.ret Z.bl)) Z.bN)
   (Z.aq (Z.dJ (Z.aZ b8 (Z.v 2) Z.str) (Z.aA (Z.ret (Z.cmp b8 (Z.xm hu (Z.fld K rfl (Z.v 0)) (Z.ix (Z.aP K rfl hu) (Z.v 1) Z.int)) Z.int))) Z.bN)
   (Z.aq (Z.dJ (Z.aZ b8 (Z.v 2) Z.str) (Z.aA (Z.expr (Z.app K (Z.fld K rfl (Z.v 0)) (Z.cons (Z.xm hu (Z.fld K rfl (Z.v 0)) (Z.ix (Z.aP K rfl hu) (Z.v 1) Z.int)) Z.nil)))) (Z.aA (Z.dJ (Z.aZ yS (Z.v 2) Z.str) (Z.aA (Z.dput hu (Z.fld K rfl (Z.v 0)) (Z.ix (Z.aP K rfl hu) (Z.v 1) Z.int) (Z.rZ K rfl (Z.v 0) cM mm_number_for FO_number_for (hr.mono (by decide)) bm_number_for cu (Z.cons (Z.v 1) Z.nil)))) Z.bN)))
   (Z.aA (Z.ret Z.bl)))))),?_⟩
   have e1:sq H p=some (false,r.vs):=aM hp;obtain⟨n1,n2,n3,n4,n5,n6,n7,n8,n9⟩:=M.ne1;refine ay λN hN=>?_;walk_at "rz";simp only[L2.Ap.fC,e1];have dg:∀b,b<8->wk H a.bx (.str (bY b)) (some (.int (qy st.bs b))):=λb hb=>.inl ⟨_,.inr (bY b),.inl M.ob,rfl,(qY b hb st.bs M.l8).symm⟩;have sD:∀{x y:Str} {P1 P2:Prop},x≠y->P2->(if x=y then P1 else P2):=λh h2=>by rw[JN h];exact h2
   have go:∀(r':dF) (wd:Str) (b:Nat),r.vs=.str wd::.str (bY b)::(r.vs.drop 2)->b<8->isNum r=true->wd≠"jump"->wd≠"zero"->wd≠"tell"->wd≠"halt"->carry st r=(false,{(cC st r).2 with bs:=(cC st r).2.bs.set b (cC st r).1})->N [some (.ref a.m),some (.ref p),some (.str wd)] H:=by
    intro r' wd b ev hb hi w1 w2 w3 w4 ec;rw[hN];clear hN N;refine ay λN hN=>?_;walk_at "rz";refine sD w1 ?_;rw[hN];clear hN N;refine ay λN hN=>?_;walk_at "rz";refine sD w2 ?_;rw[hN];clear hN N;refine ay λN hN=>?_;walk_at "rz";refine sD w3 ?_;rw[JQ (show ¬ wd="halt" from w4)];refine⟨a.m,a.dx,_,rfl,M.om,rfl,a,st,p,r,rfl,M,hp,bc,hi,λH1 M1 kb=>?_⟩;have hp1:H1 p=some (.tup r.vs):=kb _ _ hp (by
     unfold MF;simp only[JR,Kt,La,not_or];exact⟨λe=>(by rw[e,M.om] at hp;cases hp),λe=>(by rw[e,M.ot] at hp;cases hp),λe=>(by rw[e,M.ob] at hp;cases hp)⟩)
    have e2:sq H1 p=some (false,r.vs):=aM hp1;refine⟨a.m,C,a.dx,_,_,rfl,M1.om,cM,na_boxes,fD a _,?_⟩;rw[e2,ev];simp only[AE];obtain⟨k1,k2,k3,k4,k5,k6,k7,k8,k9⟩:=M1.ne1;refine⟨a.bx,_,rfl,.inl ⟨_,.inr (bY b),M1.ob,rfl,?_,rfl⟩,?_⟩
    ·have l8:=M1.l8;rw[Ot];exact KN (Nat.min_le_left _ _) (by decide)
    rw[FL b hb _ _ M1.l8,hN];clear hN N;walk_at "rz";rw[ec] at q;refine q _ ⟨by rw[ao k2.symm];exact M1.om,by rw[ao k9];exact M1.od,by rw[ao k8];exact M1.og,by rw[ao k5.symm];exact M1.ot,ae,by rw[KD];exact M1.l8,M1.hh⟩ (kb.trans (KB.set (by unfold MF;simp)))
   cases r with
   |put b n=>exact go (.put b n) "put" b rfl bc rfl (by decide +kernel) (by decide +kernel) (by decide +kernel) (by decide +kernel) rfl
   |two u b c=>exact go (.two u b c) (w2 u) b rfl bc.1 rfl ((show ∀u,w2 u≠"jump" by decide +kernel) u) ((show ∀u,w2 u≠"zero" by decide +kernel) u) ((show ∀u,w2 u≠"tell" by decide +kernel) u) ((show ∀u,w2 u≠"halt" by decide +kernel) u) rfl
   |one u b =>
    rcases iQ u with rfl|rfl
    rotate_left
    ·exact go (.one 1 b) "hear" b rfl bc rfl (by decide +kernel) (by decide +kernel) (by decide +kernel) (by decide +kernel) rfl
    ·show N [some (.ref a.m),some (.ref p),some (.str "tell")] H;rw[hN];clear go hN N;refine ay λN hN=>?_;walk_at "rz";refine sD (by decide +kernel) ?_
     rw[hN];clear hN N;refine ay λN hN=>?_;walk_at "rz";refine sD (by decide +kernel) ?_
     rw[hN];clear hN N;refine ay λN hN=>?_;walk_at "rz";refine⟨a.m,C,a.dx,_,_,rfl,M.om,cM,na_told,sP a _,Or.inl ⟨rfl,_,cf.of M.ot⟩,a.m,C,a.dx,_,_,rfl,M.om,cM,na_boxes,fD a _,?_⟩;simp only[L2.Ap.fC,e1];refine⟨a.bx,_,rfl,dg b bc,?_⟩;refine⟨a.tl,_,_,rfl,rfl,M.ot,?_,?_⟩
     ·unfold iV;rw[JK];exact Mp htl (Kp (by decide) EY)
     rw[hN];clear hN N;walk_at "rz";refine q _ ⟨by rw[ao n1.symm];exact M.om,by rw[ao n7];exact M.od,by rw[ao n6];exact M.og,?_,by rw[ao n5];exact M.ob,M.l8,M.hh⟩ (KB.set (by unfold MF;simp))
     rw[ae];show some (HO.lst (iV st.told++[V.int (qy st.bs b)]))=some (.lst (iV (st.told++[qy st.bs b])));unfold iV;rw[Kg];rfl
   |jump g =>
    show N [some (.ref a.m),some (.ref p),some (.str "jump")] H;rw[hN];clear go hN N;refine ay λN hN=>?_;walk_at "rz";exact q H M (KB.refl _ _)
   |zero b g =>
    show N [some (.ref a.m),some (.ref p),some (.str "zero")] H;rw[hN];clear go hN N;refine ay λN hN=>?_;walk_at "rz";refine sD (by decide +kernel) ?_
    rw[hN];clear hN N;refine ay λN hN=>?_;walk_at "rz";refine⟨a.m,C,a.dx,_,_,rfl,M.om,cM,na_boxes,fD a _,?_⟩;simp only[L2.Ap.fC,e1];refine⟨a.bx,_,rfl,dg b bc,?_⟩;walk_at "rz";exact q H M (KB.refl _ _)
   |halt =>
    show N [some (.ref a.m),some (.ref p),some (.str "halt")] H;rw[hN];clear go hN N;refine ay λN hN=>?_;walk_at "rz";refine sD (by decide +kernel) ?_
    rw[hN];clear hN N;refine ay λN hN=>?_;walk_at "rz";refine sD (by decide +kernel) ?_
    rw[hN];clear hN N;refine ay λN hN=>?_;walk_at "rz";refine sD (by decide +kernel) ?_
    rw[JN (by simp),hN];clear hN N
    walk_at "rz";exact q H M (KB.refl _ _)
  obtain⟨t,hb,ht⟩:=key;exact⟨t,hb.h,ht⟩
noncomputable def jz:dF->Option Int
 |.jump g=>some g
 |.zero _ g=>some g
 |_=>none
noncomputable def jc(r:dF):V:=match jz r with
 |some g=>.int g
 |none=>.aU
noncomputable def eO:Sp:=λvs H Q _=>∃(p:Addr) (r:dF),vs=[.ref p]/\H p=some (.tup r.vs)/\Q (jc r) H
theorem yt(T:Txt K mg)(F:HasFn K mg "goal_of" jb ["row"]):ax P w K mg base aT 1 "goal_of" ["row"] eO:=by
 obtain⟨dS,hg_SHAPES,hd0⟩:=T.kg;have hd_SHAPES:kZ K dS bR:=hd0;refine F.fR su (λvs H Q E h=>?_) (λf cdv A outer s H vs Q E hr h=>?_)
 ·obtain⟨p,r,rfl,_⟩:=h;rfl
 ·have hu:=aR hr;obtain⟨p,r,rfl,hp,q⟩:=h;refine⟨_,(Z.aA (Z.ret (Z.A5 (Z.aZ (Z.GG K rfl) Z.str (Z.Je K rfl rfl hg_SHAPES hd_SHAPES (Z.ix (Z.aP K rfl hu) (Z.v 0) Z.int))) (Z.ix (Z.aP K rfl hu) (Z.v 0) (Z.un fV Z.int)) Z.aU))),?_⟩;have sp:=aM hp;have kt1:∀{pk:Addr} {xs:List V},Ha K pk xs->cf K H pk xs\/bB K H pk xs:=λh=>.inr (.inr h);obtain⟨w,ws,e0,ed,ef,h⟩:∃(w:Str) (ws:List Str),cI r.vs 0=some (.str w)/\KTD.datumAt w bR=some ws/\(ws.map V.str).all cK=true/\(qI (.str "goal") (ws.map V.str)=true/\cI r.vs (-1)=some (jc r)\/qI (.str "goal") (ws.map V.str)=false/\jc r=.aU):=by
   cases r with
   |jump g=>exact⟨_,_,rfl,(by decide +kernel:KTD.datumAt ("jump":Str) bR=some [("goal":Str)]),rfl,.inl ⟨by decide +kernel,rfl⟩⟩
   |zero b g=>exact⟨_,_,rfl,(by decide +kernel:KTD.datumAt ("zero":Str) bR=some [("box":Str),"goal"]),rfl,.inl ⟨by decide +kernel,rfl⟩⟩
   |put b n=>exact⟨_,_,rfl,(by decide +kernel:KTD.datumAt ("put":Str) bR=some [("box":Str),"number"]),rfl,.inr ⟨by decide +kernel,rfl⟩⟩
   |two u b c=>exact⟨_,_,rfl,(by decide +kernel:∀u:_root_.Fin 3,KTD.datumAt (w2 u) bR=some [("box":Str),"box"]) u,rfl,.inr ⟨by decide +kernel,rfl⟩⟩
   |one u b=>exact⟨_,_,rfl,(by decide +kernel:∀u:_root_.Fin 2,KTD.datumAt (w1 u) bR=some [("box":Str)]) u,rfl,.inr ⟨by decide +kernel,rfl⟩⟩
   |halt=>exact⟨_,_,rfl,(by decide +kernel:KTD.datumAt ("halt":Str) bR=some ([]:List Str)),rfl,.inr ⟨by decide +kernel,rfl⟩⟩
  exists sp,e0;refine⟨_,_,rfl,ed,λpk kt=>⟨pk,_,rfl,kt1 kt,rfl,ef,?_⟩⟩;refine⟨_,rfl,?_⟩;rcases h with ⟨h1,h2⟩|⟨h1,h2⟩
  ·rw[JN JZ,h1,JQ rfl];simp only[sp,h2];exact q
  ·rw[JN JZ,h1,JN JZ];rw[h2] at q;exact q
noncomputable def place(st:f_)(r:dF)(bh en:Int):Int:=match r with
 |.halt=>en
 |r=>if (carry st r).1=true then ((jz r).getD 0) else bh
noncomputable def AO(K:W.Frag)(C:Addr):Sp:=λvs H Q _=>∃(a:MA) (st:f_) (p:Addr) (r:dF) (bh en:Int),vs=[.ref a.m,.ref p,.int bh,.int en]/\MS K C H a st/\H p=some (.tup r.vs)/\r.Ok/\st.told.length<100000 /\
 ∀H',MS K C H' a (carry st r).2->KB (MF a) H H'->Q (.int (place st r bh en)) H'
theorem qx{fc:Addr}{d_carry_out:FuncData}(T:Txt K mg)(hgoal_of:ax P w K mg base aT 1 "goal_of" ["row"] eO)(cM:iE K C)(mm_carry_out:Meth K C "carry_out" fc)(bm_carry_out:Binds K d_carry_out ["self","row"] [])(FO_carry_out:cg P w K mg base aT 3 fc d_carry_out ["self","row"] (tO K C))(F:gX K "place_next" "Machine.place_next" aK f fd):cg P w K mg base aT 4 f fd ["self","row","behind","end"] (AO K C):=by
 refine F.ok dy (λvs H Q E h=>?_) (λcdv A outer s H vs Q E hr h=>?_)
 ·obtain⟨a,st,p,r,bh,en,rfl,_⟩:=h;rfl
 ·obtain⟨a,st,p,r,bh,en,rfl,M,hp,bc,htl,q⟩:=h;have hu:=aR hr;have key:∃t,QB (dM aT P w K mg base ["self","row","behind","end","goes"] "Machine.place_next" (af aK) f cdv A outer s H E).lW (aI aK) t/\t {nx:=λ_ H'=>Q .aU H',rt:=Q} (start ["self","row","behind","end","goes"] [.ref a.m,.ref p,.int bh,.int en]) H:=by
   refine⟨_,(Z.aq (Z.se (i:=4) dy.nd (Z.rZ K rfl (Z.v 0) cM mm_carry_out FO_carry_out (hr.mono (by decide)) bm_carry_out cu (Z.cons (Z.v 1) Z.nil)))
   (Z.aq (Z.dJ (Z.aZ b8 (Z.ix (Z.aP K rfl hu) (Z.v 1) Z.int) Z.str) (Z.aA (Z.ret (Z.v 3))) Z.bN)
   (Z.aA (Z.ret (Z.A5 (Z.wg K rfl (Z.v 4)) (Z.fc hgoal_of (Z.cons (Z.v 1) Z.nil)) (Z.v 2)))))),?_⟩
   refine ay λN hN=>?_;walk_at "rz";refine⟨a.m,a.dx,_,rfl,M.om,rfl,a,st,p,r,rfl,M,hp,bc,htl,λH1 M1 kb=>?_⟩;have hp1:H1 p=some (.tup r.vs):=kb _ _ hp (by
    unfold MF;simp only[JR,Kt,La,not_or];exact⟨λe=>(by rw[e,M.om] at hp;cases hp),λe=>(by rw[e,M.ot] at hp;cases hp),λe=>(by rw[e,M.ob] at hp;cases hp)⟩)
   have e2:sq H1 p=some (false,r.vs):=aM hp1;walk_at "rz";rw[hN];clear hN N;refine ay λN hN=>?_;walk_at "rz";simp only[L2.Ap.fC,e2];have fin:=q H1 M1 kb;by_cases hh:r=.halt
   ·subst hh;show Dw (.str "halt") (.str "halt") H1 _;simp only[L2.Ap.FN];exact⟨_,rfl,by rw[JQ (by simp)];exact fin⟩
   ·obtain⟨wd,hw,hne⟩:∃wd,cI r.vs 0=some (.str wd)/\wd≠"halt":=by
     cases r with
     |put b n=>exact⟨_,rfl,by decide +kernel⟩
     |two u b c=>exact⟨_,rfl,(show ∀u,w2 u≠"halt" by decide +kernel) u⟩
     |one u b=>exact⟨_,rfl,(show ∀u,w1 u≠"halt" by decide +kernel) u⟩
     |jump g=>exact⟨_,rfl,by decide +kernel⟩
     |zero b g=>exact⟨_,rfl,by decide +kernel⟩
     |halt=>exact absurd rfl hh
    have ep:place st r bh en=if (carry st r).1=true then ((jz r).getD 0) else bh:=by
     cases r<;>first|rfl|exact absurd rfl hh
    rw[hw];simp only[L2.Ap.FN];refine⟨_,rfl,?_⟩;rw[JN (by simpa using hne),hN];clear hN N
    walk_at "rz"
    cases hc:(carry st r).1 with
    |false =>
     rw[JN (by decide)]
     rw[ep,hc] at fin;exact fin
    |true =>
     rw[JQ rfl];obtain⟨g,hg⟩:∃g,jz r=some g:=by
      cases r with
      |put b n=>cases hc
      |two u b c=>cases hc
      |one u b =>
       rcases iQ u with rfl|rfl<;>cases hc
      |jump g=>exact⟨g,rfl⟩
      |zero b g=>exact⟨g,rfl⟩
      |halt=>cases hc
     refine⟨p,r,rfl,hp1,?_⟩;have hT:jc r=.int g:=by unfold jc;rw[hg]
     have:=q H1 M1 kb;rw[ep,hc,hg] at this;rw[hT];exact this
  obtain⟨t,hb,ht⟩:=key;exact⟨t,hb.h,ht⟩
noncomputable def Ek(K:W.Frag)(C:Addr):Sp:=λvs H Q _=>∃(a:MA) (st:f_),vs=[.ref a.m]/\MS K C H a st/\∀p,H p=none->Q (.ref p) (upd H p (.tup (iV st.told)))
theorem uH(T:Txt K mg)(cM:iE K C)(na_told:bf K C "told")(F:gX K "told_numbers" "Machine.told_numbers" aH f fd):cg P w K mg base aT 1 f fd ["self"] (Ek K C):=by
 refine F.ok fF (λvs H Q E h=>?_) (λcdv A outer s H vs Q E hr h=>?_)
 ·obtain⟨a,st,rfl,_⟩:=h;rfl
 ·obtain⟨a,st,rfl,M,q⟩:=h;have hu:=aR hr;have key:∃t,QB (dM aT P w K mg base ["self"] "Machine.told_numbers" (af aH) f cdv A outer s H E).lW (aI aH) t/\t {nx:=λ_ H'=>Q .aU H',rt:=Q} (start ["self"] [.ref a.m]) H:=by
   refine⟨_,(Z.aA (Z.ret (Z.ct (Z.cQ K rfl) rfl T.cO (by decide +kernel) (Z.cons (Z.fld K rfl (Z.v 0)) Z.nil)))),?_⟩
   have e1:sq H a.tl=some (true,iV st.told):=aO M.ot;walk_at "rz";refine⟨a.m,C,a.dx,_,_,rfl,M.om,cM,na_told,sP a _,?_⟩;simp only[L2.Ap.rQ,e1];exactλp hp=>q p hp
  obtain⟨t,hb,ht⟩:=key;exact⟨t,hb.h,ht⟩
noncomputable def Gf:List Str:=["a","b","c","d","e","f","g","h"]
noncomputable def Bq(K:W.Frag)(C:Addr):Sp:=λvs H Q _=>∃(a:MA) (st:f_),vs=[.ref a.m]/\MS K C H a st/\∀p H',H p=none->H' p=some (.tup (iV st.bs))->KB [] H H'->Q (.ref p) H'
theorem qC(T:Txt K mg)(cM:iE K C)(na_boxes:bf K C "boxes")(F:gX K "box_numbers" "Machine.box_numbers" aC f fd):cg P w K mg base aT 1 f fd ["self"] (Bq K C):=by
 obtain⟨b,hg_BOXES,kt0⟩:=T.jP;have hr_BOXES:RelV (.ref b) (.ref b):=rfl;have kt:∀H,bB K H b (Gf.map V.str):=kt0;refine F.ok fJ (λvs H Q E h=>?_) (λcdv A outer s H vs Q E hr h=>?_)
 ·obtain⟨a,st,rfl,_⟩:=h;rfl
 ·obtain⟨a,st,rfl,M,q⟩:=h;have hu:=aR hr;have key:∃t,QB (dM aT P w K mg base ["self"] "Machine.box_numbers" (af aC) f cdv A outer s H E).lW (aI aC) t/\t {nx:=λ_ H'=>Q .aU H',rt:=Q} (start ["self"] [.ref a.m]) H:=by
   refine⟨_,(Z.aA (Z.ret (Z.ct (Z.cQ K rfl) rfl T.cO (by decide +kernel) (Z.cons (Z.C_ (osc:=af aC) (ON:=["self"]) (own:=["box"]) (N:=["box","self"]) (aQ.of rfl (by decide +kernel)) (Z.seq K rfl (Z.glob rfl hg_BOXES hr_BOXES)) (λnd _ _ _ _=>(Z.bu (i:=0) nd rfl (by right))) (λ_ _ _ _=>Z.vy) (λ_ _ _ _=>(Z.xm hu (Z.fld K rfl (Z.v 1)) (Z.v 0)))) Z.nil)))),?_⟩
   walk_at "rz";refine .inr ⟨⟨_,kt _⟩,?_⟩;have l8:=M.l8;refine cE (xs:=Gf.map V.str) (by decide) (λD i ys H'=>H D=none/\KB [] H H'/\H' D=some (.lst ys)/\ys=iV (st.bs.take i)/\i<=8) (λD hD=>⟨hD,KB.new hD,ae,by simp[iV],by decide⟩) (λD i ys H' ⟨h1,h2,h3,h4,h5⟩=>⟨h3,by rw[h4];unfold iV;rw[JK,Ki];omega⟩) (λD i ys H' _=>kt _) ?_ ?_
   ·rintro D i ys H' x R hx ⟨h1,h2,h3,h4,h5⟩ k;have hi:i<8:=by
     rcases KG i 8 with c|c
     ·exact c
     ·rw[L0.mpr (by exact c)] at hx;cases hx
    have ex:x=.str (bY i):=by
     rcases Gi hi with rfl|rfl|rfl|rfl|rfl|rfl|rfl|rfl<;>exact (Option.some.inj hx).symm
    subst ex;have om':=h2 _ _ M.om (by simp)
    have ob':=h2 _ _ M.ob (by simp)
    walk_at "rz";refine⟨a.m,C,a.dx,_,_,rfl,om',cM,na_boxes,fD a _,a.bx,_,rfl,.inl ⟨_,.inr (bY i),.inl ob',rfl,(qY i hi st.bs l8).symm⟩,?_⟩;refine k _ H' h3 ⟨h1,λb o e _=>?_,ae,?_,by omega⟩
    ·rw[ao (au e h1)];exact h2 b o e (by simp)
    ·have hb:i<st.bs.length:=by omega
     rw[h4,Na hb];unfold iV qy;rw[Kg,JI hb];rfl
   ·rintro D ys H' ⟨h1,h2,h3,h4,h5⟩;have e1:sq H' D=some (true,ys):=aO h3;simp only[L2.Ap.rQ,e1];refineλp hp=>q p _ (h2.free (by simp) hp) ?_ (h2.trans (KB.new hp))
    rw[ae,h4];have:st.bs.take (Gf.map V.str).length=st.bs:=KC (by rw[l8];decide)
    rw[this]
  obtain⟨t,hb,ht⟩:=key;exact⟨t,hb.h,ht⟩
noncomputable def DB(g:List Int):f_:=⟨g,0,[],[0,0,0,0,0,0,0,0]⟩
noncomputable def El(K:W.Frag)(C:Addr):Sp:=λvs H Q _=>∃(x dx gv:Addr) (g:List Int),vs=[.ref x,.ref gv]/\H x=some (.ins C dx [])/\H dx=some (.own x)/\H gv=some (.tup (iV g)) /\
 ∀H' tl bx,H tl=none->H bx=none->MS K C H' ⟨x,dx,gv,tl,bx⟩ (DB g)->KB [x] H H'->Q .aU H'
theorem ud(T:Txt K mg)(cM:iE K C)(na_given:bf K C "given")(na_heard:bf K C "heard")(na_told:bf K C "told")(na_boxes:bf K C "boxes")(F:gX K "__init__" "Machine.__init__" aL f fd):cg P w K mg base aT 1 f fd ["self","given"] (El K C):=by
 obtain⟨b,hg_BOXES,kt0⟩:=T.jP;have hr_BOXES:RelV (.ref b) (.ref b):=rfl;have kt:∀H,bB K H b (Gf.map V.str):=kt0;refine F.ok gY (λvs H Q E h=>?_) (λcdv A outer s H vs Q E hr h=>?_)
 ·obtain⟨x,dx,gv,g,rfl,_⟩:=h;rfl
 ·obtain⟨x,dx,gv,g,rfl,ox,od,og,q⟩:=h;have hu:=aR hr;have key:∃t,QB (dM aT P w K mg base ["self","given"] "Machine.__init__" (af aL) f cdv A outer s H E).lW (aI aL) t/\t {nx:=λ_ H'=>Q .aU H',rt:=Q} (start ["self","given"] [.ref x,.ref gv]) H:=by
   refine⟨_,(Z.aq (Z.oi K rfl (Z.v 0) (Z.v 1))
   (Z.aq (Z.oi K rfl (Z.v 0) Z.int)
   (Z.aq (Z.oi K rfl (Z.v 0) (Z.lst Z.nil))
   (Z.aA (Z.oi K rfl (Z.v 0) (Z.ct (p9 K rfl) rfl T.DW (by decide +kernel) (Z.cons (Z.C_ (osc:=af aL) (ON:=["self","given"]) (own:=["box"]) (N:=["box","self","given"]) (aQ.of rfl (by decide +kernel)) (Z.seq K rfl (Z.glob rfl hg_BOXES hr_BOXES)) (λnd _ _ _ _=>(Z.bu (i:=0) nd rfl (by right))) (λ_ _ _ _=>Z.vy) (λ_ _ _ _=>(Z.tup (Z.cons (Z.v 0) (Z.cons Z.int Z.nil))))) Z.nil))))))),?_⟩
   have ndx:dx≠x:=by rintro rfl;rw[ox] at od;cases od
   have ngx:gv≠x:=by rintro rfl;rw[ox] at og;cases og
   refine ay λN hN=>?_;walk_at "rz";refine⟨x,C,dx,_,rfl,ox,cM,na_given,by decide,?_⟩
   rw[hN];clear hN N;refine ay λN hN=>?_;walk_at "rz";refine⟨x,C,dx,_,rfl,ae,cM,na_heard,(show 1<1000 by decide),?_⟩
   rw[hN];clear hN N;rw[nI];refine ay λN hN=>?_;walk_at "rz";refine⟨by decide,λtl htl=>?_⟩
   have ntl:tl≠x:=by rintro rfl;rw[ae] at htl;cases htl
   have htl0:H tl=none:=by rw[ao ntl] at htl;exact htl
   refine⟨x,C,dx,cT "heard" (.int 0) (cT "given" (.ref gv) []),rfl,by rw[ao ntl.symm];exact ae,cM,na_told,(show 2<1000 by decide),?_⟩
   rw[hN];clear hN N;have ntd:tl≠dx:=λe=>by rw[e,od] at htl0;cases htl0
   have ntg:tl≠gv:=λe=>by rw[e,og] at htl0;cases htl0
   obtain⟨H3,e3⟩:∃H3,H3=upd (upd (upd H x (.ins C dx (cT "heard" (.int 0) (cT "given" (.ref gv) [])))) tl (.lst [])) x (.ins C dx (cT "told" (.ref tl) (cT "heard" (.int 0) (cT "given" (.ref gv) [])))):=⟨_,rfl⟩;rw[<- e3];have x3:H3 x=some (.ins C dx [("given",.ref gv),("heard",.int 0),("told",.ref tl)]):=by rw[e3];exact ae
   have t3:H3 tl=some (.lst []):=by rw[e3,ao ntl];exact ae
   have d3:H3 dx=some (.own x):=by rw[e3,ao ndx,ao ntd.symm,ao ndx];exact od
   have g3:H3 gv=some (.tup (iV g)):=by rw[e3,ao ngx,ao ntg.symm,ao ngx];exact og
   have k3:KB [x] H H3:=by
    rw[e3];exact ((KB.set (by simp)).trans (KB.new htl)).trans (KB.set (by simp))
   clear e3;walk_at "rz";refine .inr ⟨⟨_,kt _⟩,?_⟩;refine cE (xs:=Gf.map V.str) (by decide) (λD i ys H'=>H3 D=none/\KB [] H3 H'/\H' D=some (.lst ys)/\ys.length=i/\i<=8/\∀j,j<i->∃p,ys[j]?=some (.ref p)/\H' p=some (.tup [.str (bY j),.int 0])) (λD hD=>⟨hD,KB.new hD,ae,rfl,by decide,λj hj=>absurd hj (LH _)⟩) (λD i ys H' ⟨h1,h2,h3,h4,h5⟩=>⟨h3,h4⟩) (λD i ys H' _=>kt _) ?_ ?_
   ·rintro D i ys H' z R hx ⟨h1,h2,h3,h4,h5,h6⟩ k;have hi:i<8:=by
     rcases KG i 8 with c|c
     ·exact c
     ·rw[L0.mpr (by exact c)] at hx;cases hx
    have ex:z=.str (bY i):=by
     rcases Gi hi with rfl|rfl|rfl|rfl|rfl|rfl|rfl|rfl<;>exact (Option.some.inj hx).symm
    subst ex;walk_at "rz";refine⟨by decide,λp hp=>?_⟩
    have npD:p≠D:=by rintro rfl;rw[h3] at hp;cases hp
    refine k _ _ (by rw[ao npD.symm];exact h3) ⟨h1,λc o e _=>?_,ae,by rw[JL,h4];rfl,by omega,λj hj=>?_⟩
    ·have hc:=h2 c o e (by simp)
     rw[ao (au e h1),ao (au hc hp)];exact hc
    ·rcases KG j i with c|c
     ·obtain⟨p',e1,e2⟩:=h6 j c;have n1:p'≠D:=by rintro rfl;rw[h3] at e2;cases e2
      exact⟨p',by rw[Ks (by omega)];exact e1,by rw[ao n1,ao (au e2 hp)];exact e2⟩
     ·have:j=i:=by omega
      subst this;exact⟨p,by rw[Kk (by omega),h4];simp,by rw[ao npD];exact ae⟩
   ·rintro D ys H' ⟨h1,h2,h3,h4,h5,h6⟩;have hl:(Gf.map V.str).length=8:=rfl;rw[hl] at h4 h6;refine⟨D,ys,DC.zip (iV (DB g).bs),rfl,h3,⟨h4,λj k z e=>?_⟩,(show 8<=20000 by decide),λp hp=>?_⟩
    ·have hj:j<8:=by
      rcases KG j 8 with c|c
      ·exact c
      ·rw[L0.mpr (by exact c)] at e;cases e
     obtain⟨p,e1,e2⟩:=h6 j hj;refine⟨p,e1,?_⟩;rw[e2];rcases Gi hj with rfl|rfl|rfl|rfl|rfl|rfl|rfl|rfl<;>(cases e;rfl)
    ·have hm:gi [] (DC.zip (iV (DB g).bs))=DC.zip (iV (DB g).bs):=by
      rw[Y.mH _ [] ?_,Lr];show (DC.map λk=>k).Nodup
      decide +kernel
     rw[hm];have x4:=h2 _ _ x3 (by simp)
     have t4:=h2 _ _ t3 (by simp)
     have d4:=h2 _ _ d3 (by simp)
     have g4:=h2 _ _ g3 (by simp)
     have px:p≠x:=λe=>by rw[e,x4] at hp;cases hp
     have pt:p≠tl:=λe=>by rw[e,t4] at hp;cases hp
     have pd:p≠dx:=λe=>by rw[e,d4] at hp;cases hp
     have pg:p≠gv:=λe=>by rw[e,g4] at hp;cases hp
     have hp3:H3 p=none:=h2.free (by simp) hp
     have hp0:H p=none:=k3.free (by simpa using px) hp3
     refine⟨x,C,dx,[("given",.ref gv),("heard",.int 0),("told",.ref tl)],rfl,by rw[ao px.symm];exact x4,cM,na_boxes,(show 3<1000 by decide),?_⟩
     refine q _ tl p htl0 hp0 ⟨ae,by rw[ao ndx,ao pd.symm];exact d4,by rw[ao ngx,ao pg.symm];exact g4,by rw[ao ntl,ao pt.symm];exact t4,by rw[ao px];exact ae,rfl,Kh _⟩ ?_
     exact ((k3.trans h2.all).trans (KB.new hp)).trans (KB.set (by simp))
  obtain⟨t,hb,ht⟩:=key;exact⟨t,hb.h,ht⟩
structure BS where
 st:f_
 at_:Int
 rd:Int
noncomputable def Ay(cd:List (List (List Nat)))(z:List Nat)(p:Int):Option (dF×Nat):=(wN cd z p).map λx=>(rk x,x.2)
noncomputable def kO(z:List Nat)(c:BS)(x:dF×Nat):BS:=⟨(carry c.st x.1).2,place c.st x.1 (x.2:Nat) (z.length:Nat),c.rd+(x.2:Nat)-c.at_⟩
noncomputable def dw(cd:List (List (List Nat)))(z:List Nat):Nat->BS->BS
 |0,c=>c
 |n+1,c=>match Ay cd z c.at_ with
  |none=>c
  |some x=>dw cd z n (kO z c x)
noncomputable def pS(cd:List (List (List Nat)))(z:List Nat)(c:BS):Str:=if c.at_=(z.length:Nat) then "halt" else match Ay cd z c.at_ with
 |none=>"bad"
 |some _=>"more"
noncomputable def Fl(g:List Int):BS:=⟨DB g,0,0⟩
noncomputable def FX(H:Hp)(v:V)(cd:List (List (List Nat)))(z:List Nat)(c:BS):Prop:=∃t p1 p2,v=.ref t/\H t=some (.tup [.str (pS cd z c),.ref p1,.int c.rd,.ref p2])/\H p1=some (.tup (iV c.st.told))/\H p2=some (.tup (iV c.st.bs))
theorem u7(st:f_)(r:dF):(carry st r).2.told.length<=st.told.length+1:=by
 have hh:(cL st).2.told=st.told:=by unfold cL;split<;>rfl
 cases r with
 |put b n=>exact KI _
 |two u a b=>exact KI _
 |one u b =>
  rcases iQ u with rfl|rfl
  ·show (st.told++[qy st.bs b]).length<=_;rw[JL];exact JS _
  ·show (cL st).2.told.length<=_;rw[hh];exact KI _
 |jump g=>exact KI _
 |zero b g=>exact KI _
 |halt=>exact KI _
theorem qQ{cd:List (List (List Nat))}{n:Nat}{c:BS}(h:wN cd z c.at_=none):dw cd z n c=c:=by
 cases n with
 |zero=>rfl
 |succ k=>rw[dw];unfold Ay;rw[h];rfl
theorem rA{cd:List (List (List Nat))}{n:Nat}{c:BS}{y:RW×Nat}(h:wN cd z c.at_=some y):dw cd z (n+1) c=dw cd z n (kO z c (rk y,y.2)):=by
 rw[dw];unfold Ay;rw[h];rfl
theorem wb{m:Str}{a:MA}{h:Nat}(h1:m≠"given")(h2:m≠"heard")(h3:m≠"told")(h4:m≠"boxes"):(yL a h).lookup m=none:=by
 unfold yL;rw[K9,Kv.mpr h1,K9,Kv.mpr h2,K9,Kv.mpr h3,K9,Kv.mpr h4];rfl
theorem MS.kb{a:MA}{st:f_}(M:MS K C H a st)(k:KB [] H H'):MS K C H' a st:=⟨k _ _ M.om (by simp),k _ _ M.od (by simp),k _ _ M.og (by simp),k _ _ M.ot (by simp),k _ _ M.ob (by simp),M.l8,M.hh⟩
noncomputable def r8(K:W.Frag):Sp:=λvs H Q _=>∃(b gv:Addr) (bk:List (List Int)) (z:List Nat) (g:List Int) (most:Nat),vs=[.str (wd z),.ref b,.ref gv,.int (most:Nat)]/\wJ H b bk/\H gv=some (.tup (iV g))/\Bk bk/\sX (fZ bk)/\eC z/\z.length<=1000000/\most<=10000/\∀v H',KB [] H H'->FX H' v (fZ bk) z (dw (fZ bk) z most (Fl g))->Q v H'
theorem Bo(T:Txt K mg)(hgoal_of:ax P w K mg base aT 1 "goal_of" ["row"] eO)(hcodes_of:ax P w K mg base aT 6 "codes_of" ["book"] (oC K))(hrow_at:ax P w K mg base aT 5 "row_at" ["codes","bits","place"] (t9 K))(F:HasFn K mg "run_bits" h_ ["bits","book","given","most"]):ax P w K mg base aT 7 "run_bits" ["bits","book","given","most"] (r8 K):=by
 obtain⟨C_Machine,f___init__,f_place_next,f_carry_out,f_number_for,f_heard_number,f_told_numbers,f_box_numbers,d___init__,d_place_next,d_carry_out,d_number_for,d_heard_number,d_told_numbers,d_box_numbers,hC_Machine,cM,na_given,na_heard,na_told,na_boxes,mm___init__,FM___init__,bm___init__,mm_place_next,FM_place_next,bm_place_next,mm_carry_out,FM_carry_out,bm_carry_out,mm_number_for,FM_number_for,bm_number_for,mm_heard_number,FM_heard_number,bm_heard_number,mm_told_numbers,FM_told_numbers,bm_told_numbers,mm_box_numbers,FM_box_numbers,bm_box_numbers⟩:=T.mc;have FO_heard_number:=pN (P:=P) (w:=w) (mg:=mg) (base:=base) T cM na_given na_heard FM_heard_number;have FO_number_for:=xJ (P:=P) (w:=w) (mg:=mg) (base:=base) T cM na_boxes mm_heard_number bm_heard_number FO_heard_number FM_number_for;have FO_carry_out:=qF (P:=P) (w:=w) (mg:=mg) (base:=base) T cM na_boxes na_told mm_number_for bm_number_for FO_number_for FM_carry_out;have FO_place_next:=qx T hgoal_of cM mm_carry_out bm_carry_out FO_carry_out FM_place_next;have FO_told_numbers:=uH (P:=P) (w:=w) (mg:=mg) (base:=base) T cM na_told FM_told_numbers;have FO_box_numbers:=qC (P:=P) (w:=w) (mg:=mg) (base:=base) T cM na_boxes FM_box_numbers;have FO___init__:=ud (P:=P) (w:=w) (mg:=mg) (base:=base) T cM na_given na_heard na_told na_boxes FM___init__;refine F.fR bq (λvs H Q E h=>?_) (λf cdv A outer s H vs Q E hr h=>?_)
 ·obtain⟨b,gv,bk,z,g,most,rfl,_⟩:=h;rfl
 ·obtain⟨bb,gv,bk,z,g,most,rfl,hbk,og,hBk,hR,hb,hz,hmo,q⟩:=h;have hu:=aR hr;refine⟨_,(Z.aq (Z.se (i:=4) bq.nd (Z.fc hcodes_of (Z.cons (Z.v 1) Z.nil)))
   (Z.aq (Z.se (i:=5) bq.nd (Z.make K rfl mm___init__ FO___init__ (hr.mono (by decide)) rfl hC_Machine bm___init__ cu (Z.cons (Z.v 2) Z.nil)))
   (Z.aq (Z.se (i:=6) bq.nd Z.int)
   (Z.aq (Z.se (i:=7) bq.nd Z.int)
   (Z.aq (Z.se (i:=8) bq.nd Z.int)
   (Z.aq (Z.se (i:=9) bq.nd (Z.fc hrow_at (Z.cons (Z.v 4) (Z.cons (Z.v 0) (Z.cons (Z.v 8) Z.nil)))))
   (Z.aq (Z.nr K1 (Z.tw (Z.p8 (Z.aZ iN (Z.v 9) Z.aU) (Z.j0 (Z.aZ fA (Z.v 7) (Z.v 3))))) (Z.aq (Z.se (i:=6) bq.nd (Z.op dI (Z.op (Z.bp K rfl) (Z.v 6) (Z.ix (Z.aP K rfl hu) (Z.v 9) Z.int)) (Z.v 8)))
   (Z.aq (Z.se (i:=7) bq.nd (Z.op (Z.bp K rfl) (Z.v 7) Z.int))
   (Z.aq (Z.se (i:=8) bq.nd (Z.rZ K rfl (Z.v 5) cM mm_place_next FO_place_next (hr.mono (by decide)) bm_place_next cu (Z.cons (Z.ix (Z.aP K rfl hu) (Z.v 9) Z.int) (Z.cons (Z.ix (Z.aP K rfl hu) (Z.v 9) Z.int) (Z.cons (Z.cb (Z.cY K rfl) rfl T.cN (by decide +kernel) (Z.cons (Z.v 0) Z.nil)) Z.nil)))))
   (Z.aA (Z.se (i:=9) bq.nd (Z.fc hrow_at (Z.cons (Z.v 4) (Z.cons (Z.v 0) (Z.cons (Z.v 8) Z.nil))))))))))
   (Z.aq (Z.dJ (Z.aZ b8 (Z.v 8) (Z.cb (Z.cY K rfl) rfl T.cN (by decide +kernel) (Z.cons (Z.v 0) Z.nil))) (Z.aA (Z.se (i:=10) bq.nd Z.str)) (Z.aA (Z.se (i:=10) bq.nd (Z.A5 (Z.aZ dH (Z.v 9) Z.aU) Z.str Z.str))))
   (Z.aA (Z.ret (Z.tup (Z.cons (Z.v 10) (Z.cons (Z.d_ K rfl (Z.v 5) cM mm_told_numbers FO_told_numbers (hr.mono (by decide)) bm_told_numbers cu) (Z.cons (Z.v 6) (Z.cons (Z.d_ K rfl (Z.v 5) cM mm_box_numbers FO_box_numbers (hr.mono (by decide)) bm_box_numbers cu) Z.nil))))))))))))))),?_⟩
  refine ay λN hN=>?_;walk_at "rz";refine⟨bb,bk,rfl,hbk,hBk,λca H1 hca k1 rc=>?_⟩;rw[hN];clear hN N;generalize fX:fZ bk=cd at *;have og1:=k1 _ _ og (by simp)
  refine ay λN hN=>?_;walk_at "rz";intro x dx hx0 hdx0 hxd;have gx:gv≠x:=λzz=>by rw[zz,hx0] at og1;cases og1
  have gd:gv≠dx:=λzz=>by rw[zz,hdx0] at og1;cases og1
  refine⟨x,dx,gv,g,rfl,ae,by rw[ao hxd];exact ae,by rw[ao gx,ao gd];exact og1,λH2 tl bx htl hbx M2 kb2=>⟨rfl,?_⟩⟩
  have k12:KB [] H1 H2:=λc o e _=>kb2 c o (by rw[ao (au e hx0),ao (au e hdx0)];exact e) (by simpa using au e hx0)
  obtain⟨a,ea⟩:∃a:MA,a=⟨x,dx,gv,tl,bx⟩:=⟨_,rfl⟩;have em:x=a.m:=by rw[ea]
  rw[<- ea] at M2;rw[em];have new:∀b,b∈MF a->H1 b=none:=λb hb=>by
   have un:∀{c:Addr},upd (upd H1 dx (HO.own x)) x (HO.ins C_Machine dx []) c=none->H1 c=none:=λ{c} e=>by
    by_cases c1:c=x
    ·rw[c1];exact hx0
    ·rw[ao c1] at e;by_cases c2:c=dx
     ·rw[c2];exact hdx0
     ·rw[ao c2] at e;exact e
   rw[ea] at hb;simp only[MF,JR,Kt,La] at hb;rcases hb with rfl|rfl|rfl
   ·exact hx0
   ·exact un htl
   ·exact un hbx
  have HM:∀{G:Hp} {st:f_},MS K C_Machine G a st->∀b,b∈MF a->∃o,G b=some o:=λM b hb=>by
   simp only[MF,JR,Kt,La] at hb;rcases hb with rfl|rfl|rfl
   ·exact⟨_,M.om⟩
   ·exact⟨_,M.ot⟩
   ·exact⟨_,M.ob⟩
  have ntp:∀{G:Hp} {st:f_},MS K C_Machine G a st->∀b∈MF a,∀xs,G b≠some (.tup xs):=λM b hb xs e=>by
   simp only[MF,JR,Kt,La] at hb;rcases hb with rfl|rfl|rfl
   ·rw[M.om] at e;cases e
   ·rw[M.ot] at e;cases e
   ·rw[M.ob] at e;cases e
  have nca:ca∉MF a:=λz=>by
   obtain⟨_,_,_,e,_⟩:=rc;rw[new ca z] at e;cases e
  have rc2:uv H2 ca cd:=rc.kb k12;have old2:KB [] H H2:=k1.trans k12;have keepH:∀{G G':Hp},KB [] H G->KB (MF a) G G'->KB [] H G':=λo k c u e _=>k _ _ (o _ _ e (by simp)) λzz=>by
   have:=k1 _ _ e (by simp)
   rw[new c zz] at this;cases this
  clear hx0 hdx0 hxd gx gd htl hbx kb2 rc k12 og1 hca em;rw[hN];clear hN N;refine ay λN hN=>?_;walk_at "rz";rw[hN];clear hN N;refine ay λN hN=>?_;walk_at "rz";rw[hN];clear hN N;refine ay λN hN=>?_;walk_at "rz";rw[hN];clear hN N;refine ay λN hN=>?_;walk_at "rz";refine⟨ca,cd,z,0,rfl,rc2,hR,hb,hz,λv H3 k3 r3=>?_⟩;rw[hN];clear hN N;obtain⟨R,eR⟩:∃R,R=dw cd z most (Fl g):=⟨_,rfl⟩;rw[<- eR] at q;refine ay λN hN=>?_;refine⟨λm σ H'=>∃(n:Nat) (c:BS) (v:V),n<=most/\m=most-n/\R=dw cd z (most-n) c/\c.st.told.length<=n/\MS K C_Machine H' a c.st/\KB [] H H'/\uv H' ca cd/\Im H' v (wN cd z c.at_)/\σ=[some (V.str (wd z)),some (.ref bb),some (V.ref gv),some (V.int (most:Nat)),some (V.ref ca),some (V.ref a.m),some (V.int c.rd),some (V.int (n:Nat)),some (V.int c.at_),some v,none],⟨most,0,Fl g,v,Kh _,rfl,eR,Kh _,M2.kb k3,old2.trans k3,rc2.kb k3,r3,rfl⟩,?_⟩;clear M2 rc2 r3 k3 old2 v;rintro m σ H4 ⟨n,c,v,hn,rfl,hrun,htl,M4,old4,rc4,r4,rfl⟩;have lz:(wd z).length<=sizeLine:=by rw[bE];exact JX hz (by decide)
  have fin:R=c->N [some (V.str (wd z)),some (.ref bb),some (V.ref gv),some (V.int (most:Nat)),some (V.ref ca),some (V.ref a.m),some (V.int c.rd),some (V.int (n:Nat)),some (V.int c.at_),some v,none] H4:=λhc=>by
   rw[hN];clear hN N;subst hc;refine ay λN hN=>?_;have ret:N [some (V.str (wd z)),some (.ref bb),some (V.ref gv),some (V.int (most:Nat)),some (V.ref ca),some (V.ref a.m),some (V.int R.rd),some (V.int (n:Nat)),some (V.int R.at_),some v,some (V.str (pS cd z R))] H4:=by
    rw[hN];clear hN N;walk_at "rz";refine⟨a.m,a.dx,_,rfl,M4.om,wb (by decide +kernel) (by decide +kernel) (by decide +kernel) (by decide +kernel),a,R.st,rfl,M4,λp1 hp1=>?_⟩
    have k5:KB [] H4 (upd H4 p1 (.tup (iV R.st.told))):=KB.new hp1;have t5:upd H4 p1 (.tup (iV R.st.told)) p1=some (.tup (iV R.st.told)):=ae;generalize upd H4 p1 (.tup (iV R.st.told))=H5 at *;have M5:=M4.kb k5;refine⟨a.m,a.dx,_,rfl,M5.om,wb (by decide +kernel) (by decide +kernel) (by decide +kernel) (by decide +kernel),a,R.st,rfl,M5,λp2 H6 hp2 t6 k6=>?_⟩
    refine⟨by decide,λp3 hp3=>?_⟩
    have o6:KB [] H H6:=old4.trans (k5.trans k6);have up:∀{b:Addr} {o:HO},H6 b=some o->upd H6 p3 (.tup [V.str (pS cd z R),V.ref p1,V.int R.rd,V.ref p2]) b=some o:=λe=>by rw[ao (au e hp3)];exact e
    exact q _ _ (o6.trans (KB.new hp3)) ⟨p3,p1,p2,rfl,ae,up (k6 _ _ t5 (by simp)),up t6⟩
   walk_at "rz";refine⟨lz,?_⟩;rw[bE];unfold pS Ay at ret;by_cases c1:R.at_=(z.length:Nat)
   ·rw[JQ c1] at ret ⊢;exact ret
   ·rw[JN c1] at ret ⊢
    cases hx:wN cd z R.at_ with
    |none =>
     rw[hx] at r4 ret;obtain rfl:v=.aU:=r4;rw[JQ rfl];exact ret
    |some y =>
     rw[hx] at r4 ret;obtain⟨fa,_,rfl,_⟩:=r4;rw[JN (show ¬ V.ref fa=V.aU from λzz=>nomatch zz)];exact ret
  walk_at "rz"
  cases hx:wN cd z c.at_ with
  |none =>
   rw[hx] at r4;obtain rfl:v=.aU:=r4;rw[JN (by simp)]
   exact fin (by rw[hrun];exact qQ hx)
  |some y =>
   rw[hx] at r4;obtain⟨fa,ra,rfl,o4,ora⟩:=r4;rw[JQ (show ¬ V.ref fa=V.aU from λzz=>nomatch zz)];by_cases c2:((n:Nat):Int)<(most:Nat)
   ·rw[JQ c2];obtain⟨p,hp,hpx⟩:∃p:Nat,c.at_=p/\A1 cd z p=some y:=by
     unfold wN at hx;by_cases c3:c.at_<0
     ·rw[JQ c3] at hx;cases hx
     ·rw[JN c3] at hx;exact⟨c.at_.toNat,by lia,hx⟩
    obtain⟨mok,mt,_,_,_⟩:=IJ hR hpx;rw[mt] at ora;have s4:=aM o4;have nx:dw cd z (most-n) c=dw cd z (most-(n+1)) (kO z c (rk y,y.2)):=by
     rw[show most-n=(most-(n+1))+1 by lia]
     exact rA hx
    refine⟨λσ' H'=>∃m',m'<most-n/\∃n c v,n<=most/\m'=most-n/\R=dw cd z (most-n) c/\c.st.told.length<=n/\MS K C_Machine H' a c.st/\KB [] H H'/\uv H' ca cd/\Im H' v (wN cd z c.at_)/\σ'=[some (V.str (wd z)),some (.ref bb),some (V.ref gv),some (V.int (most:Nat)),some (V.ref ca),some (V.ref a.m),some (V.int c.rd),some (V.int (n:Nat)),some (V.int c.at_),some v,none],λ_ _ h=>h,?_⟩;simp only[L2.Ap.fC,s4,AE,L2.Ap.Dc,L2.Ap.wu];refine⟨a.m,a.dx,_,rfl,M4.om,wb (by decide +kernel) (by decide +kernel) (by decide +kernel) (by decide +kernel),?_⟩
    simp only[L2.Ap.fC,s4,Fq,AE];refine⟨lz,a,c.st,ra,rk y,(y.2:Nat),_,rfl,M4,ora,mok,by lia,λH5 M5 k5=>?_⟩
    have rc5:=rc4.keep k5 nca (ntp M4);have old5:=keepH old4 k5;refine⟨ca,cd,z,_,rfl,rc5,hR,hb,hz,λv6 H6 k6 r6=>?_⟩;have tle:=u7 c.st (rk y);rw[bE] at r6;refine⟨most-(n+1),by lia,n+1,kO z c (rk y,y.2),v6,by lia,rfl,hrun.trans nx,?_,M5.kb k6,old5.trans k6,rc5.kb k6,r6,?_⟩
    ·show (carry c.st (rk y)).2.told.length<=n+1;lia
    ·rw[bE];rfl
   ·rw[JN c2];refine fin ?_;rw[hrun,show most-n=0 by lia];rfl
theorem BR{cd:List (List (List Nat))}(hR:sX cd):A1 cd z z.length=none:=by
 obtain⟨c0,c1,c2,rfl,l0,l1,l2⟩:=hR.fX.ex
 cases c:jC c0 z z.length with
 |none=>show (jC c0 z z.length).bind _=none;rw[c];rfl
 |some x=>have:=eY (hR.pf c0 (by simp)).ne c;lia
theorem uq{cd:List (List (List Nat))}:Ay cd z (p:Int)=(A1 cd z p).map λx=>(rk x,x.2):=by unfold Ay;rw[uK]
theorem Ba{cd:List (List (List Nat))}(hR:sX cd):Ay cd z (z.length:Nat)=none:=by rw[uq,BR hR];rfl
theorem jL(st:f_)(r:Row)(g g':Int):carry st (r.m g)=carry st (r.m g'):=by
 cases r with
 |one u b=>rcases iQ u with rfl|rfl<;>rfl
 |_=>rfl
noncomputable def Hl(rs:List Row):Prop:=rs≠[]/\(∀(i:Nat) (r:Row),rs[i]?=some r->i+1=rs.length->r=.halt\/∃g,r=.jump g)/\∀r∈rs,aF r≠some rs.length
noncomputable def p7(rs:List Row)(sp z:List Nat)(i:Nat):Int:=if i<rs.length then ((sp.getD i 0:Nat):Int) else ((z.length:Nat):Int)
noncomputable def pL(st:f_)(r:Row)(i n:Nat):Nat:=match r with
 |.halt=>n
 |r=>if (carry st (r.m 0)).1=true then (aF r).getD 0 else i+1
theorem fP{st:f_}{r:Row}{g:Int}(h:(carry st (r.m g)).1=true):∃t,aF r=some t:=by
 cases r with
 |put b n=>cases h
 |two u a b=>cases h
 |one u b=>rcases iQ u with rfl|rfl<;>cases h
 |jump g=>exact⟨_,rfl⟩
 |zero b g=>exact⟨_,rfl⟩
 |halt=>cases h
theorem yM{st:f_}{rs:List Row}{r:Row}(hi:i<rs.length)(hr:r.Ok rs.length):pL st r i rs.length<=rs.length:=by
 by_cases hh:r=.halt
 ·subst hh;exact JS _
 ·have e:pL st r i rs.length=if (carry st (r.m 0)).1=true then (aF r).getD 0 else i+1:=by cases r<;>first|rfl|exact absurd rfl hh
  rw[e];split
  ·rename_i c;obtain⟨t,ht⟩:=fP c;rw[ht];exact gS hr ht
  ·exact hi
section
variable {cd:List (List (List Nat))} {rs:List Row} {ws sp z:List Nat}
theorem Laid.nU(L:Laid cd rs ws sp z)(y:List Nat)(h:y=[]\/Hl rs)(ht:t<=rs.length)(hn:y=[]\/t≠rs.length):p7 rs sp (z++y) t=((sp.getD t 0:Nat):Int):=by
 unfold p7;by_cases c:t<rs.length
 ·rw[JQ c]
 ·rw[JN c];have e:t=rs.length:=by lia
  rcases hn with rfl|hn
  ·rw[K6,L.last,e]
  ·exact absurd e hn
theorem Laid.read(L:Laid cd rs ws sp z)(y:List Nat)(hi:i<rs.length):Ay cd (z++y) (p7 rs sp (z++y) i)=some (rs[i].m ((sp.getD ((aF rs[i]).getD 0) 0:Nat):Int),sp.getD (i+1) 0):=by
 obtain⟨w,_,_,e1,e2,e3⟩:=L.row hi;obtain⟨a1,a2⟩:=L.at i (LC hi);have hp:dN cd rs[i] w (Cm sp i rs[i]) <+: (z++y).drop (sp.getD i 0):=by
  rw[Nv a2,a1,e2,Kj];exact MO _ _
 obtain⟨x,hx,hx2,hm⟩:=DR L.hR (L.ok _ (Kf hi)) e3 hp;unfold p7;rw[JQ hi,uq,hx];show some (rk x,x.2)=_;rw[hm,hx2,<- e1];congr 2
 cases c:aF rs[i] with
 |none=>generalize rs[i]=r at *;cases r<;>first|rfl|cases c
 |some t =>
  unfold Cm;rw[c];show rs[i].m (((sp.getD (i+1) 0:Nat):Int)+fM sp t i)=rs[i].m ((sp.getD t 0:Nat):Int);unfold fM;congr 1;lia
theorem Laid.step(L:Laid cd rs ws sp z)(y:List Nat)(hy:y=[]\/Hl rs){c:BS}(hi:i<rs.length)(ha:c.at_=p7 rs sp (z++y) i):∃x,Ay cd (z++y) c.at_=some x/\(kO (z++y) c x).st=(carry c.st (rs[i].m 0)).2/\(kO (z++y) c x).at_=p7 rs sp (z++y) (pL c.st rs[i] i rs.length)/\(kO (z++y) c x).rd=c.rd+((sp.getD (i+1) 0:Nat):Int)-((sp.getD i 0:Nat):Int):=by
 refine⟨_,by rw[ha];exact L.read y hi,?_,?_,?_⟩
 ·show (carry c.st (rs[i].m _)).2=_;rw[jL _ _ _ 0]
 ·show place c.st (rs[i].m _) _ _=_;have bc:=L.ok _ (Kf hi);have er:=JI hi;have hg:=λh:Hl rs=>h.2.2 _ (Kf hi);have hl:=λh:Hl rs=>h.2.1 i _ er;generalize rs[i]=r at *;by_cases hh:r=.halt
  ·subst hh;show ((z++y).length:Int)=p7 rs sp (z++y) rs.length;unfold p7;rw[JN (Lk _)]
  ·have e1:pL c.st r i rs.length=if (carry c.st (r.m 0)).1=true then (aF r).getD 0 else i+1:=by cases r<;>first|rfl|exact absurd rfl hh
   generalize hgg:((sp.getD ((aF r).getD 0) 0:Nat):Int)=g;have e2:∀bh en:Int,place c.st (r.m g) bh en=if (carry c.st (r.m g)).1=true then ((jz (r.m g)).getD 0) else bh:=λbh en=>by cases r<;>first|rfl|exact absurd rfl hh
   rw[e2,e1,jL _ _ g 0];by_cases hc:(carry c.st (r.m 0)).1=true
   ·rw[JQ hc,JQ hc];obtain⟨t,ht⟩:=fP hc;have eg:jz (r.m g)=some g:=by cases r<;>first|rfl|cases ht
    rw[eg,ht];rw[ht] at hgg;show g=p7 rs sp (z++y) t;rw[L.nU y hy (gS bc ht) (hy.imp id λh e=>hg h (by rw[ht,e]))]
    exact hgg.symm
   ·rw[JN hc,JN hc];refine (L.nU y hy hi (hy.imp id λh e=>?_)).symm;rcases hl h e with rfl|⟨g',rfl⟩
    ·exact hh rfl
    ·exact hc rfl
 ·show c.rd+_-c.at_=_;rw[ha];unfold p7;rw[JQ hi]
end
theorem EW{cd:List (List (List Nat))}{rs:List Row}(L:Laid cd rs ws sp z)(y:List Nat)(h:i<rs.length):p7 rs sp (z++y) i≠(((z++y).length:Nat):Int):=by
 unfold p7;rw[JQ h];have:=L.mono i (rs.length-i-1) (by lia)
 rw[show i+(rs.length-i-1)+1=rs.length by lia,<- L.last] at this
 rw[JL];lia
theorem CP{cd:List (List (List Nat))}{rs:List Row}(L:Laid cd rs ws sp z)(y:List Nat){c:BS}(hi:i<=rs.length)(ha:c.at_=p7 rs sp (z++y) i):pS cd (z++y) c=if i=rs.length then "halt" else "more":=by
 unfold pS;by_cases h:i<rs.length
 ·rw[JN (by rw[ha];exact EW L y h),ha,L.read y h,JN (by lia)]
 ·rw[JQ (by rw[ha];unfold p7;rw[JN h]),JQ (by lia)]
structure Jb (g w:List Int) (k:Nat) (a b:f_):Prop where
 ga:a.given=g
 gb:b.given=w
 told:a.told=b.told
 bs:a.bs=b.bs
 le:b.heard<=k
 hd:a.heard=min b.heard g.length
theorem Jb.step{g w:List Int}{a b:f_}(h:Jb g w k a b)(hw:∀i,i<=k->w[i]?=some (g[i]?.getD 0))(r:dF):Jb g w (k+1) (carry a r).2 (carry b r).2/\(carry a r).1=(carry b r).1:=by
 obtain⟨h1,h2,h3,h4,h5,h6⟩:=h;obtain⟨ag,ah,at',ab⟩:=a;obtain⟨bg,bh,bt,bb⟩:=b;dsimp only at *;subst h1;subst h2;subst h3;subst h4
 cases r with
 |put x n=>exact⟨⟨rfl,rfl,rfl,rfl,L6 h5,h6⟩,rfl⟩
 |two u x y=>exact⟨⟨rfl,rfl,rfl,rfl,L6 h5,h6⟩,rfl⟩
 |jump g=>exact⟨⟨rfl,rfl,rfl,rfl,L6 h5,h6⟩,rfl⟩
 |zero x g=>exact⟨⟨rfl,rfl,rfl,rfl,L6 h5,h6⟩,rfl⟩
 |halt=>exact⟨⟨rfl,rfl,rfl,rfl,L6 h5,h6⟩,rfl⟩
 |one u x =>
  rcases iQ u with rfl|rfl
  ·exact⟨⟨rfl,rfl,rfl,rfl,L6 h5,h6⟩,rfl⟩
  ·have hb:=hw bh h5;have eb:cL ⟨bg,bh,at',ab⟩=(ag[bh]?.getD 0,⟨bg,bh+1,at',ab⟩):=by
    unfold cL;dsimp only;rw[hb]
   refine⟨?_,rfl⟩;have ec:∀s:f_,(carry s (.one 1 x)).2={(cL s).2 with bs:=(cL s).2.bs.set x ((cL s).1 % 65536)}:=λ_=>rfl
   rw[ec,ec,eb];by_cases c:bh<ag.length
   ·have ea:cL ⟨ag,ah,at',ab⟩=(ag[bh]?.getD 0,⟨ag,ah+1,at',ab⟩):=by
     unfold cL;dsimp only;rw[h6,Nat.min_eq_left (Nat.le_of_lt c),List.getElem?_eq_getElem c];rfl
    rw[ea];exact⟨rfl,rfl,rfl,rfl,Oa h5,by show ah+1=min (bh+1) _;lia⟩
   ·have ea:cL ⟨ag,ah,at',ab⟩=(ag[bh]?.getD 0,⟨ag,ah,at',ab⟩):=by
     unfold cL;dsimp only;rw[h6,Nat.min_eq_right (by lia),List.getElem?_eq_none (Nat.le_refl _),List.getElem?_eq_none (by lia)];rfl
    rw[ea];exact⟨rfl,rfl,rfl,rfl,Oa h5,by show ah=min (bh+1) _;lia⟩
theorem kQ{B:lX}(l:List Int):dn K H B (iV l) (l.map T.int):=by
 induction l with
 |nil=>exact .nil
 |cons x l ih=>exact .cons (.int x) ih
theorem AH(x:Int):Y.DN (.int x) (.int x)=true:=by unfold Y.DN;exact Kw rfl
theorem nM(n:Nat)(x:Int):lY n (.int x) (.int x) true:=by
 have:=lY.flat (n:=n) (t:=.int x) (u:=.int x) rfl rfl
 rwa [AH] at this
theorem nq(n:Nat)(x:Str):lY n (.str x) (.str x) true:=by
 have:=lY.flat (n:=n) (t:=.str x) (u:=.str x) rfl rfl
 rwa [show Y.DN (.str x) (.str x)=true from by unfold Y.DN;exact Kw rfl] at this
theorem all_true(n:Nat):ng n n (λ_=>true)=true:=iZ rfl λ_ _=>rfl
theorem kM(n:Nat)(l:List Int):lY (n+1) (.tup (l.map T.int)) (.tup (l.map T.int)) true:=by
 have:=lY.tup (n:=n) (xs:=l.map T.int) (ys:=l.map T.int) (λ_=>true) λj x y h1 h2=>by
  rw[h1] at h2;cases h2;rw[JW] at h1;obtain⟨k,_,rfl⟩:=Km.mp h1;exact nM n k
 rwa [all_true] at this
noncomputable def no:lX:=λ_=>False
theorem nT{vs ws:List V}{xs:List T}(ha:H a=some (.tup vs))(hb:H b=some (.tup ws))(r1:dn K H no vs xs)(r2:dn K H no ws xs)(he:∀x∈xs,lY 4 x x true)(q:Q (.bl (!neg)) H):Y.rC K 4 neg (.ref a) (.ref b) H Q:=by
 refine⟨no,a,b,vs,ws,xs,xs,λ_=>true,rfl,rfl,.inl ⟨bB.of ha,bB.of hb⟩,r1,r2,λj x y h1 h2=>?_,?_⟩
 ·rw[h1] at h2;cases h2;exact he x (KW h1)
 ·rw[all_true]
  cases neg<;>exact q
theorem Cr{l:List Int}(ha:H a=some (.tup (iV l)))(hb:H b=some (.tup (iV l)))(q:Q (.bl (!neg)) H):Y.rC K 4 neg (.ref a) (.ref b) H Q:=nT ha hb (kQ l) (kQ l) (λx hx=>by
 obtain⟨k,_,rfl⟩:=K2.mp hx;exact nM 4 k) q
theorem gM{p:Addr}{l:List Int}(h:H p=some (.tup (iV l))):Rep K H no (.ref p) (.tup (l.map T.int)):=.tup (λz=>z) h (kQ l)
theorem nS(h:H a=some (.tup xs))(q1:dP xs lo hi=xs->Q (.ref a) H)(q2:∀p,H p=none->Q (.ref p) (upd H p (.tup (dP xs lo hi)))):Y.yz K (.ref a) lo hi H Q:=by
 by_cases z:HT.bW xs.length 0 lo=0/\HT.bW xs.length xs.length hi=xs.length
 ·exact .inr (.inr ⟨a,xs,rfl,bB.of h,z.1,z.2,q1 (by unfold dP;rw[z.1,z.2,Mr,Ld,KH])⟩)
 ·exact .inr (.inl ⟨a,xs,rfl,bB.of h,z,q2⟩)
theorem jX(xs:List V)(n:Nat):dP xs none (some (n:Int))=xs.take n:=by
 unfold dP;rw[HT.e8,HT.fW,Ld,Mr];rcases Nat.le_total n xs.length with c|c
 ·rw[Nt c]
 ·rw[Nat.min_eq_right c,KH,KC c]
structure Tl where
 how:Str
 told:List Int
 rd:Int
 bs:List Int
noncomputable def vR(cd:List (List (List Nat)))(z:List Nat)(c:BS):Tl:=⟨pS cd z c,c.st.told,c.rd,c.st.bs⟩
noncomputable def EL(H:Hp)(v:V)(x:Tl):Prop:=∃t p1 p2,v=.ref t/\H t=some (.tup [.str x.how,.ref p1,.int x.rd,.ref p2])/\H p1=some (.tup (iV x.told))/\H p2=some (.tup (iV x.bs))
theorem FX.tl{v:V}{cd:List (List (List Nat))}{c:BS}(h:FX H v cd z c):EL H v (vR cd z c):=h
theorem EL.keep{v:V}{x:Tl}(h:EL H v x)(k:KB ex H H')(hx:NT ex H):EL H' v x:=by
 obtain⟨t,p1,p2,e,a1,a2,a3⟩:=h;exact⟨t,p1,p2,e,k _ _ a1 λz=>hx _ z _ a1,k _ _ a2 λz=>hx _ z _ a2,k _ _ a3 λz=>hx _ z _ a3⟩
theorem EL.kb{v:V}{x:Tl}(h:EL H v x)(k:KB [] H H'):EL H' v x:=h.keep k (NT.nil _)
noncomputable def wM(cd:List (List (List Nat)))(rs:List Row):List V:=rs.map λr=>.str (wd (bL cd r))
theorem C1(r:Row):r.vs=(r.m (((aF r).getD 0:Nat):Int)).vs:=by cases r<;>rfl
theorem sH(r:Row):jc (r.m (((aF r).getD 0:Nat):Int))=cq (aF r):=by cases r<;>rfl
noncomputable def sJ(bk:List (List Int))(rs:List Row):List Nat:=Ac (jE (fZ bk) rs) (rs.map aF)
noncomputable def vN(bk:List (List Int))(rs:List Row):List Nat:=jm 0 (jE (fZ bk) rs) (rs.map aF) (sJ bk rs)
noncomputable def eE(bk:List (List Int))(rs:List Row):List Nat:=mY (fZ bk) (vN bk rs) 0 rs (sJ bk rs)
theorem jH{bk:List (List Int)}{rs:List Row}(hB:Bk bk)(h2:rs.length<=64)(h3:∀r∈rs,r.Ok rs.length):Laid (fZ bk) rs (sJ bk rs) (vN bk rs) (eE bk rs):=by
 have sl:(jE (fZ bk) rs).length=rs.length:=JK ..;have gl:(rs.map aF).length=rs.length:=JK ..;obtain⟨l1,l2,l3⟩:=Hk (ss:=jE (fZ bk) rs) (gs:=rs.map aF) (λs hs=>by
  obtain⟨r,hr,rfl⟩:=K2.mp hs;have:=gJ hB.cd (h3 r hr)
  lia) (by rw[sl];exact h2) (by rw[gl,sl])
 exact⟨(qH hB).1,by unfold sJ;rw[l1,sl],h2,h3,l2,rfl,l3,rfl⟩
theorem B4(xs:List V):dP xs none (some (-1))=xs.dropLast:=by
 unfold dP;rw[HT.e8,Ld,Mr,OG];congr 1;unfold HT.bW;simp only[show ((-1:Int)<0)=True from eq_true (by decide),Mn]
 lia
noncomputable def jG:Sp:=λvs H Q _=>∃(a b:Addr) (bk:List (List Int)) (rs:List Row),vs=[.ref a,.ref b]/\jy H a rs/\wJ H b bk/\Bk bk/\rs.length<=64/\(∀r∈rs,r.Ok rs.length)/\∀t u H',KB [] H H'->H' t=some (.tup [.str (wd (eE bk rs)),.ref u])->H' u=some (.tup (iV (nZ (vN bk rs)).dropLast))->Q (.ref t) H'
theorem Bi(T:Txt K mg)(F:HasFn K mg "pack_rows" cZ ["program","book"])(hcodes_of:ax P w K mg base aT 6 "codes_of" ["book"] (oC K))(hbits_ahead_of_goal:ax P w K mg base aT 3 "bits_ahead_of_goal" ["row","codes"] (ur K))(hgoal_of:ax P w K mg base aT 1 "goal_of" ["row"] eO)(hleast_widths:ax P w K mg base aT 5 "least_widths" ["sizes","goals"] (qm K))(hrow_starts:ax P w K mg base aT 2 "row_starts" ["sizes","widths"] (lb K))(hjump_written:ax P w K mg base aT 2 "jump_written" ["width","distance"] uL)(hdistance_of:ax P w K mg base aT 1 "distance_of" ["starts","goals","row"] si):ax P w K mg base aT 7 "pack_rows" ["program","book"] jG:=by
 refine F.fR bD (λvs H Q E h=>?_) (λf cdv A outer s H vs Q E hr h=>?_)
 ·obtain⟨a,b,bk,rs,rfl,_⟩:=h;rfl
 ·have hu:=aR hr;obtain⟨a,b,bk,rs,rfl,hp,hb,hB,h2,h3,q⟩:=h;have hC:=hB.cd;have L:=jH hB h2 h3;unfold eE at q L;have ew:sJ bk rs=Ac (jE (fZ bk) rs) (rs.map aF):=rfl;have es:vN bk rs=jm 0 (jE (fZ bk) rs) (rs.map aF) (sJ bk rs):=rfl;refine⟨_,(Z.aq (Z.se (i:=2) bD.nd (Z.fc hcodes_of (Z.cons (Z.v 1) Z.nil)))
   (Z.aq (Z.sec (j:=3) bD.nd (osc:=af cZ) (ON:=["program","book","codes","firsts","sizes","goals","widths","starts","bits","row","first"]) (own:=["row"]) (N:=["row","program","book","codes","firsts","sizes","goals","widths","starts","bits",".row","first"]) (aQ.of rfl (by decide +kernel)) (Z.any K rfl (Z.v 0)) (λnd _ _ _ _=>(Z.bu (i:=0) nd rfl (by right))) (λ_ _ _ _=>Z.vy) (λ_ _ _ _=>(Z.fc hbits_ahead_of_goal (Z.cons (Z.v 0) (Z.cons (Z.v 3) Z.nil)))))
   (Z.aq (Z.sec (j:=4) bD.nd (osc:=af cZ) (ON:=["program","book","codes","firsts","sizes","goals","widths","starts","bits","row","first"]) (own:=["first"]) (N:=["first","program","book","codes","firsts","sizes","goals","widths","starts","bits","row",".first"]) (aQ.of rfl (by decide +kernel)) (Z.any K rfl (Z.v 3)) (λnd _ _ _ _=>(Z.bu (i:=0) nd rfl (by right))) (λ_ _ _ _=>Z.vy) (λ_ _ _ _=>(Z.cb (Z.cY K rfl) rfl T.cN (by decide +kernel) (Z.cons (Z.v 0) Z.nil))))
   (Z.aq (Z.sec (j:=5) bD.nd (osc:=af cZ) (ON:=["program","book","codes","firsts","sizes","goals","widths","starts","bits","row","first"]) (own:=["row"]) (N:=["row","program","book","codes","firsts","sizes","goals","widths","starts","bits",".row","first"]) (aQ.of rfl (by decide +kernel)) (Z.any K rfl (Z.v 0)) (λnd _ _ _ _=>(Z.bu (i:=0) nd rfl (by right))) (λ_ _ _ _=>Z.vy) (λ_ _ _ _=>(Z.fc hgoal_of (Z.cons (Z.v 0) Z.nil))))
   (Z.aq (Z.se (i:=6) bD.nd (Z.fc hleast_widths (Z.cons (Z.v 4) (Z.cons (Z.v 5) Z.nil))))
   (Z.aq (Z.se (i:=7) bD.nd (Z.fc hrow_starts (Z.cons (Z.v 4) (Z.cons (Z.v 6) Z.nil))))
   (Z.aq (Z.se (i:=8) bD.nd (Z.lst Z.nil))
   (Z.aq (Z.iW K1 rfl (Z.DK K rfl rfl T.gC (Z.cons (Z.v 3) Z.nil)) (Z.q5 (n:=2) K rfl rfl (Z.b_ (Z.bu (i:=9) bD.nd rfl (by right)) (Z.b_ (Z.bu (i:=10) bD.nd rfl (by right)) Z.j3))) (Z.aq (Z.expr (Z.app K (Z.v 8) (Z.cons (Z.v 10) Z.nil)))
   (Z.aA (Z.dJ (Z.aZ iN (Z.ix (Z.aP K rfl hu) (Z.v 5) (Z.v 9)) Z.aU) (Z.aA (Z.expr (Z.app K (Z.v 8) (Z.cons (Z.fc hjump_written (Z.cons (Z.ix (Z.aP K rfl hu) (Z.v 6) (Z.v 9)) (Z.cons (Z.fc hdistance_of (Z.cons (Z.v 7) (Z.cons (Z.v 5) (Z.cons (Z.v 9) Z.nil)))) Z.nil))) Z.nil)))) Z.bN))))
   (Z.aA (Z.ret (Z.tup (Z.cons (Z.bm K rfl PySem.F.plainAttrs_str PySem.F.slot_str_join PySem.F.type_str_join (Z.Ai K rfl) Z.str (Z.cons (Z.v 8) Z.nil)) (Z.cons (Z.ct (Z.cQ K rfl) rfl T.cO (by decide +kernel) (Z.cons (Z.slice (Z.Ej K rfl) (Z.v 7) Z.vZ (Z.oN (Z.un fV Z.int))) Z.nil)) Z.nil))))))))))))),?_⟩
  refine ay λN hN=>?_;walk_at "rz";refine⟨b,bk,rfl,hb,hB,λca H1 hca k1 cdl=>?_⟩;rw[hN];clear hN N;generalize fZ bk=cd at *;generalize sJ bk rs=ws at *;generalize vN bk rs=sp at *;have hp1:=hp.kb k1;refine ay λN hN=>?_;obtain⟨ps,hps,hpa⟩:=hp1;have hpl:=hpa.1;exists aM hps;refine cE (xs:=ps.map V.ref) (JX (show _<=64 by rw[JK];lia) (by decide)) (λD i ys H'=>H1 D=none/\H' D=some (.lst ys)/\KB [] H1 H'/\ys=wM cd (rs.take i)/\i<=rs.length) (λD hD=>⟨hD,ae,KB.new hD,rfl,Kh _⟩) (λD i ys H' h=>⟨h.2.1,by rw[h.2.2.2.1,wM,JK,Ki];have:=h.2.2.2.2;lia⟩) (λD i ys H' h=>bB.of (h.2.2.1 _ _ hps (by simp))) ?_ ?_
  ·rintro D i ys H' x R hx ⟨g0,g1,gk,rfl,hi⟩ kk;obtain⟨u,eu,rfl⟩:∃u,ps[i]?=some u/\x=.ref u:=by
    rw[JW] at hx;obtain⟨u,e,rfl⟩:=Km.mp hx;exact⟨u,e,rfl⟩
   have hlt:i<rs.length:=by have:=(JO.mp eu).1;lia
   have er:=JI hlt;have et:rs.take (i+1)=rs.take i++[rs[i]]:=by rw[Lz,er];rfl
   walk_at "rz";refine⟨u,ca,rs[i],rs.length,cd,rfl,gk _ _ (hpa.2 i u _ eu er) (by simp),h3 _ (Kf hlt),cdl.kb gk,hC,λH5 k5=>?_⟩
   exact kk _ _ (k5 _ _ g1 (by simp)) ⟨g0,ae,λu o e _=>by rw[ao (au e g0)];exact k5 _ _ (gk _ _ e (by simp)) (by simp),by rw[et];unfold wM;rw[Kg];rfl,hlt⟩
  rintro pl ys H2 ⟨_,gp,k2,rfl,_⟩;rw[JK,hpl,KH] at gp;show N _ _;rw[hN];clear hN N;have k02:=k1.trans k2;clear cdl hps hpa hpl k2 k1 hca;refine ay λN hN=>?_;exists aO gp;refine ip (xs:=wM cd rs) (JX (show _<=64 by rw[wM,JK];exact h2) (by decide)) (λD i ys H'=>H2 D=none/\H' D=some (.lst ys)/\KB [] H2 H'/\ys=iV (nZ (jE cd (rs.take i)))/\i<=rs.length) (λD hD=>⟨hD,ae,KB.new hD,rfl,Kh _⟩) (λD i ys H' h=>⟨h.2.1,by rw[h.2.2.2.1,fQ,jE,JK,Ki];have:=h.2.2.2.2;lia⟩) (λD i ys H' h=>cf.of (h.2.2.1 _ _ gp (by simp))) ?_ ?_
  ·rintro D i ys H' x R hx ⟨g0,g1,gk,rfl,hi⟩ kk;have hlt:i<rs.length:=by have:=(JO.mp hx).1;rw[wM,JK] at this;exact this
   have er:=JI hlt;have et:rs.take (i+1)=rs.take i++[rs[i]]:=by rw[Lz,er];rfl
   have ex:x=.str (wd (bL cd rs[i])):=by
    unfold wM at hx;rw[JW,er] at hx;exact (Option.some.inj hx).symm
   subst ex;have h136:=gJ hC (h3 _ (Kf hlt));exists bE;exact⟨JX h136 (by decide),kk _ _ g1 ⟨g0,ae,λu o e _=>by rw[ao (au e g0)];exact gk _ _ e (by simp),by rw[et];unfold jE nZ iV;rw[Kg,Kg,Kg];rfl,hlt⟩⟩
  rintro sa ys H3 ⟨_,gsz,k3,rfl,_⟩;rw[show (wM cd rs).length=rs.length from JK ..,KH] at gsz;show N _ _;rw[hN];clear hN N;have k03:=k02.trans k3;have gp3:=k3 _ _ gp (by simp)
  refine ay λN hN=>?_;obtain⟨ps,hps,hpa⟩:=hp.kb k03;have hpl:=hpa.1;exists aM hps;refine cE (xs:=ps.map V.ref) (JX (show _<=64 by rw[JK];lia) (by decide)) (λD i ys H'=>H3 D=none/\H' D=some (.lst ys)/\KB [] H3 H'/\ys=((rs.take i).map aF).map cq/\i<=rs.length) (λD hD=>⟨hD,ae,KB.new hD,rfl,Kh _⟩) (λD i ys H' h=>⟨h.2.1,by rw[h.2.2.2.1,JK,JK,Ki];have:=h.2.2.2.2;lia⟩) (λD i ys H' h=>bB.of (h.2.2.1 _ _ hps (by simp))) ?_ ?_
  ·rintro D i ys H' x R hx ⟨g0,g1,gk,rfl,hi⟩ kk;obtain⟨u,eu,rfl⟩:∃u,ps[i]?=some u/\x=.ref u:=by
    rw[JW] at hx;obtain⟨u,e,rfl⟩:=Km.mp hx;exact⟨u,e,rfl⟩
   have hlt:i<rs.length:=by have:=(JO.mp eu).1;lia
   have er:=JI hlt;have et:rs.take (i+1)=rs.take i++[rs[i]]:=by rw[Lz,er];rfl
   have hu':=gk _ _ (hpa.2 i u _ eu er) (by simp)
   rw[C1] at hu';walk_at "rz";refine⟨u,_,rfl,hu',?_⟩;rw[sH];exact kk _ _ g1 ⟨g0,ae,λu o e _=>by rw[ao (au e g0)];exact gk _ _ e (by simp),by rw[et,Kg,Kg];rfl,hlt⟩
  rintro ga ys H4 ⟨_,gg,k4,rfl,_⟩;rw[JK,hpl,KH] at gg;show N _ _;rw[hN];clear hN N;clear hps hpa hpl;have k04:=k03.trans k4;have gp4:=k4 _ _ gp3 (by simp)
  have gsz4:=k4 _ _ gsz (by simp)
  have Dz:(jE cd rs).length=rs.length:=JK ..;have gl1:(rs.map aF).length=rs.length:=JK ..;have sb:∀s∈jE cd rs,s<=150:=λs hs=>by
   obtain⟨r,hr',rfl⟩:=K2.mp hs;have:=gJ hC (h3 r hr');lia
  have gb:∀t,some t∈rs.map aF->t<=(jE cd rs).length:=λt ht=>by
   obtain⟨r,hr',e⟩:=K2.mp ht;rw[Dz];exact gS (h3 r hr') e
  clear gp gp3 gsz k02 k03 k3 k4;refine ay λN hN=>?_;walk_at "rz";refine⟨sa,ga,jE cd rs,rs.map aF,rfl,gsz4,gg,by rw[gl1,Dz],by rw[Dz];exact h2,sb,gb,λwa H5 k5 g5=>?_⟩
  rw[<- ew] at g5;rw[hN];clear hN N;have wl:=L.len;have wt:=L.lt;refine ay λN hN=>?_;walk_at "rz";refine⟨sa,wa,false,jE cd rs,rs.map aF,ws,rfl,k5 _ _ gsz4 (by simp),bB.of g5,λH' k=>bB.of (k _ _ g5 (by simp)),by rw[gl1,Dz],by rw[wl,Dz],by rw[Dz];exact h2,wt,λpa H6 _ k6 g6=>?_⟩
  rw[<- es] at g6;rw[hN];clear hN N;have spl:=L.sl;have k56:=k5.trans k6;have k06:=k04.trans k56;have gp6:=k56 _ _ gp4 (by simp)
  have gg6:=k56 _ _ gg (by simp)
  have gw6:=k6 _ _ g5 (by simp)
  clear k56 gp4 gg g5 k5 k6 gsz4 k04 sb gb;refine ay λN hN=>?_;walk_at "rz";refine⟨Kh _,λbl hbl=>?_⟩;have k7:=KB.new (ex:=[]) (o:=.lst []) hbl;have s7:upd H6 bl (.lst []) bl=some (.lst []):=ae;generalize upd H6 bl (.lst [])=H7 at *;have hblH:H bl=none:=k06.free (by simp) hbl
  rw[hN];clear hN N;refine ay λN hN=>?_;walk_at "rz";have gp7:=k7 _ _ gp6 (by simp)
  refine⟨⟨_,cf.of gp7⟩,?_⟩;have keepB:∀{G:Hp} {o:HO},KB [] H6 G->KB [] H6 (upd G bl o):=λk u o' e z=>by rw[ao (au e hbl)];exact k u o' e z
  refine lI (xs:=wM cd rs) (λi σ H'=>∃(acc:List (List Nat)) (o9 o10:Option V),i<=rs.length/\KB [] H6 H'/\H' bl=some (.lst ((acc.map wd).map V.str))/\acc.flatten++mY cd sp i (rs.drop i) (ws.drop i)=mY cd sp 0 rs ws/\acc.length<=2*i/\acc.flatten.length<=200*i/\σ=[some (.ref a),some (.ref b),some (.ref ca),some (.ref pl),some (.ref sa),some (.ref ga),some (.ref wa),some (.ref pa),some (.ref bl),o9,o10]) ⟨[],none,none,Kh _,k7,s7,rfl,Kh _,Kh _,rfl⟩ (λi σ H' _ h=>by obtain⟨_,_,_,_,k,_⟩:=h;exact cf.of (k _ _ gp6 (by simp))) ?_ ?_
  ·rintro i x σ H' p hx ⟨acc,o9,o10,hi,hk,gb,ex,hx1,hx2,rfl⟩ hp';have hlt:i<rs.length:=by have:=(JO.mp hx).1;rw[wM,JK] at this;exact this
   have er:=JI hlt;have ewi:=JI (show i<ws.length by lia)
   have lw:=wt _ (Kf (show i<ws.length by lia))
   have okr:=h3 _ (Kf hlt);rw[Lg hlt,Lg (show i<ws.length by lia),mY] at ex
   unfold wM at hx;rw[JW,er] at hx;generalize rs[i]'_=r at *;generalize ws[i]'_=w0 at *;cases hx;have h136:=gJ hC okr;have ag:cI ((rs.map aF).map cq) (i:Int)=some (cq (aF r)):=b9 (by rw[JW,JW,er];rfl)
   unfold bT;refine⟨p,_,rfl,bB.of ae,rfl,_,_,rfl,_,_,rfl,rfl,?_⟩;have kz:=KB.new (ex:=[]) (o:=.tup [.int i,.str (wd (bL cd r))]) hp';generalize upd H' p (.tup [.int i,.str (wd (bL cd r))])=G1 at *;have hk1:=hk.trans kz;have gb1:=kz _ _ gb (by simp)
   dsimp only;refine ay λM hM=>?_;walk_at "rz";refine⟨.inl ⟨rfl,_,cf.of gb1⟩,bl,_,_,rfl,rfl,gb1,Nat.lt_of_le_of_lt (show _<=1000 by rw[List.length_map,List.length_map];lia) (by decide),?_⟩
   have gb2:upd G1 bl (.lst ((acc.map wd).map V.str++[.str (wd (bL cd r))])) bl=some (.lst (((acc++[bL cd r]).map wd).map V.str)):=by rw[ae,Kg,Kg];rfl
   have hk2:=keepB (o:=.lst ((acc.map wd).map V.str++[.str (wd (bL cd r))])) hk1;generalize upd G1 bl (.lst ((acc.map wd).map V.str++[.str (wd (bL cd r))]))=G2 at *;rw[hM];clear hM M;dsimp only;refine vc λM hM=>?_;refine DZ λA B hA hB'=>?_;exists aO (hk2 _ _ gg6 (by simp)),ag
   have f1:(acc++[bL cd r]).flatten=acc.flatten++bL cd r:=by simp
   cases eg:aF r with
   |none =>
    rw[JN (show ¬ ¬ cq none=V.aU from λz=>z rfl),hB'];show M _ _;rw[hM];refine⟨acc++[bL cd r],_,_,hlt,hk2,gb2,?_,by rw[JL];simp;lia,by rw[f1,JL];lia,rfl⟩
    rw[<- ex,eg,f1];simp[Cv]
   |some g =>
    rw[eg] at ag;rw[JQ (show ¬ cq (some g)=V.aU from λz=>nomatch z),hA];clear hA hB';have hg:g<=rs.length:=gS okr eg;have egs:(rs.map aF)[i]?=some (some g):=by rw[JW,er];exact K7 some eg
    have aw:cI (iw (rs.map aF) ws) (i:Int)=some (.int (w0:Nat)):=b9 (ni egs ewi);exists aM (hk2 _ _ gw6 (by simp)),aw
    refine⟨.inl ⟨rfl,_,cf.of gb2⟩,pa,ga,sp,rs.map aF,i,g,rfl,hk2 _ _ g6 (by simp),hk2 _ _ gg6 (by simp),egs,by lia,by lia,w0,fM sp g i,rfl,lw,?_⟩
    refine⟨bl,_,_,rfl,rfl,gb2,KN (show _<=1000 by rw[JK,JK,JL];simp;lia) (by decide),?_⟩
    rw[hM];have jl:=tX lw (fM sp g i);have f2:(acc++[bL cd r]++[dD w0 (fM sp g i)]).flatten=acc.flatten++bL cd r++dD w0 (fM sp g i):=by simp
    have jl2:Iu w0<=18:=by rcases mq lw with rfl|rfl|rfl<;>decide
    refine⟨acc++[bL cd r]++[dD w0 (fM sp g i)],_,_,hlt,keepB hk2,by rw[ae];simp only[Kg,Ku,Ml],?_,by rw[JL,JL];simp;lia,by rw[f2,JL,JL,jl];lia,rfl⟩
    rw[<- ex,eg,f2];simp[Cv]
  ·rintro σ H' ⟨acc,o9,o10,hi,hk,gb,ex,hx1,hx2,rfl⟩;show N _ _;rw[hN];clear hN N;rw[show (wM cd rs).length=rs.length from JK ..] at *;rw[M7] at ex;have ex':acc.flatten=mY cd sp 0 rs ws:=by rw[<- ex];unfold mY;exact (K6 _).symm
   walk_at "rz";have e2:((acc.map wd).map λx=>x.length).sum=acc.flatten.length:=by
    rw[List.length_flatten,L5];rfl
   refine⟨rfl,_,bl,_,rfl,rfl,cf.of gb,?_,?_⟩
   ·rw[e2,show (Str.ofString "").length=0 from by decide +kernel];lia
   rw[nv,ex'];exists aO (hk _ _ g6 (by simp))
   rw[B4];intro q1 hq1 l2 hl2;have k8:=KB.new (ex:=[]) (o:=.lst (iV (nZ sp)).dropLast) hq1;generalize upd H' q1 (.lst (iV (nZ sp)).dropLast)=G1 at *;have k9:=KB.new (ex:=[]) (o:=.tup (iV (nZ sp)).dropLast) hl2;have s9:upd G1 l2 (.tup (iV (nZ sp)).dropLast) l2=_:=ae;generalize upd G1 l2 (.tup (iV (nZ sp)).dropLast)=G2 at *;refine⟨by decide,λt ht=>?_⟩
   have k10:=KB.new (ex:=[]) (o:=.tup [.str (wd (mY cd sp 0 rs ws)),.ref l2]) ht;refine q t l2 _ (k06.trans (hk.trans (k8.trans (k9.trans k10)))) ae ?_;rw[k10 _ _ s9 (by simp)]
   unfold iV;rw[List.map_dropLast]
structure RS where
 st:f_
 at_:Nat
 tn:List Nat
noncomputable def dU(rs:List Row)(c:RS)(r:Row):RS:=⟨(carry c.st (r.m 0)).2,pL c.st r c.at_ rs.length,c.tn.set c.at_ (c.tn.getD c.at_ 0+1)⟩
noncomputable def aS(rs:List Row):Nat->RS->RS
 |0,c=>c
 |n+1,c=>match rs[c.at_]? with
  |none=>c
  |some r=>aS rs n (dU rs c r)
noncomputable def iP(rs:List Row)(g:List Int):RS:=⟨DB g,0,List.replicate rs.length 0⟩
noncomputable def dm(rs:List Row)(c:RS):Str:=if c.at_<rs.length then "more" else "halt"
noncomputable def JF(H:Hp)(v:V)(rs:List Row)(c:RS):Prop:=∃t p1 p2 p3,v=.ref t/\H t=some (.tup [.str (dm rs c),.ref p1,.ref p2,.ref p3])/\H p1=some (.tup (iV c.st.told))/\H p2=some (.tup (iV (nZ c.tn)))/\H p3=some (.tup (iV c.st.bs))
theorem vz(st:f_)(r:Row)(i n:Nat):place st (r.m (((aF r).getD 0:Nat):Int)) ((i:Int)+1) (n:Int)=((pL st r i n:Nat):Int):=by
 by_cases hh:r=.halt
 ·subst hh;rfl
 ·have e1:pL st r i n=if (carry st (r.m 0)).1=true then (aF r).getD 0 else i+1:=by cases r<;>first|rfl|exact absurd rfl hh
  have e2:∀(g bh en:Int),place st (r.m g) bh en=if (carry st (r.m g)).1=true then ((jz (r.m g)).getD 0) else bh:=λg bh en=>by cases r<;>first|rfl|exact absurd rfl hh
  rw[e2,e1,jL _ _ _ 0];by_cases hc:(carry st (r.m 0)).1=true
  ·rw[JQ hc,JQ hc];obtain⟨t,ht⟩:=fP hc;have eg:∀g,jz (r.m g)=some g:=λg=>by cases r<;>first|rfl|cases ht
   rw[eg];rfl
  ·rw[JN hc,JN hc];rfl
theorem IS{r:Row}{n:Nat}(h:r.Ok n)(g:Int):(r.m g).Ok:=by
 cases r with
 |put b n=>exact h.1
 |two u a b=>exact h
 |one u b=>exact h
 |jump g=>exact trivial
 |zero b g=>exact h.1
 |halt=>exact trivial
noncomputable def qU(K:W.Frag):Sp:=λvs H Q _=>∃(a gv:Addr) (rs:List Row) (g:List Int) (most:Nat),vs=[.ref a,.ref gv,.int (most:Nat)]/\jy H a rs/\H gv=some (.tup (iV g))/\rs.length<=64/\(∀r∈rs,r.Ok rs.length)/\most<=10000/\∀v H',KB [] H H'->JF H' v rs (aS rs most (iP rs g))->Q v H'
theorem AB(T:Txt K mg)(hgoal_of:ax P w K mg base aT 1 "goal_of" ["row"] eO)(F:HasFn K mg "run_rows" fI ["program","given","most"]):ax P w K mg base aT 7 "run_rows" ["program","given","most"] (qU K):=by
 obtain⟨C_Machine,f___init__,f_place_next,f_carry_out,f_number_for,f_heard_number,f_told_numbers,f_box_numbers,d___init__,d_place_next,d_carry_out,d_number_for,d_heard_number,d_told_numbers,d_box_numbers,hC_Machine,cM,na_given,na_heard,na_told,na_boxes,mm___init__,FM___init__,bm___init__,mm_place_next,FM_place_next,bm_place_next,mm_carry_out,FM_carry_out,bm_carry_out,mm_number_for,FM_number_for,bm_number_for,mm_heard_number,FM_heard_number,bm_heard_number,mm_told_numbers,FM_told_numbers,bm_told_numbers,mm_box_numbers,FM_box_numbers,bm_box_numbers⟩:=T.mc;have FO_heard_number:=pN (P:=P) (w:=w) (mg:=mg) (base:=base) T cM na_given na_heard FM_heard_number;have FO_number_for:=xJ (P:=P) (w:=w) (mg:=mg) (base:=base) T cM na_boxes mm_heard_number bm_heard_number FO_heard_number FM_number_for;have FO_carry_out:=qF (P:=P) (w:=w) (mg:=mg) (base:=base) T cM na_boxes na_told mm_number_for bm_number_for FO_number_for FM_carry_out;have FO_place_next:=qx T hgoal_of cM mm_carry_out bm_carry_out FO_carry_out FM_place_next;have FO_told_numbers:=uH (P:=P) (w:=w) (mg:=mg) (base:=base) T cM na_told FM_told_numbers;have FO_box_numbers:=qC (P:=P) (w:=w) (mg:=mg) (base:=base) T cM na_boxes FM_box_numbers;have FO___init__:=ud (P:=P) (w:=w) (mg:=mg) (base:=base) T cM na_given na_heard na_told na_boxes FM___init__;refine F.fR cm (λvs H Q E h=>?_) (λf cdv A outer s H vs Q E hr h=>?_)
 ·obtain⟨a,gv,rs,g,most,rfl,_⟩:=h;rfl
 ·obtain⟨pa,gv,rs,g,most,rfl,hp,og1,hl,bc,hmo,q⟩:=h;have hu:=aR hr;refine⟨_,(Z.aq (Z.se (i:=3) cm.nd (Z.make K rfl mm___init__ FO___init__ (hr.mono (by decide)) rfl hC_Machine bm___init__ cu (Z.cons (Z.v 1) Z.nil)))
   (Z.aq (Z.sec (j:=4) cm.nd (osc:=af fI) (ON:=["program","given","most","machine","turns","at","done","how"]) (own:=["row"]) (N:=["row","program","given","most","machine","turns","at","done","how"]) (aQ.of rfl (by decide +kernel)) (Z.any K rfl (Z.v 0)) (λnd _ _ _ _=>(Z.bu (i:=0) nd rfl (by right))) (λ_ _ _ _=>Z.vy) (λ_ _ _ _=>Z.int))
   (Z.aq (Z.se (i:=5) cm.nd Z.int)
   (Z.aq (Z.se (i:=6) cm.nd Z.int)
   (Z.aq (Z.nr K1 (Z.tw (Z.p8 (Z.aZ fA (Z.v 5) (Z.cb (Z.cY K rfl) rfl T.cN (by decide +kernel) (Z.cons (Z.v 0) Z.nil))) (Z.j0 (Z.aZ fA (Z.v 6) (Z.v 2))))) (Z.aq (Z.asg (Z.op (Z.bp K rfl) (Z.ix (Z.aP K rfl hu) (Z.v 4) (Z.v 5)) Z.int) (Z.rR (Z.v 4) (Z.v 5)))
   (Z.aq (Z.se (i:=6) cm.nd (Z.op (Z.bp K rfl) (Z.v 6) Z.int))
   (Z.aA (Z.se (i:=5) cm.nd (Z.rZ K rfl (Z.v 3) cM mm_place_next FO_place_next (hr.mono (by decide)) bm_place_next cu (Z.cons (Z.ix (Z.aP K rfl hu) (Z.v 0) (Z.v 5)) (Z.cons (Z.op (Z.bp K rfl) (Z.v 5) Z.int) (Z.cons (Z.cb (Z.cY K rfl) rfl T.cN (by decide +kernel) (Z.cons (Z.v 0) Z.nil)) Z.nil)))))))))
   (Z.aq (Z.se (i:=7) cm.nd (Z.A5 (Z.aZ fA (Z.v 5) (Z.cb (Z.cY K rfl) rfl T.cN (by decide +kernel) (Z.cons (Z.v 0) Z.nil))) Z.str Z.str))
   (Z.aA (Z.ret (Z.tup (Z.cons (Z.v 7) (Z.cons (Z.d_ K rfl (Z.v 3) cM mm_told_numbers FO_told_numbers (hr.mono (by decide)) bm_told_numbers cu) (Z.cons (Z.ct (Z.cQ K rfl) rfl T.cO (by decide +kernel) (Z.cons (Z.v 4) Z.nil)) (Z.cons (Z.d_ K rfl (Z.v 3) cM mm_box_numbers FO_box_numbers (hr.mono (by decide)) bm_box_numbers cu) Z.nil))))))))))))),?_⟩
  refine ay λN hN=>?_;walk_at "rz";intro x dx hx0 hdx0 hxd;have gx:gv≠x:=λzz=>by rw[zz,hx0] at og1;cases og1
  have gd:gv≠dx:=λzz=>by rw[zz,hdx0] at og1;cases og1
  refine⟨x,dx,gv,g,rfl,ae,by rw[ao hxd];exact ae,by rw[ao gx,ao gd];exact og1,λH2 tl bx htl hbx M2 kb2=>⟨rfl,?_⟩⟩
  have k12:KB [] H H2:=λc o e _=>kb2 c o (by rw[ao (au e hx0),ao (au e hdx0)];exact e) (by simpa using au e hx0)
  obtain⟨a,ea⟩:∃a:MA,a=⟨x,dx,gv,tl,bx⟩:=⟨_,rfl⟩;have em:x=a.m:=by rw[ea]
  rw[<- ea] at M2;rw[em];have new:∀b,b∈MF a->H b=none:=λb hb=>by
   have un:∀{c:Addr},upd (upd H dx (HO.own x)) x (HO.ins C_Machine dx []) c=none->H c=none:=λ{c} e=>by
    by_cases c1:c=x
    ·rw[c1];exact hx0
    ·rw[ao c1] at e;by_cases c2:c=dx
     ·rw[c2];exact hdx0
     ·rw[ao c2] at e;exact e
   rw[ea] at hb;simp only[MF,JR,Kt,La] at hb;rcases hb with rfl|rfl|rfl
   ·exact hx0
   ·exact un htl
   ·exact un hbx
  have ntp:∀{G:Hp} {st:f_},MS K C_Machine G a st->NT (MF a) G:=λM b hb xs e=>by
   simp only[MF,JR,Kt,La] at hb;rcases hb with rfl|rfl|rfl
   ·rw[M.om] at e;cases e
   ·rw[M.ot] at e;cases e
   ·rw[M.ob] at e;cases e
  have keepH:∀{G G':Hp},KB [] H G->KB (MF a) G G'->KB [] H G':=λo k c u e _=>k _ _ (o _ _ e (by simp)) λzz=>by rw[new c zz] at e;cases e
  clear gx gd htl hbx kb2 og1 em;rw[hN];clear hN N;refine ay λN hN=>?_;obtain⟨ps,hps,hpa⟩:=hp.kb k12;have hpl:=hpa.1;exists aM hps;refine cE (xs:=ps.map V.ref) (JX (show _<=64 by rw[JK];lia) (by decide)) (λD i ys H'=>H2 D=none/\H' D=some (.lst ys)/\KB [] H2 H'/\ys=iV (nZ (List.replicate i 0))) (λD hD=>⟨hD,ae,KB.new hD,rfl⟩) (λD i ys H' h=>⟨h.2.1,by rw[h.2.2.2,cR,hZ,Kb]⟩) (λD i ys H' h=>bB.of (h.2.2.1 _ _ hps (by simp))) ?_ ?_
  ·rintro D i ys H' z R hz ⟨g0,g1,gk,rfl⟩ kk;walk_at "rz";exact kk _ _ g1 ⟨g0,ae,λu o e _=>by rw[ao (au e g0)];exact gk _ _ e (by simp),by rw[List.replicate_succ'];unfold nZ iV;rw[Kg,Kg];rfl⟩
  rintro tn ys H3 ⟨htn,gtn,k3,rfl⟩;rw[JK,hpl] at gtn;have M3:=M2.kb k3;have k03:=k12.trans k3;have ntn:tn∉MF a:=λz=>by
   have:∃o,H2 tn=some o:=by
    simp only[MF,JR,Kt,La] at z;rcases z with rfl|rfl|rfl
    ·exact⟨_,M2.om⟩
    ·exact⟨_,M2.ot⟩
    ·exact⟨_,M2.ob⟩
   obtain⟨o,e⟩:=this;rw[htn] at e;cases e
  have htnH:H tn=none:=k12.free (by simp) htn
  show N _ _;rw[hN];clear hN N;refine ay λN hN=>?_;walk_at "rz";rw[hN];clear hN N;refine ay λN hN=>?_;walk_at "rz";rw[hN];clear hN N;obtain⟨R,eR⟩:∃R,R=aS rs most (iP rs g):=⟨_,rfl⟩;rw[<- eR] at q;clear hps hpa hpl k3 M2 k12;refine ay λN hN=>?_;refine⟨λm σ H'=>∃(n:Nat) (c:RS),n<=most/\m=most-n/\R=aS rs (most-n) c/\c.st.told.length<=n/\c.at_<=rs.length/\c.tn.length=rs.length/\MS K C_Machine H' a c.st/\KB [] H H'/\H' tn=some (.lst (iV (nZ c.tn)))/\σ=[some (V.ref pa),some (V.ref gv),some (V.int (most:Nat)),some (V.ref a.m),some (V.ref tn),some (V.int (c.at_:Nat)),some (V.int (n:Nat)),none],⟨most,0,iP rs g,Kh _,rfl,eR,Kh _,Kh _,Kb ..,M3,k03,gtn,rfl⟩,?_⟩;rintro m σ H4 ⟨n,c,hn,rfl,hrun,htl,hat,htl2,M4,old4,gt4,rfl⟩;obtain⟨ps,hps,hpa⟩:=hp.kb old4;have hpl:=hpa.1;have fin:R=c->N [some (V.ref pa),some (V.ref gv),some (V.int (most:Nat)),some (V.ref a.m),some (V.ref tn),some (V.int (c.at_:Nat)),some (V.int (n:Nat)),none] H4:=λhc=>by
   rw[hN];clear hN N;subst hc;refine ay λN hN=>?_;have ret:N [some (V.ref pa),some (V.ref gv),some (V.int (most:Nat)),some (V.ref a.m),some (V.ref tn),some (V.int (R.at_:Nat)),some (V.int (n:Nat)),some (V.str (dm rs R))] H4:=by
    rw[hN];clear hN N;walk_at "rz";refine⟨a.m,a.dx,_,rfl,M4.om,wb (by decide +kernel) (by decide +kernel) (by decide +kernel) (by decide +kernel),a,R.st,rfl,M4,λp1 hp1=>?_⟩
    have k5:KB [] H4 (upd H4 p1 (.tup (iV R.st.told))):=KB.new hp1;have t5:upd H4 p1 (.tup (iV R.st.told)) p1=some (.tup (iV R.st.told)):=ae;generalize upd H4 p1 (.tup (iV R.st.told))=H5 at *;have M5:=M4.kb k5;exists aO (k5 _ _ gt4 (by simp))
    intro p2 hp2;have k6:KB [] H5 (upd H5 p2 (.tup (iV (nZ R.tn)))):=KB.new hp2;have t6:upd H5 p2 (.tup (iV (nZ R.tn))) p2=some (.tup (iV (nZ R.tn))):=ae;generalize upd H5 p2 (.tup (iV (nZ R.tn)))=H6 at *;have M6:=M5.kb k6;refine⟨a.m,a.dx,_,rfl,M6.om,wb (by decide +kernel) (by decide +kernel) (by decide +kernel) (by decide +kernel),a,R.st,rfl,M6,λp3 H7 hp3 t7 k7=>?_⟩
    refine⟨by decide,λp4 hp4=>?_⟩
    have k8:=KB.new (ex:=[]) (o:=.tup [.str (dm rs R),.ref p1,.ref p2,.ref p3]) hp4;exact q _ _ (old4.trans (k5.trans (k6.trans (k7.trans k8)))) ⟨p4,p1,p2,p3,rfl,ae,k8 _ _ (k7 _ _ (k6 _ _ t5 (by simp)) (by simp)) (by simp),k8 _ _ (k7 _ _ t6 (by simp)) (by simp),k8 _ _ t7 (by simp)⟩
   exists aM hps,JK,hpl;unfold dm at ret;by_cases c1:R.at_<rs.length
   ·rw[JQ c1] at ret;rw[JQ (show (R.at_:Int)<(rs.length:Nat) by lia)]
    exact ret
   ·rw[JN c1] at ret;rw[JN (show ¬ (R.at_:Int)<(rs.length:Nat) by lia)]
    exact ret
  exists aM hps,JK,hpl;by_cases c1:(c.at_:Int)<(rs.length:Nat)
  ·rw[JQ c1];have hlt:c.at_<rs.length:=by lia
   have er:=JI hlt;by_cases c2:((n:Nat):Int)<(most:Nat)
   ·rw[JQ c2];have nx:aS rs (most-n) c=aS rs (most-(n+1)) (dU rs c rs[c.at_]):=by
     rw[show most-n=(most-(n+1))+1 by lia,aS,er]
    refine⟨λσ' H'=>∃m',m'<most-n/\∃(n:Nat) (c:RS),n<=most/\m'=most-n/\R=aS rs (most-n) c/\c.st.told.length<=n/\c.at_<=rs.length/\c.tn.length=rs.length/\MS K C_Machine H' a c.st/\KB [] H H'/\H' tn=some (.lst (iV (nZ c.tn)))/\σ'=[some (V.ref pa),some (V.ref gv),some (V.int (most:Nat)),some (V.ref a.m),some (V.ref tn),some (V.int (c.at_:Nat)),some (V.int (n:Nat)),none],λ_ _ h=>h,?_⟩;have av:cI (iV (nZ c.tn)) (c.at_:Int)=some (.int ((c.tn.getD c.at_ 0:Nat):Int)):=b9 (by unfold iV nZ;rw[L5,JW,JI (show c.at_<c.tn.length by lia),JY,JI (show c.at_<c.tn.length by lia)];rfl)
    have c3:lV (iV (nZ c.tn)).length (c.at_:Int)=some c.at_:=by
     rw[cR,hZ];unfold lV;rw[JQ (by lia),JQ (by lia),Ky]
    exists aO gt4,av,gt4,c3;have es:(iV (nZ c.tn)).set c.at_ (.int (((c.tn.getD c.at_ 0:Nat):Int)+1))=iV (nZ (c.tn.set c.at_ (c.tn.getD c.at_ 0+1))):=by unfold iV nZ;rw[MN,MN];rfl
    rw[es];have kt:KB [tn] H4 (upd H4 tn (.lst (iV (nZ (c.tn.set c.at_ (c.tn.getD c.at_ 0+1)))))):=KB.set (by simp)
    have gt5:upd H4 tn (.lst (iV (nZ (c.tn.set c.at_ (c.tn.getD c.at_ 0+1))))) tn=_:=ae;have old5:KB [] H (upd H4 tn (.lst (iV (nZ (c.tn.set c.at_ (c.tn.getD c.at_ 0+1)))))):=λu o e z=>by rw[ao (au e htnH)];exact old4 _ _ e z
    generalize upd H4 tn (.lst (iV (nZ (c.tn.set c.at_ (c.tn.getD c.at_ 0+1)))))=H5 at *;have ne:∀b∈MF a,b∉[tn]:=λb hb z=>ntn (by rw[<- Ka.mp z];exact hb)
    have ntd:∀{b:Addr} {o:HO},H4 b=some o->(∀xs,o≠.lst xs)->b∉[tn]:=λe ho z=>by
     rw[Ka.mp z,gt4] at e;cases e;exact ho _ rfl
    have M5:MS K C_Machine H5 a c.st:=⟨kt _ _ M4.om (ne _ (by unfold MF;simp)),kt _ _ M4.od (ntd M4.od (λxs z=>nomatch z)),kt _ _ M4.og (ntd M4.og (λxs z=>nomatch z)),kt _ _ M4.ot (ne _ (by unfold MF;simp)),kt _ _ M4.ob (ne _ (by unfold MF;simp)),M4.l8,M4.hh⟩
    obtain⟨qs,hqs,hqa⟩:=hp.kb old5;have hql:=hqa.1;have eq1:=JI (show c.at_<qs.length by lia)
    generalize qs[c.at_]'_=ra at eq1;have ar:cI (qs.map V.ref) (c.at_:Int)=some (.ref ra):=b9 (by rw[JW,eq1];rfl)
    have hra:=hqa.2 _ _ _ eq1 er;have rok:=bc _ (Kf hlt);generalize rs[c.at_]=r at *;rw[C1] at hra;refine⟨a.m,a.dx,_,rfl,M5.om,wb (by decide +kernel) (by decide +kernel) (by decide +kernel) (by decide +kernel),?_⟩
    exists aM hqs,ar,JK,hql;refine⟨a,c.st,ra,r.m _,_,_,rfl,M5,hra,IS rok _,by lia,λH6 M6 k6=>?_⟩
    rw[vz];have tle:=u7 c.st (r.m (((aF r).getD 0:Nat):Int));rw[jL _ _ _ 0] at M6 tle;refine⟨most-(n+1),by lia,n+1,dU rs c r,by lia,rfl,hrun.trans nx,?_,yM hlt rok,by show (c.tn.set _ _).length=_;rw[KD];exact htl2,M6,keepH old5 k6,k6 _ _ gt5 ntn,rfl,rfl⟩
    show (carry c.st (r.m 0)).2.told.length<=n+1;lia
   ·rw[JN c2];refine fin ?_;rw[hrun,show most-n=0 by lia];rfl
  ·rw[JN c1];refine fin ?_;rw[hrun]
   cases hz:most-n with
   |zero=>rfl
   |succ z=>rw[aS,Nf (show rs.length<=c.at_ by lia)]
noncomputable def cnt(sp:List Nat):Nat->List Nat->Int
 |_,[]=>0
 |k,t::ts=>(t:Int)*(((sp.getD (k+1) 0:Nat):Int)-((sp.getD k 0:Nat):Int))+cnt sp (k+1) ts
theorem u9(sp:List Nat):∀(ts:List Nat) (k i:Nat),i<ts.length->cnt sp k (ts.set i (ts.getD i 0+1))=cnt sp k ts+((sp.getD (k+i+1) 0:Nat):Int)-((sp.getD (k+i) 0:Nat):Int)
 |[],_,_,h=>absurd h (LH _)
 |t::ts,k,0,_=>by
  show ((t+1:Nat):Int)*_+_=(t:Int)*_+_+_-_;rw[Nat.add_zero,show ((t+1:Nat):Int)=(t:Int)+1 from rfl,Int.add_mul,Int.one_mul];lia
 |t::ts,k,i+1,h=>by
  show (t:Int)*_+cnt sp (k+1) (ts.set i (ts.getD i 0+1))=(t:Int)*_+cnt sp (k+1) ts+_-_;rw[u9 sp ts (k+1) i (by simpa using h),show k+1+i=k+(i+1) by lia]
  lia
theorem qo(sp:List Nat):∀(n k:Nat),cnt sp k (List.replicate n 0)=0
 |0,_=>rfl
 |n+1,k=>by rw[K4,cnt,qo sp n (k+1)];simp
structure Sd (rs:List Row) (sp z:List Nat) (c:RS) (d:BS):Prop where
 le:c.at_<=rs.length
 tl:c.tn.length=rs.length
 st:d.st=c.st
 at_:d.at_=p7 rs sp z c.at_
 rd:d.rd=cnt sp 0 c.tn
theorem km{cd:List (List (List Nat))}{rs:List Row}(L:Laid cd rs ws sp z):∀(m:Nat) (c:RS) (d:BS),Sd rs sp z c d->Sd rs sp z (aS rs m c) (dw cd z m d)
 |0,_,_,h=>h
 |m+1,c,d,h=>by
  obtain⟨h1,h2,h3,h4,h5⟩:=h;by_cases hc:c.at_<rs.length
  ·have hst:=L.step [] (.inl rfl) (c:=d) hc (by rw[K6];exact h4)
   rw[K6] at hst;obtain⟨x,e1,e2,e3,e4⟩:=hst;rw[aS,dw,e1,JI hc];refine km L m _ _ ⟨yM hc (L.ok _ (Kf hc)),by show (c.tn.set _ _).length=_;rw[KD];exact h2,by rw[e2,h3];rfl,by rw[e3,h3];rfl,?_⟩
   rw[e4,h5];show _=cnt sp 0 (c.tn.set c.at_ (c.tn.getD c.at_ 0+1));rw[u9 sp c.tn 0 c.at_ (by lia),MJ]
  ·have n1:Ay cd z d.at_=none:=by rw[h4];unfold p7;rw[JN hc];exact Ba L.hR
   rw[aS,dw,n1,Nf (show rs.length<=c.at_ by lia)]
   exact⟨h1,h2,h3,h4,h5⟩
theorem jK{cd:List (List (List Nat))}{rs:List Row}(L:Laid cd rs ws sp z)(g:List Int):Sd rs sp z (iP rs g) (Fl g):=by
 refine⟨Kh _,Kb ..,rfl,?_,(qo sp rs.length 0).symm⟩;have e:=L.nU [] (.inl rfl) (t:=0) (Kh _) (.inl rfl);rw[K6] at e;show (0:Int)=p7 rs sp z 0;rw[e,L.oJ];obtain⟨l,e⟩:=nK 0 (jE cd rs) (rs.map aF) ws;rw[e];rfl
theorem wm{cd:List (List (List Nat))}{rs:List Row}(L:Laid cd rs ws sp z){c:RS}{d:BS}(h:Sd rs sp z c d):pS cd z d=dm rs c:=by
 have e:=CP L [] (c:=d) h.le (by rw[K6];exact h.at_)
 rw[K6] at e;rw[e];unfold dm;by_cases hc:c.at_<rs.length
 ·rw[JQ hc,JN (by lia)]
 ·rw[JN hc,JQ (by have:=h.le;lia)]
theorem tP{rs:List Row}:∀(m:Nat) (c:RS),c.tn.length=rs.length->∃j,j<=m/\(aS rs m c).tn.sum=c.tn.sum+j/\aS rs j c=aS rs m c
 |0,c,_=>⟨0,JS _,rfl,rfl⟩
 |m+1,c,h=>by
  cases e:rs[c.at_]? with
  |none=>exact⟨0,Kh _,by rw[aS,e];rfl,by rw[aS,aS,e]⟩
  |some r =>
   have hlt:=(JO.mp e).1;obtain⟨j,h1,h2,h3⟩:=tP (rs:=rs) m (dU rs c r) (by show (c.tn.set _ _).length=_;rw[KD];exact h)
   have es:(dU rs c r).tn.sum=c.tn.sum+1:=uI (JI (show c.at_<c.tn.length by lia))
   refine⟨j+1,by lia,?_,?_⟩
   ·rw[aS,e];show (aS rs m (dU rs c r)).tn.sum=_;rw[h2,es];lia
   ·rw[aS,aS,e];exact h3
theorem AJ{cd:List (List (List Nat))}{rs:List Row}(L:Laid cd rs ws sp z)(g:List Int)(most:Nat):vR cd z (dw cd z most (Fl g))=⟨dm rs (aS rs most (iP rs g)),(aS rs most (iP rs g)).st.told,cnt sp 0 (aS rs most (iP rs g)).tn,(aS rs most (iP rs g)).st.bs⟩/\vR cd z (dw cd z (aS rs most (iP rs g)).tn.sum (Fl g))=vR cd z (dw cd z most (Fl g))/\(aS rs most (iP rs g)).tn.sum<=most:=by
 have s1:=km L most _ _ (jK L g);have e1:∀{c:RS} {d:BS},Sd rs sp z c d->vR cd z d=⟨dm rs c,c.st.told,cnt sp 0 c.tn,c.st.bs⟩:=λh=>by unfold vR;rw[wm L h,h.st,h.rd]
 obtain⟨j,h1,h2,h3⟩:=tP most (iP rs g) (Kb ..);have h2':(aS rs most (iP rs g)).tn.sum=j:=by
  rw[h2];show (List.replicate rs.length 0).sum+j=j;rw[Mg];lia
 rw[h2'];have s2:=km L j _ _ (jK L g);rw[h3] at s2;exact⟨e1 s1,by rw[e1 s1,e1 s2],h1⟩
noncomputable def tY:Sp:=λvs H Q _=>∃(p dq:Addr) (n:Nat),vs=[.ref p]/\bG H p dq n/\n<2^38/\∀(g:List Int) (a:Addr) H',g.length<=40->H' a=some (.tup (iV g))->bG H' p dq (n+100)->KB [p,dq] H H'->Q (.ref a) H'
theorem xA(T:Txt K mg)(F:HasFn K mg "_law_given" fO ["deck"])(h_law_draw:ax P w K mg base aT 2 "_law_draw" ["deck","most"] eZ):ax P w K mg base aT 3 "_law_given" ["deck"] tY:=by
 refine F.fR d9 (λvs H Q E h=>?_) (λf cdv A outer s H vs Q E hr h=>?_)
 ·obtain⟨p,dq,n,rfl,_⟩:=h;rfl
 ·have hu:=aR hr;obtain⟨p,dq,n,rfl,hd,hn,q⟩:=h;refine⟨_,(Z.aq (Z.se (i:=1) d9.nd (Z.lst Z.nil))
   (Z.aq (Z.iW K1 rfl (Z.Aj rfl T.gP (Z.cons (Z.fc h_law_draw (Z.cons (Z.v 0) (Z.cons (Z.ix (Z.aP K rfl hu) (Z.lst (Z.consts rfl)) (Z.ct vq rfl T.zP (by decide +kernel) (Z.cons (Z.cmp b8 (Z.fc h_law_draw (Z.cons (Z.v 0) (Z.cons Z.int Z.nil))) Z.int) Z.nil))) Z.nil))) Z.nil)) (Z.bu (i:=2) d9.nd rfl (by right)) (Z.aq (Z.se (i:=3) d9.nd (Z.fc h_law_draw (Z.cons (Z.v 0) (Z.cons (Z.op sL Z.int Z.int) Z.nil))))
   (Z.aA (Z.expr (Z.app K (Z.v 1) (Z.cons (Z.ix (Z.aP K rfl hu) (Z.lst (Z.cons (Z.op cU (Z.v 3) Z.int) (Z.cons (Z.op cU (Z.v 3) Z.int) (Z.cons (Z.v 3) (Z.cons (Z.op dI Z.int (Z.v 3)) (Z.cons (Z.op (Z.bp K rfl) (Z.op de (Z.v 3) (Z.op sL Z.int Z.int)) Z.int) Z.nil)))))) (Z.fc h_law_draw (Z.cons (Z.v 0) (Z.cons Z.int Z.nil)))) Z.nil))))))
   (Z.aA (Z.ret (Z.ct (Z.cQ K rfl) rfl T.cO (by decide +kernel) (Z.cons (Z.v 1) Z.nil)))))),?_⟩
  refine ay λN hN=>?_;walk_at "rz";refine⟨by decide,λfd hfd=>?_⟩
  have k1:KB [] H (upd H fd (.lst [])):=KB.new hfd;have s1:upd H fd (.lst []) fd=some (.lst (iV [])):=ae;generalize upd H fd (.lst [])=H1 at *;have nf:=hd.new hfd;have fp:p≠fd:=λz=>nf (by simp[z])
  have fq:dq≠fd:=λz=>nf (by simp[z])
  rw[hN];clear hN N;refine ay λN hN=>?_;walk_at "rz";refine⟨by decide,λl hl=>?_⟩
  have k2:KB [] H1 (upd H1 l (.lst [.int 4,.int 41])):=KB.new hl;have s2:upd H1 l (.lst [.int 4,.int 41]) l=_:=ae;generalize upd H1 l (.lst [.int 4,.int 41])=H2 at *;have D2:=hd.kb (k1.trans k2);have nl:=(hd.kb k1).new hl;refine⟨p,dq,6,n,rfl,D2,by lia,by decide,by decide,λv1 H3 hv1 D3 k3=>?_⟩
  obtain⟨m,hm,em⟩:∃m:Int,(0<m/\m<=41)/\cI [V.int 4,.int 41] (if (v1:Int)=0 then 1 else 0)=some (.int m):=by
   by_cases c:(v1:Int)=0
   ·rw[JQ c];exact⟨41,by decide,rfl⟩
   ·rw[JN c];exact⟨4,by decide,rfl⟩
  exists aO (k3 _ _ s2 nl),em;refine⟨p,dq,m,_,rfl,D3,by lia,hm.1,by lia,λv2 H4 hv2 D4 k4=>?_⟩
  have hk4:KB [p,dq] H H4:=k1.all.trans (k2.all.trans (k3.trans k4));have g4:=k4 _ _ (k3 _ _ (k2 _ _ s1 (by simp)) nf) nf
  walk_at "rz";refine⟨by lia,by lia,?_⟩
  rw[Ky];refine eF (λi σ H'=>∃(g:List Int) (o2 o3:Option V),g.length=i/\bG H' p dq (n+2+2*i)/\KB [p,dq] H H'/\H' fd=some (.lst (iV g))/\σ=[some (.ref p),some (.ref fd),o2,o3]) ⟨[],none,none,rfl,D4,hk4,g4,rfl⟩ ?_ ?_
  ·rintro i σ H' hi ⟨g,o2,o3,hg,hD,hk,gf,rfl⟩;generalize (0:Int)+((i:Nat):Int)=kI;unfold bT;refine ay λM hM=>?_;walk_at "rz";have cp:vF 10 7:=by unfold vF;decide
   have cp9:vF 10 9:=by unfold vF;decide
   refine⟨cp,p,dq,10000000,_,rfl,hD,by lia,by decide,by decide,λu1 H5 hu1 D5 k5=>?_⟩
   have hk5:=hk.trans k5;have gf5:=k5 _ _ gf nf;rw[hM];clear hM M;dsimp only;refine vc λM hM=>?_;walk_at "rz";refine⟨.inl ⟨rfl,_,cf.of gf5⟩,by decide,by decide,cp9,.inl ⟨by lia,by lia⟩,by decide,λl6 hl6=>?_⟩
   have D6:=D5.kb (KB.new (o:=.lst [.int ((u1:Int) % 3),.int ((u1:Int) % 65537),.int (u1:Int),.int (0-(u1:Int)),.int ((u1:Int)*10^(9:Int).toNat+7)]) hl6);have k6:KB [] H5 (upd H5 l6 (.lst [.int ((u1:Int) % 3),.int ((u1:Int) % 65537),.int (u1:Int),.int (0-(u1:Int)),.int ((u1:Int)*10^(9:Int).toNat+7)])):=KB.new hl6;have s6:upd H5 l6 (.lst [.int ((u1:Int) % 3),.int ((u1:Int) % 65537),.int (u1:Int),.int (0-(u1:Int)),.int ((u1:Int)*10^(9:Int).toNat+7)]) l6=_:=ae;generalize upd H5 l6 (.lst [.int ((u1:Int) % 3),.int ((u1:Int) % 65537),.int (u1:Int),.int (0-(u1:Int)),.int ((u1:Int)*10^(9:Int).toNat+7)])=H6 at *;refine⟨p,dq,5,_,rfl,D6,by lia,by decide,by decide,λu2 H7 hu2 D7 k7=>?_⟩
   obtain⟨x,ex⟩:∃x:Int,cI [V.int ((u1:Int) % 3),.int ((u1:Int) % 65537),.int (u1:Int),.int (0-(u1:Int)),.int ((u1:Int)*10^(9:Int).toNat+7)] (u2:Int)=some (.int x):=by
    rcases (show u2=0\/u2=1\/u2=2\/u2=3\/u2=4 by lia) with rfl|rfl|rfl|rfl|rfl<;>exact⟨_,rfl⟩
   have n6:=D5.new hl6;have gf7:=k7 _ _ (k6 _ _ gf5 (by simp)) nf
   exists aO (k7 _ _ s6 n6),ex;refine⟨fd,_,_,rfl,rfl,gf7,KN (show _<=1000 by rw[cR];lia) (by decide),?_⟩
   rw[hM];exact⟨g++[x],some _,some _,by rw[JL,hg];rfl,(D7.keep (KB.set (ex:=[fd]) (by simp)) (by simpa using fp) (by simpa using fq)).mono (by lia),λb o e z=>by rw[ao (au e hfd)];exact (hk5.trans (k6.all.trans k7)) b o e z,by rw[ae,nR];rfl,rfl⟩
  ·rintro σ H' ⟨g,o2,o3,hg,hD,hk,gf,rfl⟩;show N _ _;rw[hN];clear hN N;exists aO gf;exactλa ha=>q g a _ (by lia) ae ((hD.kb (KB.new ha)).mono (by lia)) (hk.trans (KB.new ha))
theorem yG(xs:List V)(v:V):dP (xs++[v]) none (some (-1))=xs:=by
 unfold dP;rw[HT.e8,Ld,Mr];have:HT.bW (xs++[v]).length (xs++[v]).length (some (-1))=xs.length:=by
  unfold HT.bW;simp only[show ((-1:Int)<0)=True from eq_true (by decide),Mn,JL,J_,KL]
  lia
 rw[this,MP]
noncomputable def xx:Sp:=λvs H Q _=>∃(a:Addr) (xs:List V) (v:V) (g:Int),vs=[.ref a,.int g]/\H a=some (.tup (xs++[v]))/\xs≠[]/\xs.length<=2/\∀p H',KB [] H H'->H' p=some (.tup (xs++[.int g]))->Q (.ref p) H'
theorem AG(T:Txt K mg)(F:HasFn K mg "with_goal" gn ["row","goal"]):ax P w K mg base aT 1 "with_goal" ["row","goal"] xx:=by
 refine F.fR ou (λvs H Q E h=>?_) (λf cdv A outer s H vs Q E hr h=>?_)
 ·obtain⟨a,xs,v,g,rfl,_⟩:=h;rfl
 ·have hu:=aR hr;obtain⟨a,xs,v,g,rfl,ha,hne,hl,q⟩:=h;refine⟨_,(Z.aA (Z.ret (Z.op (Z.bp K rfl) (Z.slice (Z.Ej K rfl) (Z.v 0) Z.vZ (Z.oN (Z.un fV Z.int))) (Z.tup (Z.cons (Z.v 1) Z.nil))))),?_⟩;exists aM ha;refine⟨a,_,rfl,bB.of ha,λz=>?_,λp hp=>?_⟩
  ·have h1:=z.2;have:HT.bW (xs++[v]).length (xs++[v]).length (some (-1))=xs.length:=by
    unfold HT.bW;simp only[show ((-1:Int)<0)=True from eq_true (by decide),Mn,JL,J_,KL]
    lia
   rw[this,JL] at h1;simp at h1
  rw[yG];have k1:=KB.new (ex:=[]) (o:=.tup xs) hp;have s1:upd H p (.tup xs) p=_:=ae;generalize upd H p (.tup xs)=H1 at *;refine⟨by decide,λp2 hp2=>?_⟩
  have k2:=KB.new (ex:=[]) (o:=.tup [.int g]) hp2;have s2:upd H1 p2 (.tup [.int g]) p2=_:=ae;have s12:=k2 _ _ s1 (by simp)
  generalize upd H1 p2 (.tup [.int g])=H2 at *;simp only[L2.Ap.addRef,s12,s2];refine⟨hne,by simp,JX (show _<=3 by simp;lia) (by decide),λp3 hp3=>?_⟩
  exact q _ _ (k1.trans (k2.trans (KB.new hp3))) ae
theorem jy.cut{rs:List Row}(hp:PA H as rs)(k:Nat):PA H (as.take k) (rs.take k):=by
 refine⟨by rw[Ki,Ki,hp.1],λi q r e1 e2=>?_⟩
 rw[Ly] at e1 e2
 split at e1
 ·rename_i c;rw[JQ c] at e2;exact hp.2 i q r e1 e2
 ·cases e1
theorem zC{rs:List Row}(h:jy H a rs)(q:∀u G,KB [] H G->jy G u (rs.take k)->Q (.ref u) G):Y.yz K (.ref a) none (some (k:Int)) H Q:=by
 obtain⟨as,ha,hp⟩:=h;refine nS ha (λe=>q a H (KB.refl _ _) ⟨as.take k,?_,jy.cut hp k⟩) (λp hp'=>q p _ (KB.new hp') ⟨as.take k,?_,(jy.cut hp k).keep (KB.new hp') (NT.nil _)⟩)
 ·rw[jX] at e;rw[ha,LY,e]
 ·rw[ae,jX,LY]
noncomputable def Bl.tr:Bl->L2.T
 |.s z=>.str z
 |.n k=>.int (k:Nat)
noncomputable def mh(r:Row):L2.T:=.tup (r.ps.map Bl.tr)
theorem CH{r:Row}(h:H q=some (.tup r.vs)):Rep K H no (.ref q) (mh r):=.tup (λz=>z) h (by
 unfold Row.vs
 induction r.ps with
 |nil=>exact .nil
 |cons x l ih =>
  refine .cons ?_ ih
  cases x with
  |s z=>exact .str z
  |n k=>exact .int _)
theorem tB:∀{as:List Addr} {rs:List Row},PA H as rs->dn K H no (as.map V.ref) (rs.map mh)
 |[],[],_=>.nil
 |[],_::_,h=>nomatch h.1
 |_::_,[],h=>nomatch h.1
 |a::as,r::rs,h=>.cons (CH (h.2 0 a r rfl rfl)) (tB ⟨Nat.succ.inj h.1,λi q r' e1 e2=>h.2 (i+1) q r' e1 e2⟩)
theorem Bp(n:Nat)(r:Row):lY (n+1) (mh r) (mh r) true:=by
 have:=lY.tup (n:=n) (xs:=r.ps.map Bl.tr) (ys:=r.ps.map Bl.tr) (λ_=>true) λj x y h1 h2=>by
  rw[h1] at h2;cases h2;rw[JW] at h1;obtain⟨k,_,rfl⟩:=Km.mp h1
  cases k with
  |s z=>exact nq n z
  |n k=>exact nM n _
 rwa [all_true] at this
theorem xw{cd:List (List (List Nat))}(h:∀ws∈cd,∀w∈ws,eC w)(sp:List Nat):∀(rs:List Row) (ws:List Nat) (k:Nat),eC (mY cd sp k rs ws)
 |[],_,_=>λc hc=>by unfold mY at hc;cases hc
 |_::_,[],_=>λc hc=>by unfold mY at hc;cases hc
 |r::rs,w::ws,k=>by
  rw[mY];refine eC.app (eC.app (yK h r) ?_) (xw h sp rs ws (k+1))
  cases aF r with
  |none=>exactλc hc=>by cases hc
  |some t =>
   refine eC.app ?_ (iq _ _ _ λc hc=>by cases hc)
   match w with
   |0=>exactλc hc=>.inl (Ka.mp hc)
   |1=>exactλc hc=>by simp[d5] at hc;exact hc.symm
   |_+2=>exactλc hc=>by simp[d5] at hc;exact .inr hc
noncomputable def setG:Row->Nat->Row
 |.jump _,g=>.jump g
 |.zero b _,g=>.zero b g
 |r,_=>r
noncomputable def fm(f:Nat)(r:Row):Row:=match aF r with
 |none=>r
 |some t=>if t<f then r else setG r (t+1)
noncomputable def Cf(f:Nat)(r:Row):Row:=match aF r with
 |none=>r
 |some t=>if t<f then r else setG r (t-1)
noncomputable def cH(k:Nat)(x:Row)(rs:List Row):List Row:=(rs.map (fm k)).take k++[x]++(rs.map (fm k)).drop k
noncomputable def BC(k:Nat)(rs:List Row):List Row:=(rs.take k++rs.drop (k+1)).map (Cf (k+1))
theorem pA{r:Row}(g:Nat)(h:aF r=some t):aF (setG r g)=some g:=by cases r<;>first|rfl|cases h
theorem FU{r:Row}{n m:Nat}(g:Nat)(h:aF r=some t)(ho:r.Ok n)(hg:g<=m):(setG r g).Ok m:=by
 cases r with
 |jump _=>exact hg
 |zero b _=>exact⟨ho.1,hg⟩
 |put=>cases h
 |two=>cases h
 |one=>cases h
 |halt=>cases h
theorem set_set{r:Row}(g:Nat)(h:aF r=some t):setG (setG r g) t=r:=by
 cases r with
 |jump _=>cases h;rfl
 |zero b _=>cases h;rfl
 |put=>cases h
 |two=>cases h
 |one=>cases h
 |halt=>cases h
theorem Dp{r:Row}{n m:Nat}(h:r.Ok n)(hm:n<=m):r.Ok m:=by
 cases r with
 |jump g=>exact JX h hm
 |zero b g=>exact⟨h.1,JX h.2 hm⟩
 |put=>exact h
 |two=>exact h
 |one=>exact h
 |halt=>exact h
theorem DQ{r:Row}{n:Nat}(f:Nat)(h:r.Ok n):(fm f r).Ok (n+1):=by
 unfold fm
 cases c:aF r with
 |none=>exact Dp h (KI n)
 |some t =>
  dsimp only;have ht:=gS h c;split
  ·exact Dp h (KI n)
  ·exact FU _ c h (by lia)
theorem fU{x:Row}{rs:List Row}(hk:k<=rs.length):(cH k x rs).length=rs.length+1:=by
 unfold cH;rw[JL,JL,Ki,Kq,JK];simp;lia
theorem yD{x:Row}{rs:List Row}(hk:k<=rs.length)(hx:x.Ok (rs.length+1))(h:∀r∈rs,r.Ok rs.length):∀r∈cH k x rs,r.Ok (cH k x rs).length:=by
 rw[fU hk];have hm:∀r∈rs.map (fm k),r.Ok (rs.length+1):=λr hr=>by
  obtain⟨r',h1,rfl⟩:=K2.mp hr;exact DQ k (h r' h1)
 intro r hr;unfold cH at hr;rcases K8.mp hr with hr|hr
 ·rcases K8.mp hr with hr|hr
  ·exact hm r (Np hr)
  ·rw[Ka.mp hr];exact hx
 ·exact hm r (List.mem_of_mem_drop hr)
theorem GO{r:Row}(k:Nat):Cf (k+1) (fm k r)=r:=by
 unfold fm
 cases c:aF r with
 |none=>unfold Cf;dsimp only;rw[c]
 |some t =>
  dsimp only;by_cases h:t<k
  ·rw[if_pos h];unfold Cf;rw[c];dsimp only;rw[if_pos (by lia)]
  ·rw[if_neg h];unfold Cf;rw[pA _ c];dsimp only;rw[if_neg (by lia),Nat.add_sub_cancel,set_set _ c]
theorem Cy{x:Row}{rs:List Row}(hk:k<=rs.length):BC k (cH k x rs)=rs:=by
 have hl:((rs.map (fm k)).take k).length=k:=by rw[Ki,JK];lia
 unfold BC cH;have e1:((rs.map (fm k)).take k++[x]++(rs.map (fm k)).drop k).take k=(rs.map (fm k)).take k:=by
  rw[Kj,Nu (by lia),KC (by lia)]
 have e2:((rs.map (fm k)).take k++[x]++(rs.map (fm k)).drop k).drop (k+1)=(rs.map (fm k)).drop k:=by
  have hl2:((rs.map (fm k)).take k++[x]).length=k+1:=by rw[JL,hl];rfl
  rw[<- hl2,N4]
 rw[e1,e2,Lh,L5];have:Cf (k+1) ∘ fm k=id:=funext λr=>GO k;rw[this,List.map_id]
noncomputable def jh(k i:Nat):Nat:=if i<k then i else i+1
noncomputable def wq(k:Nat):Row->Prop
 |.two 2 a b=>a=b/\a<8
 |.jump g=>g=k+1
 |.zero b g=>g=k+1/\b<8
 |_=>False
noncomputable def Ar(bs:List Int):Prop:=bs.length=8/\∀x∈bs,0<=x/\x<65536
theorem Ar.set{bs:List Int}{b:Nat}{v:Int}(h:Ar bs)(hv:0<=v/\v<65536):Ar (bs.set b v):=⟨by rw[KD];exact h.1,λx hx=>by
 rcases KA hx with h'|h'
 ·exact h.2 x h'
 ·rw[h'];exact hv⟩
theorem As(x:Int):0<=x % 65536/\x % 65536<65536:=⟨LI _ (by decide),LF _ (by decide)⟩
theorem A7(st:f_):(cL st).2.bs=st.bs:=by unfold cL;split<;>rfl
theorem yp{st:f_}{r:Row}{n:Nat}{g:Int}(hr:r.Ok n)(h:Ar st.bs):Ar (carry st (r.m g)).2.bs:=by
 cases r with
 |put b v=>exact h.set (by have:=hr.2;exact⟨by show (0:Int)<=((v:Nat):Int);lia,by show ((v:Nat):Int)<65536;lia⟩)
 |two u a b=>exact h.set (by rcases zr u with rfl|rfl|rfl<;>exact As _)
 |one u b =>
  rcases iQ u with rfl|rfl
  ·exact h
  ·show Ar ((cL st).2.bs.set b _);rw[A7];exact h.set (As _)
 |jump _=>exact h
 |zero b _=>exact h
 |halt=>exact h
theorem qN{x:Row}{st:f_}(hx:wq k x)(h:Ar st.bs)(i n:Nat)(hi:i=k):(carry st (x.m 0)).2=st/\pL st x i n=k+1:=by
 subst hi
 cases x with
 |two u a b =>
  rcases zr u with rfl|rfl|rfl
  ·exact hx.elim
  ·exact hx.elim
  ·obtain⟨rfl,ha⟩:=hx;refine⟨?_,rfl⟩;show ({st with bs:=st.bs.set a (qy st.bs a % 65536)}:f_)=st
   have hl:a<st.bs.length:=by rw[h.1];exact ha
   have e:qy st.bs a=st.bs[a]:=by unfold qy;rw[JI hl];rfl
   have hb:=h.2 _ (Kf hl);rw[e,Mj hb.1 hb.2,List.set_getElem_self]
 |jump g=>obtain rfl:=hx;exact⟨rfl,rfl⟩
 |zero b g =>
  obtain⟨rfl,_⟩:=hx;refine⟨rfl,?_⟩;show (if _ then i+1 else i+1)=i+1
  split<;>rfl
 |put=>exact hx.elim
 |one=>exact hx.elim
 |halt=>exact hx.elim
theorem BW{x:Row}{rs:List Row}(hk:k<=rs.length)(hi:i<rs.length):(cH k x rs)[jh k i]?=some (fm k rs[i])/\(cH k x rs)[k]?=some x:=by
 have hl:((rs.map (fm k)).take k).length=k:=by rw[Ki,JK];lia
 have er:(rs.map (fm k))[i]?=some (fm k rs[i]):=by rw[JW,JI hi];rfl
 unfold cH jh;refine⟨?_,?_⟩
 ·split
  ·rename_i c;rw[Kj,Ks (by lia),Ly,JQ c,er]
  ·rename_i c;rw[Kk (by rw[JL,hl];simp;lia),JL,hl,KR]
   rw[show k+(i+1-(k+[x].length))=i by simp;lia,er]
 ·rw[Kj,Kk (by lia),hl,Li];rfl
theorem p6(st:f_)(k:Nat)(r:Row):carry st ((fm k r).m 0)=carry st (r.m 0):=by
 unfold fm
 cases c:aF r with
 |none=>rfl
 |some t =>
  dsimp only;split
  ·rfl
  ·cases r<;>first|rfl|cases c
theorem Es{st:f_}{n:Nat}{r:Row}(hk:k<=n):pL st (fm k r) (jh k i) (n+1)=jh k (pL st r i n)\/(pL st (fm k r) (jh k i) (n+1)=k/\pL st r i n=k):=by
 by_cases hh:r=.halt
 ·subst hh;refine .inl ?_;show n+1=jh k n;unfold jh;rw[JN (by lia)]
 ·have e1:pL st r i n=if (carry st (r.m 0)).1=true then (aF r).getD 0 else i+1:=by cases r<;>first|rfl|exact absurd rfl hh
  have e2:pL st (fm k r) (jh k i) (n+1)=if (carry st (r.m 0)).1=true then (aF (fm k r)).getD 0 else jh k i+1:=by
   rw[<- p6 st k r];have h2:fm k r≠.halt:=by
    unfold fm
    cases c:aF r with
    |none=>exact hh
    |some t =>
     dsimp only;split
     ·exact hh
     ·cases r<;>first | (cases c;done) | (intro z;cases z)
   revert h2
   cases fm k r<;>intro h2<;>first|rfl|exact absurd rfl h2
  rw[e1,e2];by_cases hc:(carry st (r.m 0)).1=true
  ·rw[if_pos hc,if_pos hc];obtain⟨t,ht⟩:=fP hc;refine .inl ?_;unfold fm jh;rw[ht];dsimp only;rw[show (some t).getD 0=t from rfl];by_cases c:t<k
   ·rw[JQ c,JQ c,ht];rfl
   ·rw[JN c,JN c,pA _ ht];rfl
  ·rw[JN hc,JN hc];unfold jh;by_cases c:i<k
   ·rw[JQ c];by_cases c2:i+1<k
    ·exact .inl (by rw[JQ c2])
    ·exact .inr ⟨by lia,by lia⟩
   ·exact .inl (by rw[JN c,JN (by lia)])
theorem m9:∀(l:List Nat) (k i v:Nat),(l.set (jh k i) v).eraseIdx k=(l.eraseIdx k).set i v
 |[],k,i,v=>by simp
 |a::l,0,i,v=>by
  show ((a::l).set (if i<0 then i else i+1) v).eraseIdx 0=_
  rw[JN (LH _)];rfl
 |a::l,k+1,0,v=>by
  show ((a::l).set (if 0<k+1 then 0 else 0+1) v).eraseIdx (k+1)=_
  rw[JQ (Nat.succ_pos _)];rfl
 |a::l,k+1,i+1,v=>by
  have e:jh (k+1) (i+1)=jh k i+1:=by unfold jh;split<;>split<;>lia
  rw[e];show a::(l.set (jh k i) v).eraseIdx k=a::(l.eraseIdx k).set i v;rw[m9 l k i v]
theorem rM(l:List Nat)(k i:Nat):(l.eraseIdx k).getD i 0=l.getD (jh k i) 0:=by
 rw[JY,JY,List.getElem?_eraseIdx];unfold jh
 split<;>rfl
structure Iw (k:Nat) (c d:RS):Prop where
 st:d.st=c.st
 at_:d.at_=jh k c.at_
 tn:d.tn.eraseIdx k=c.tn
theorem mU{x:Row}{rs:List Row}(hk:k<=rs.length)(hx:wq k x)(m:Nat){c d:RS}(hb:Ar d.st.bs)(h1:d.st=c.st)(h2:d.at_=k)(h3:c.at_=k)(h4:d.tn.eraseIdx k=c.tn):∃e,aS (cH k x rs) (m+1) d=aS (cH k x rs) m e/\Iw k c e:=by
 have ex:(cH k x rs)[d.at_]?=some x:=by
  rw[h2];have hl:((rs.map (fm k)).take k).length=k:=by rw[Ki,JK];lia
  unfold cH;rw[Kj,Kk (by lia),hl,Li];rfl
 obtain⟨i1,i2⟩:=qN hx hb d.at_ (cH k x rs).length h2;refine⟨dU (cH k x rs) d x,by rw[aS,ex],?_⟩
 refine⟨by show (carry d.st (x.m 0)).2=c.st;rw[i1,h1],?_,?_⟩
 ·show pL d.st x d.at_ (cH k x rs).length=jh k c.at_;rw[i2,h3];unfold jh;rw[JN (Lk _)]
 ·show (d.tn.set d.at_ _).eraseIdx k=c.tn;rw[h2,List.eraseIdx_set_eq,h4]
theorem oA{rs:List Row}{c:RS}(h:rs.length<=c.at_):∀m,aS rs m c=c
 |0=>rfl
 |m+1=>by rw[aS,Nf h]
theorem gU{k:Nat}{x:Row}{rs:List Row}(hk:k<=rs.length)(hx:wq k x)(bc:∀r∈rs,r.Ok rs.length):∀(m M:Nat) (c d:RS),Ar c.st.bs->Iw k c d->2*m<=M->rs.length<=(aS rs m c).at_->Iw k (aS rs m c) (aS (cH k x rs) M d)
 |0,M,c,d,_,h,_,he=>by
  have:rs.length<=c.at_:=he;rw[oA (rs:=cH k x rs) (by rw[fU hk,h.at_];unfold jh;split<;>lia)]
  exact h
 |m+1,M,c,d,hb,h,hM,he=>by
  by_cases hc:c.at_<rs.length
  ·obtain⟨M',rfl⟩:∃M',M=M'+2:=⟨M-2,by lia⟩
   obtain⟨g1,_⟩:=BW (x:=x) hk hc;have okr:=bc _ (List.getElem_mem hc);rw[aS,List.getElem?_eq_getElem hc] at he ⊢;rw[aS,h.at_,g1];dsimp only at he ⊢;have hb':Ar (dU rs c rs[c.at_]).st.bs:=yp okr hb;have e1:(dU (cH k x rs) d (fm k rs[c.at_])).st=(dU rs c rs[c.at_]).st:=by
    show (carry d.st ((fm k rs[c.at_]).m 0)).2=(carry c.st (rs[c.at_].m 0)).2;rw[p6,h.st]
   have e2:(dU (cH k x rs) d (fm k rs[c.at_])).tn.eraseIdx k=(dU rs c rs[c.at_]).tn:=by
    show (d.tn.set d.at_ (d.tn.getD d.at_ 0+1)).eraseIdx k=c.tn.set c.at_ (c.tn.getD c.at_ 0+1);rw[h.at_,m9,h.tn,<- rM,h.tn]
   have e3:(dU (cH k x rs) d (fm k rs[c.at_])).at_=pL c.st (fm k rs[c.at_]) (jh k c.at_) (rs.length+1):=by
    show pL d.st (fm k rs[c.at_]) d.at_ (cH k x rs).length=_;rw[fU hk,h.st,h.at_]
   rcases Es (st:=c.st) (k:=k) (n:=rs.length) (i:=c.at_) (r:=rs[c.at_]) hk with u|⟨u1,u2⟩
   ·exact gU hk hx bc m (M'+1) _ _ hb' ⟨e1,by rw[e3,u];rfl,e2⟩ (by lia) he
   ·obtain⟨e,h5,h6⟩:=mU (x:=x) (rs:=rs) hk hx M' (c:=dU rs c rs[c.at_]) (d:=dU (cH k x rs) d (fm k rs[c.at_])) (by rw[e1];exact hb') e1 (by rw[e3,u1]) u2 e2
    rw[h5];exact gU hk hx bc m M' _ _ hb' h6 (by lia) he
  ·rw[oA (rs:=rs) (by lia)] at he ⊢
   rw[oA (rs:=cH k x rs) (by rw[fU hk,h.at_];unfold jh;split<;>lia)]
   exact h
theorem zM{x:Row}{rs:List Row}(hk:k<=rs.length)(hx:wq k x)(bc:∀r∈rs,r.Ok rs.length)(g:List Int)(m:Nat)(he:rs.length<=(aS rs m (iP rs g)).at_):Iw k (aS rs m (iP rs g)) (aS (cH k x rs) (2*m+2) (iP (cH k x rs) g)):=by
 have hb:Ar (DB g).bs:=⟨rfl,λx hx=>by
  have:x=0:=by simpa[DB] using hx
  subst this;decide⟩
 have ht:(List.replicate (cH k x rs).length 0).eraseIdx k=List.replicate rs.length 0:=by
  rw[fU hk,List.eraseIdx_replicate];rw[JQ (by lia)];rfl
 by_cases c0:k=0
 ·subst c0;obtain⟨e,h5,h6⟩:=mU (x:=x) (rs:=rs) hk hx (2*m+1) (c:=iP rs g) (d:=iP (cH 0 x rs) g) hb rfl rfl rfl ht;rw[h5];exact gU hk hx bc m _ _ _ hb h6 (by lia) he
 ·refine gU hk hx bc m _ _ _ hb ⟨rfl,?_,ht⟩ (by lia) he
  show 0=jh k 0;unfold jh;rw[JQ (by lia)]
noncomputable def wK(f:Nat)(by':Int)(r:Row):Row:=match aF r with
 |none=>r
 |some t=>if t<f then r else setG r ((t:Int)+by').toNat
theorem Il(f:Nat)(r:Row):wK f 1 r=fm f r:=by
 unfold wK fm
 cases aF r with
 |none=>rfl
 |some t=>dsimp only;rw[show ((t:Int)+1).toNat=t+1 by lia]
theorem GF(f:Nat)(r:Row):wK f (-1) r=Cf f r:=by
 unfold wK Cf
 cases aF r with
 |none=>rfl
 |some t=>dsimp only;rw[show ((t:Int)+-1).toNat=t-1 by lia]
theorem kB(xs:List V)(k:Nat):dP xs (some (k:Int)) none=xs.drop k:=by
 unfold dP;rw[HT.e8,HT.fW];rcases Nat.le_total k xs.length with h|h
 ·rw[Nt h,KC (by rw[Kq];exact JS _)]
 ·rw[Nat.min_eq_right h,M7,List.drop_of_length_le h,List.take_nil]
theorem PA.drop{rs:List Row}(hp:PA H as rs)(k:Nat):PA H (as.drop k) (rs.drop k):=by
 refine⟨by rw[Kq,Kq,hp.1],λi q r e1 e2=>?_⟩
 rw[KR] at e1 e2;exact hp.2 (k+i) q r e1 e2
theorem uQ{rs:List Row}(h:jy H a rs)(q:∀u G,KB [] H G->jy G u (rs.drop k)->Q (.ref u) G):Y.yz K (.ref a) (some (k:Int)) none H Q:=by
 obtain⟨as,ha,hp⟩:=h;refine nS ha (λe=>q a H (KB.refl _ _) ⟨as.drop k,?_,hp.drop k⟩) (λp hp'=>q p _ (KB.new hp') ⟨as.drop k,?_,(hp.drop k).keep (KB.new hp') (NT.nil _)⟩)
 ·rw[kB] at e;rw[ha,MB,e]
 ·rw[ae,kB,MB]
theorem PA.app{bs:List Addr}{rs ts:List Row}(h1:PA H as rs)(h2:PA H bs ts):PA H (as++bs) (rs++ts):=by
 have l1:=h1.1;refine⟨by rw[JL,JL,h1.1,h2.1],λi q r e1 e2=>?_⟩
 rcases KG i as.length with hi|hi
 ·rw[Ks hi] at e1;rw[Ks (by lia)] at e2
  exact h1.2 i q r e1 e2
 ·rw[Kk hi] at e1;rw[Kk (by lia),<- l1] at e2
  exact h2.2 _ q r e1 e2
theorem uE(ha:H a=some (.tup xs))(hb:H b=some (.tup ys))(hl:xs.length+ys.length<=1000)(q:∀u G,KB [] H G->G u=some (.tup (xs++ys))->Q (.ref u) G):Y.yR K (.ref a) (.ref b) H Q:=
 .inr (.inr (.inr ⟨a,b,xs,ys,rfl,rfl,bB.of ha,bB.of hb,JX hl (by decide),λe=>q b H (KB.refl _ _) (by rw[hb,e];rfl),λ_ e=>q a H (KB.refl _ _) (by rw[ha,e,K6]),λ_ _ p hp=>q p _ (KB.new hp) ae⟩))
theorem sd{rs ts:List Row}(h1:jy H a rs)(h2:jy H b ts)(hl:rs.length+ts.length<=1000)(q:∀u G,KB [] H G->jy G u (rs++ts)->Q (.ref u) G):Y.yR K (.ref a) (.ref b) H Q:=by
 obtain⟨as,ha,hp⟩:=h1;obtain⟨bs,hb,hp'⟩:=h2;refine uE ha hb (by rw[JK,JK,hp.1,hp'.1];exact hl) λu G k e=>q u G k ⟨as++bs,by rw[e,Kg],(hp.app hp').keep k (NT.nil _)⟩
noncomputable def uG:Sp:=λvs H Q _=>∃(a:Addr) (r:Row) (f:Nat) (by':Int),vs=[.ref a,.int (f:Nat),.int by']/\H a=some (.tup r.vs)/\(∀t,aF r=some t->f<=t->0<=(t:Int)+by')/\∀p H',KB [] H H'->H' p=some (.tup (wK f by' r).vs)->Q (.ref p) H'
theorem Fn{r:Row}(h:aF r=some t):∃xs:List V,xs≠[]/\xs.length<=2/\r.vs=xs++[.int (t:Nat)]/\∀g:Nat,(setG r g).vs=xs++[.int (g:Nat)]:=by
 cases r with
 |jump _=>cases h;exact⟨[.str "jump"],by simp,by simp,rfl,λ_=>rfl⟩
 |zero b _=>cases h;exact⟨[.str "zero",.str (bY b)],by simp,by simp,rfl,λ_=>rfl⟩
 |put=>cases h
 |two=>cases h
 |one=>cases h
 |halt=>cases h
theorem vD(T:Txt K mg)(F:HasFn K mg "goal_moved" fK ["row","first","by"])(hgoal_of:ax P w K mg base aT 1 "goal_of" ["row"] eO)(hwith_goal:ax P w K mg base aT 1 "with_goal" ["row","goal"] xx):ax P w K mg base aT 2 "goal_moved" ["row","first","by"] uG:=by
 refine F.fR hW (λvs H Q E h=>?_) (λf cdv A outer s H vs Q E hr h=>?_)
 ·obtain⟨a,r,f,by',rfl,_⟩:=h;rfl
 ·have hu:=aR hr;obtain⟨a,r,fi,by',rfl,ha,hg,q⟩:=h
  refine⟨_,(Z.aq (Z.se (i:=3) hW.nd (Z.fc hgoal_of (Z.cons (Z.v 0) Z.nil)))
   (Z.aA (Z.ret (Z.A5 (Z.tw (Z.Ij (Z.aZ dH (Z.v 3) Z.aU) (Z.zB (Z.aZ fA (Z.v 3) (Z.v 1))))) (Z.v 0) (Z.fc hwith_goal (Z.cons (Z.v 0) (Z.cons (Z.op (Z.bp K rfl) (Z.v 3) (Z.v 2)) Z.nil))))))),?_⟩
  refine ay λN hN=>?_;walk_at "rz";have ha':=ha;rw[C1] at ha';refine⟨a,_,rfl,ha',?_⟩;rw[hN,sH];clear hN N
  cases c:aF r with
  |none =>
   walk_at "rz";exact q _ _ (KB.refl _ _) (by rw[ha];unfold wK;rw[c])
  |some t =>
   rw[show cq (some t)=V.int (t:Nat) from rfl];have nn:¬ V.int (t:Nat)=V.aU:=V.noConfusion;by_cases h:(t:Int)<(fi:Int)
   ·exists if_neg nn,if_pos h;exact q _ _ (KB.refl _ _) (by rw[ha];unfold wK;rw[c];dsimp only;rw[if_pos (by lia)])
   ·exists JN nn,JN h;obtain⟨xs,x1,x2,x3,x4⟩:=Fn c;rw[x3] at ha;refine⟨a,xs,_,_,rfl,ha,x1,x2,λp H' k e=>q p H' k ?_⟩;have h0:=hg t c (by lia)
    rw[e];unfold wK;rw[c];dsimp only;rw[if_neg (by lia),x4,Int.toNat_of_nonneg h0]
noncomputable def iK:Sp:=λvs H Q _=>∃(a:Addr) (rs:List Row) (f:Nat) (by':Int),vs=[.ref a,.int (f:Nat),.int by']/\jy H a rs/\rs.length<=64/\(∀t:Nat,f<=t->0<=(t:Int)+by')/\∀p H',KB [] H H'->jy H' p (rs.map (wK f by'))->Q (.ref p) H'
theorem zg(T:Txt K mg)(F:HasFn K mg "goals_moved" dA ["rows","first","by"])(hgoal_moved:ax P w K mg base aT 2 "goal_moved" ["row","first","by"] uG):ax P w K mg base aT 3 "goals_moved" ["rows","first","by"] iK:=by
 refine F.fR kx (λvs H Q E h=>?_) (λf cdv A outer s H vs Q E hr h=>?_)
 ·obtain⟨a,rs,f,by',rfl,_⟩:=h;rfl
 ·have hu:=aR hr;obtain⟨a,rs,fi,by',rfl,⟨as,ha,hp⟩,hl,hg,q⟩:=h
  have hpl:=hp.1;refine⟨_,(Z.aA (Z.ret (Z.ct (Z.cQ K rfl) rfl T.cO (by decide +kernel) (Z.cons (Z.C_ (osc:=af dA) (ON:=["rows","first","by"]) (own:=["row"]) (N:=["row","rows","first","by"]) (aQ.of rfl (by decide +kernel)) (Z.any K rfl (Z.v 0)) (λnd _ _ _ _=>(Z.bu (i:=0) nd rfl (by right))) (λ_ _ _ _=>Z.vy) (λ_ _ _ _=>(Z.fc hgoal_moved (Z.cons (Z.v 0) (Z.cons (Z.v 2) (Z.cons (Z.v 3) Z.nil)))))) Z.nil)))),?_⟩
  exists aM ha;refine cE (xs:=as.map V.ref) (JX (show _<=64 by rw[JK];lia) (by decide)) (λD i ys G=>H D=none/\G D=some (.lst ys)/\KB [] H G/\i<=rs.length/\∃ps:List Addr,ys=ps.map V.ref/\PA G ps ((rs.take i).map (wK fi by'))) (λD hD=>⟨hD,ae,KB.new hD,Kh _,[],rfl,rfl,λj p r e=>nomatch e⟩) (λD i ys G h=>⟨h.2.1,by obtain⟨_,_,_,hi,ps,rfl,e,_⟩:=h;rw[JK,e,JK,Ki];lia⟩) (λD i ys G h=>bB.of (h.2.2.1 _ _ ha (by simp))) ?_ ?_
  ·rintro D i ys G x R hx ⟨g0,g1,gk,hi,ps,rfl,pa⟩ kk;obtain⟨u,eu,rfl⟩:∃u,as[i]?=some u/\x=.ref u:=by
    rw[JW] at hx;obtain⟨u,e,rfl⟩:=Km.mp hx;exact⟨u,e,rfl⟩
   have hlt:i<rs.length:=by have:=(JO.mp eu).1;lia
   have er:=JI hlt;walk_at "rz";refine⟨u,rs[i],fi,by',rfl,gk _ _ (hp.2 i u _ eu er) (by simp),λt _ h=>hg t h,λc G2 kc hc=>?_⟩
   have g2:=kc _ _ g1 (by simp)
   refine kk _ _ g2 ⟨g0,ae,λu o e _=>by rw[ao (au e g0)];exact kc _ _ (gk _ _ e (by simp)) (by simp),hlt,ps++[c],by rw[Kg];rfl,?_⟩
   rw[show rs.take (i+1)=rs.take i++[rs[i]] by rw[Lz,er];rfl,Kg]
   exact ((pa.keep kc (NT.nil _)).snoc hc).keep (KB.set (ex:=[D]) (by simp)) (ER g2)
  ·rintro D ys G ⟨g0,g1,gk,_,ps,rfl,pa⟩;rw[JK,hpl,KH] at pa;exists aO g1;intro t ht;have kt:=KB.new (ex:=[]) (o:=.tup (ps.map V.ref)) ht;exact q t _ (gk.trans kt) ⟨ps,ae,pa.keep kt (NT.nil _)⟩
structure lN (C:Addr) (H:Hp) (x dx b:Addr) (bk:List (List Int)) (rs:List Row):Prop where
 bk:wJ H b bk
 od:H dx=some (.own x)
 ex:∃ra,H x=some (.ins C dx [("book",.ref b),("rows",.ref ra)])/\jy H ra rs
theorem lN.keep{bk:List (List Int)}{rs:List Row}(h:lN C H x dx b bk rs)(k:KB ex H H')(hx:NT ex H)(n1:x∉ex)(n2:dx∉ex):lN C H' x dx b bk rs:=by
 obtain⟨h1,h2,ra,h3,h4⟩:=h;exact⟨h1.keep k hx,k _ _ h2 n2,ra,k _ _ h3 n1,h4.keep k hx⟩
theorem lN.kb{bk:List (List Int)}{rs:List Row}(h:lN C H x dx b bk rs)(k:KB [] H H'):lN C H' x dx b bk rs:=h.keep k (NT.nil _) (by simp) (by simp)
theorem kJ{fs:List (Str×V)}(h:H x=some (.ins C dx fs)):NT [x] H:=λb hb xs e=>by
 rw[Ka.mp hb,h] at e;cases e
theorem sY(b r:V):([("book",b),("rows",r)]:List (Str×V)).lookup ("book":Str)=some b:=rfl
theorem dC(b r:V):([("book",b),("rows",r)]:List (Str×V)).lookup ("rows":Str)=some r:=rfl
noncomputable def B7(C:Addr):Sp:=λvs H Q _=>∃(x dx b:Addr) (bk:List (List Int)),vs=[.ref x,.ref b]/\H x=some (.ins C dx [])/\H dx=some (.own x)/\wJ H b bk/\∀H',lN C H' x dx b bk []->KB [x] H H'->Q .aU H'
theorem xM(T:Txt K mg)(cM:iE K C)(na_book:bf K C "book")(na_rows:bf K C "rows")(F:gX K "__init__" "Kept.__init__" a_ f fd):cg P w K mg base aT 1 f fd ["self","book"] (B7 C):=by
 refine F.ok jn (λvs H Q E h=>?_) (λcdv A outer s H vs Q E hr h=>?_)
 ·obtain⟨x,dx,b,bk,rfl,_⟩:=h;rfl
 ·obtain⟨x,dx,b,bk,rfl,ox,od,hb,q⟩:=h;have hu:=aR hr;have key:∃t,QB (dM aT P w K mg base ["self","book"] "Kept.__init__" (af a_) f cdv A outer s H E).lW (aI a_) t/\t {nx:=λ_ H'=>Q .aU H',rt:=Q} (start ["self","book"] [.ref x,.ref b]) H:=by
   refine⟨_,(Z.aq (Z.oi K rfl (Z.v 0) (Z.v 1))
   (Z.aA (Z.oi K rfl (Z.v 0) (Z.tup Z.nil)))),?_⟩
   have ndx:dx≠x:=by rintro rfl;rw[ox] at od;cases od
   refine ay λN hN=>?_;walk_at "rz";refine⟨x,C,dx,_,rfl,ox,cM,na_book,by decide,?_⟩
   rw[hN];clear hN N;have k1:KB [x] H (upd H x (.ins C dx (cT "book" (.ref b) []))):=KB.set (by simp)
   have s1:upd H x (.ins C dx (cT "book" (.ref b) [])) x=some (.ins C dx [("book",.ref b)]):=ae;have hb1:=hb.keep k1 (kJ ox);have od1:=k1 _ _ od (by simpa using ndx)
   generalize upd H x (.ins C dx (cT "book" (.ref b) []))=H1 at *;walk_at "rz";refine⟨Kh _,λe he=>?_⟩;have k2:=KB.new (ex:=[]) (o:=.tup []) he;have s2:upd H1 e (.tup []) e=some (.tup []):=ae;have s12:=k2 _ _ s1 (by simp)
   have hb2:=hb1.kb k2;have od2:=k2 _ _ od1 (by simp)
   generalize upd H1 e (.tup [])=H2 at *;refine⟨x,C,dx,_,rfl,s12,cM,na_rows,(show 1<1000 by decide),?_⟩
   have k3:KB [x] H2 (upd H2 x (.ins C dx (cT "rows" (.ref e) [("book",.ref b)]))):=KB.set (by simp)
   have nt:=kJ s12;refine q _ ⟨hb2.keep k3 nt,k3 _ _ od2 (by simpa using ndx),e,ae,⟨[],k3 _ _ s2 λz=>nt _ z _ s2,rfl,λi q r e=>nomatch e⟩⟩ (k1.trans (k2.all.trans k3))
  obtain⟨t,hb,ht⟩:=key;exact⟨t,hb.h,ht⟩
noncomputable def uF(C:Addr):Sp:=λvs H Q _=>∃(x dx b:Addr) (bk:List (List Int)) (rs:List Row),vs=[.ref x]/\lN C H x dx b bk rs/\∀ra,jy H ra rs->Q (.ref ra) H
theorem xF(T:Txt K mg)(cM:iE K C)(na_rows:bf K C "rows")(F:gX K "program" "Kept.program" bo f fd):cg P w K mg base aT 1 f fd ["self"] (uF C):=by
 refine F.ok j9 (λvs H Q E h=>?_) (λcdv A outer s H vs Q E hr h=>?_)
 ·obtain⟨x,dx,b,bk,rs,rfl,_⟩:=h;rfl
 ·obtain⟨x,dx,b,bk,rs,rfl,⟨_,_,ra,ox,hp⟩,q⟩:=h;have hu:=aR hr;have key:∃t,QB (dM aT P w K mg base ["self"] "Kept.program" (af bo) f cdv A outer s H E).lW (aI bo) t/\t {nx:=λ_ H'=>Q .aU H',rt:=Q} (start ["self"] [.ref x]) H:=by
   refine⟨_,(Z.aA (Z.ret (Z.fld K rfl (Z.v 0)))),?_⟩;walk_at "rz";exact⟨x,C,dx,_,_,rfl,ox,cM,na_rows,dC _ _,q ra hp⟩
  obtain⟨t,hb,ht⟩:=key;exact⟨t,hb.h,ht⟩
noncomputable def tD(C:Addr):Sp:=λvs H Q _=>∃(x dx b:Addr) (bk:List (List Int)) (rs:List Row),vs=[.ref x]/\lN C H x dx b bk rs/\Bk bk/\rs.length<=64/\(∀r∈rs,r.Ok rs.length)/\∀H',KB [] H H'->Q (.str (wd (eE bk rs))) H'
theorem Ae(T:Txt K mg)(cM:iE K C)(na_book:bf K C "book")(na_rows:bf K C "rows")(hpack_rows:ax P w K mg base aT 7 "pack_rows" ["program","book"] jG)(F:gX K "bits" "Kept.bits" bJ f fd):cg P w K mg base aT 8 f fd ["self"] (tD C):=by
 refine F.ok oG (λvs H Q E h=>?_) (λcdv A outer s H vs Q E hr h=>?_)
 ·obtain⟨x,dx,b,bk,rs,rfl,_⟩:=h;rfl
 ·obtain⟨x,dx,b,bk,rs,rfl,⟨hb,_,ra,ox,hp⟩,hB,hl,bc,q⟩:=h;have hu:=aR hr;have key:∃t,QB (dM aT P w K mg base ["self"] "Kept.bits" (af bJ) f cdv A outer s H E).lW (aI bJ) t/\t {nx:=λ_ H'=>Q .aU H',rt:=Q} (start ["self"] [.ref x]) H:=by
   refine⟨_,(Z.aA (Z.ret (Z.ix (Z.aP K rfl hu) (Z.fc hpack_rows (Z.cons (Z.fld K rfl (Z.v 0)) (Z.cons (Z.fld K rfl (Z.v 0)) Z.nil))) Z.int))),?_⟩;walk_at "rz";refine⟨x,C,dx,_,_,rfl,ox,cM,na_rows,dC _ _,x,C,dx,_,_,rfl,ox,cM,na_book,sY _ _,ra,b,bk,rs,rfl,hp,hb,hB,hl,bc,λt u H' k e1 _=>?_⟩;exists aM e1;exact q H' k
  obtain⟨t,hb,ht⟩:=key;exact⟨t,hb.h,ht⟩
noncomputable def uZ(C:Addr):Sp:=λvs H Q _=>∃(x dx b:Addr) (bk:List (List Int)) (rs:List Row),vs=[.ref x]/\lN C H x dx b bk rs/\Bk bk/\rs.length<=64/\(∀r∈rs,r.Ok rs.length)/\∀u H',KB [] H H'->H' u=some (.tup (iV (nZ (vN bk rs)).dropLast))->Q (.ref u) H'
theorem sy(T:Txt K mg)(cM:iE K C)(na_book:bf K C "book")(na_rows:bf K C "rows")(hpack_rows:ax P w K mg base aT 7 "pack_rows" ["program","book"] jG)(F:gX K "places" "Kept.places" bw f fd):cg P w K mg base aT 8 f fd ["self"] (uZ C):=by
 refine F.ok lu (λvs H Q E h=>?_) (λcdv A outer s H vs Q E hr h=>?_)
 ·obtain⟨x,dx,b,bk,rs,rfl,_⟩:=h;rfl
 ·obtain⟨x,dx,b,bk,rs,rfl,⟨hb,_,ra,ox,hp⟩,hB,hl,bc,q⟩:=h;have hu:=aR hr;have key:∃t,QB (dM aT P w K mg base ["self"] "Kept.places" (af bw) f cdv A outer s H E).lW (aI bw) t/\t {nx:=λ_ H'=>Q .aU H',rt:=Q} (start ["self"] [.ref x]) H:=by
   refine⟨_,(Z.aA (Z.ret (Z.ix (Z.aP K rfl hu) (Z.fc hpack_rows (Z.cons (Z.fld K rfl (Z.v 0)) (Z.cons (Z.fld K rfl (Z.v 0)) Z.nil))) Z.int))),?_⟩;walk_at "rz";refine⟨x,C,dx,_,_,rfl,ox,cM,na_rows,dC _ _,x,C,dx,_,_,rfl,ox,cM,na_book,sY _ _,ra,b,bk,rs,rfl,hp,hb,hB,hl,bc,λt u H' k e1 e2=>?_⟩;exists aM e1;exact q u H' k e2
  obtain⟨t,hb,ht⟩:=key;exact⟨t,hb.h,ht⟩
noncomputable def EJ(C:Addr):Sp:=λvs H Q _=>∃(x dx b qr:Addr) (bk:List (List Int)) (rs:List Row) (k:Nat) (r:Row),vs=[.ref x,.int (k:Nat),.ref qr]/\lN C H x dx b bk rs/\k<=rs.length/\rs.length<=60/\H qr=some (.tup r.vs)/\r.Ok (rs.length+1)/\∀H',lN C H' x dx b bk (cH k r rs)->KB [x] H H'->Q .aU H'
theorem C3(T:Txt K mg)(cM:iE K C)(na_rows:bf K C "rows")(hgoal_of:ax P w K mg base aT 1 "goal_of" ["row"] eO)(hgoals_moved:ax P w K mg base aT 3 "goals_moved" ["rows","first","by"] iK)(F:gX K "put_in" "Kept.put_in" bz f fd):cg P w K mg base aT 4 f fd ["self","place","row"] (EJ C):=by
 refine F.ok df (λvs H Q E h=>?_) (λcdv A outer s H vs Q E hr h=>?_)
 ·obtain⟨x,dx,b,qr,bk,rs,k,r,rfl,_⟩:=h;rfl
 ·obtain⟨x,dx,b,qr,bk,rs,k,r,rfl,⟨hb,od,ra,ox,hp⟩,hk,hl,hq,hro,q⟩:=h;have hu:=aR hr;have key:∃t,QB (dM aT P w K mg base ["self","place","row","many","goal","moved"] "Kept.put_in" (af bz) f cdv A outer s H E).lW (aI bz) t/\t {nx:=λ_ H'=>Q .aU H',rt:=Q} (start ["self","place","row","many","goal","moved"] [.ref x,.int (k:Nat),.ref qr]) H:=by
   refine⟨_,(Z.aq (Z.se (i:=3) df.nd (Z.cb (Z.cY K rfl) rfl T.cN (by decide +kernel) (Z.cons (Z.fld K rfl (Z.v 0)) Z.nil)))
   (Z.aq (Z.dJ (Z.tw (Z.Ij (Z.aZ fA (Z.v 1) Z.int) (Z.zB (Z.aZ tE (Z.v 1) (Z.v 3))))) (Z.aA Z.Hi) Z.bN)
   (Z.aq (Z.se (i:=4) df.nd (Z.fc hgoal_of (Z.cons (Z.v 2) Z.nil)))
   (Z.aq (Z.dJ (Z.tw (Z.p8 (Z.aZ iN (Z.v 4) Z.aU) (Z.j0 (Z.tw (Z.Ij (Z.aZ fA (Z.v 4) Z.int) (Z.zB (Z.aZ tE (Z.v 4) (Z.op (Y.cF K rfl) (Z.v 3) Z.int)))))))) (Z.aA Z.Hi) Z.bN)
   (Z.aq (Z.se (i:=5) df.nd (Z.fc hgoals_moved (Z.cons (Z.fld K rfl (Z.v 0)) (Z.cons (Z.v 1) (Z.cons Z.int Z.nil)))))
   (Z.aA (Z.oi K rfl (Z.v 0) (Z.op (Y.cF K rfl) (Z.op (Y.cF K rfl) (Z.slice (Y.vP K rfl) (Z.v 5) Z.vZ (Z.oN (Z.v 1))) (Z.tup (Z.cons (Z.v 2) Z.nil))) (Z.slice (Y.vP K rfl) (Z.v 5) (Z.oN (Z.v 1)) Z.vZ))))))))),?_⟩
   have hp':=hp;obtain⟨as,ha,hpl,_⟩:=hp';have ndx:dx≠x:=by rintro rfl;rw[ox] at od;cases od
   refine ay λN hN=>?_;walk_at "rz";refine⟨x,C,dx,_,_,rfl,ox,cM,na_rows,dC _ _,?_⟩;exists aM ha,JK,hpl;rw[hN];clear hN N;refine ay λN hN=>?_;exists JN (show ¬ ((k:Nat):Int)<0 by lia),JN (show ¬ ((rs.length:Nat):Int)<((k:Nat):Int) by lia)
   rw[hN];clear hN N;refine ay λN hN=>?_;walk_at "rz";have hq':=hq;rw[C1] at hq';refine⟨qr,_,rfl,hq',?_⟩;rw[hN,sH];clear hN N;refine ay λN hN=>?_;have step:N [some (.ref x),some (.int (k:Nat)),some (.ref qr),some (.int (rs.length:Nat)),some (cq (aF r)),none] H:=by
    rw[hN];clear hN N;refine ay λN hN=>?_;walk_at "rz";refine⟨x,C,dx,_,_,rfl,ox,cM,na_rows,dC _ _,ra,rs,k,1,rfl,hp,by lia,λt _=>by lia,λmo H1 k1 hm=>?_⟩
    rw[hN];clear hN N;rw[show wK k 1=fm k from funext λr=>Il k r] at hm;have hml:(rs.map (fm k)).length=rs.length:=JK ..;walk_at "rz";refine zC (k:=k) hm λu2 H2 k2 h2=>⟨by decide,λc hc=>?_⟩
    have k3:=KB.new (ex:=[]) (o:=.tup [.ref qr]) hc;have k03:=k1.trans (k2.trans k3);have h3:jy (upd H2 c (.tup [.ref qr])) c [r]:=⟨[qr],ae,rfl,λi q' r' e1 e2=>by
     cases i with
     |zero=>cases e1;cases e2;exact k03 _ _ hq (by simp)
     |succ i=>cases e1⟩
    have h23:=h2.kb k3;have hm3:=hm.kb (k2.trans k3);generalize upd H2 c (.tup [.ref qr])=H3 at *;refine sd h23 h3 (by rw[Ki];simp;lia) λu4 H4 k4 h4=>?_
    refine uQ (k:=k) (hm3.kb k4) λu5 H5 k5 h5=>?_;refine sd (h4.kb k5) h5 (by rw[JL,Ki,Kq];simp;lia) λu6 H6 k6 h6=>?_
    have k06:=k03.trans (k4.trans (k5.trans k6));have ox6:=k06 _ _ ox (by simp)
    refine⟨x,C,dx,_,rfl,ox6,cM,na_rows,(show 2<1000 by decide),?_⟩
    have k7:KB [x] H6 (upd H6 x (.ins C dx (cT "rows" (.ref u6) [("book",.ref b),("rows",.ref ra)]))):=KB.set (by simp)
    have nt:=kJ ox6;exact q _ ⟨(hb.kb k06).keep k7 nt,k7 _ _ (k06 _ _ od (by simp)) (by simpa using ndx),u6,ae,h6.keep k7 nt⟩ (k06.all.trans k7)
   cases c:aF r with
   |none =>
    rw[c] at step;exists JN (show ¬ ¬ cq none=V.aU from λz=>z rfl);exact step
   |some t =>
    rw[c] at step;have ht:=gS hro c;rw[show cq (some t)=V.int (t:Nat) from rfl] at step ⊢;exists JQ (show ¬ V.int (t:Nat)=V.aU from V.noConfusion),JN (show ¬ ((t:Nat):Int)<0 by lia)
    refine .inl ⟨_,_,rfl,rfl,?_⟩;exists JN (show ¬ ((rs.length:Nat):Int)+1<((t:Nat):Int) by lia)
    exact step
  obtain⟨t,hb,ht⟩:=key;exact⟨t,hb.h,ht⟩
noncomputable def CQ(C:Addr):Sp:=λvs H Q _=>∃(x dx b:Addr) (bk:List (List Int)) (rs:List Row) (k:Nat),vs=[.ref x,.int (k:Nat)]/\lN C H x dx b bk rs/\k<rs.length/\rs.length<=64/\∀H',lN C H' x dx b bk (BC k rs)->KB [x] H H'->Q .aU H'
theorem yZ(T:Txt K mg)(cM:iE K C)(na_rows:bf K C "rows")(hgoals_moved:ax P w K mg base aT 3 "goals_moved" ["rows","first","by"] iK)(F:gX K "take_out" "Kept.take_out" ba f fd):cg P w K mg base aT 4 f fd ["self","place"] (CQ C):=by
 refine F.ok fz (λvs H Q E h=>?_) (λcdv A outer s H vs Q E hr h=>?_)
 ·obtain⟨x,dx,b,bk,rs,k,rfl,_⟩:=h;rfl
 ·obtain⟨x,dx,b,bk,rs,k,rfl,⟨hb,od,ra,ox,hp⟩,hk,hl,q⟩:=h;have hu:=aR hr;have key:∃t,QB (dM aT P w K mg base ["self","place","many"] "Kept.take_out" (af ba) f cdv A outer s H E).lW (aI ba) t/\t {nx:=λ_ H'=>Q .aU H',rt:=Q} (start ["self","place","many"] [.ref x,.int (k:Nat)]) H:=by
   refine⟨_,(Z.aq (Z.se (i:=2) fz.nd (Z.cb (Z.cY K rfl) rfl T.cN (by decide +kernel) (Z.cons (Z.fld K rfl (Z.v 0)) Z.nil)))
   (Z.aq (Z.dJ (Z.tw (Z.Ij (Z.aZ fA (Z.v 1) Z.int) (Z.zB (Z.aZ sZ (Z.v 1) (Z.v 2))))) (Z.aA Z.Hi) Z.bN)
   (Z.aA (Z.oi K rfl (Z.v 0) (Z.fc hgoals_moved (Z.cons (Z.op (Y.cF K rfl) (Z.slice (Y.vP K rfl) (Z.fld K rfl (Z.v 0)) Z.vZ (Z.oN (Z.v 1))) (Z.slice (Y.vP K rfl) (Z.fld K rfl (Z.v 0)) (Z.oN (Z.op (Y.cF K rfl) (Z.v 1) Z.int)) Z.vZ)) (Z.cons (Z.op (Y.cF K rfl) (Z.v 1) Z.int) (Z.cons (Z.un fV Z.int) Z.nil)))))))),?_⟩
   have hp':=hp;obtain⟨as,ha,hpl,_⟩:=hp';have ndx:dx≠x:=by rintro rfl;rw[ox] at od;cases od
   refine ay λN hN=>?_;walk_at "rz";refine⟨x,C,dx,_,_,rfl,ox,cM,na_rows,dC _ _,?_⟩;exists aM ha,JK,hpl;rw[hN];clear hN N;refine ay λN hN=>?_;exists JN (show ¬ ((k:Nat):Int)<0 by lia),JN (show ¬ ((rs.length:Nat):Int)<=((k:Nat):Int) by lia)
   rw[hN];clear hN N;walk_at "rz";refine⟨x,C,dx,_,_,rfl,ox,cM,na_rows,dC _ _,?_⟩;refine zC (k:=k) hp λu1 H1 k1 h1=>?_;have ox1:=k1 _ _ ox (by simp)
   refine⟨x,C,dx,_,_,rfl,ox1,cM,na_rows,dC _ _,?_⟩;refine .inl ⟨_,_,rfl,rfl,_,rfl,?_⟩;rw[show ((k:Nat):Int)+1=((k+1:Nat):Int) from rfl];refine uQ (k:=k+1) (hp.kb k1) λu2 H2 k2 h2=>?_;refine sd (h1.kb k2) h2 (by rw[Ki,Kq];lia) λu3 H3 k3 h3=>?_
   refine .inl ⟨_,_,rfl,rfl,?_⟩;refine⟨u3,_,k+1,-1,rfl,h3,by rw[JL,Ki,Kq];lia,λt _=>by lia,λu4 H4 k4 h4=>?_⟩
   rw[show wK (k+1) (-1)=Cf (k+1) from funext λr=>GF (k+1) r] at h4;have k04:=k1.trans (k2.trans (k3.trans k4));have ox4:=k04 _ _ ox (by simp)
   refine⟨x,C,dx,_,rfl,ox4,cM,na_rows,(show 2<1000 by decide),?_⟩
   have k7:KB [x] H4 (upd H4 x (.ins C dx (cT "rows" (.ref u4) [("book",.ref b),("rows",.ref ra)]))):=KB.set (by simp)
   have nt:=kJ ox4;exact q _ ⟨(hb.kb k04).keep k7 nt,k7 _ _ (k04 _ _ od (by simp)) (by simpa using ndx),u4,ae,h4.keep k7 nt⟩ (k04.all.trans k7)
  obtain⟨t,hb,ht⟩:=key;exact⟨t,hb.h,ht⟩
noncomputable def yo:Sp:=λvs H Q _=>∃(p dq:Addr) (k n:Nat),vs=[.ref p,.int (k:Nat)]/\bG H p dq n/\n<2^40/\∀(r:Row) (a:Addr) H',wq k r->(∀m,k+1<=m->r.Ok m)->H' a=some (.tup r.vs)->bG H' p dq (n+2)->KB [p,dq] H H'->Q (.ref a) H'
theorem B2(T:Txt K mg)(F:HasFn K mg "_law_idle" gy ["deck","place"])(h_law_draw:ax P w K mg base aT 2 "_law_draw" ["deck","most"] eZ):ax P w K mg base aT 3 "_law_idle" ["deck","place"] yo:=by
 refine F.fR i5 (λvs H Q E h=>?_) (λf cdv A outer s H vs Q E hr h=>?_)
 ·obtain⟨p,dq,k,n,rfl,_⟩:=h;rfl
 ·have hu:=aR hr;obtain⟨p,dq,k,n,rfl,hD,hn,q⟩:=h;refine⟨_,(Z.aq (Z.se (i:=2) i5.nd (Z.ix (Z.aP K rfl hu) Z.str (Z.fc h_law_draw (Z.cons (Z.v 0) (Z.cons Z.int Z.nil)))))
   (Z.aA (Z.ret (Z.ix (Z.aP K rfl hu) (Z.lst (Z.cons (Z.tup (Z.cons Z.str (Z.cons (Z.v 2) (Z.cons (Z.v 2) Z.nil)))) (Z.cons (Z.tup (Z.cons Z.str (Z.cons (Z.op (Z.bp K rfl) (Z.v 1) Z.int) Z.nil))) (Z.cons (Z.tup (Z.cons Z.str (Z.cons (Z.v 2) (Z.cons (Z.op (Z.bp K rfl) (Z.v 1) Z.int) Z.nil)))) Z.nil)))) (Z.fc h_law_draw (Z.cons (Z.v 0) (Z.cons Z.int Z.nil))))))),?_⟩
  refine ay λN hN=>?_;walk_at "rz";refine⟨p,dq,8,n,rfl,hD,by lia,by decide,by decide,λv H1 hv D1 k1=>?_⟩
  have hb:=zk (show 0<=(v:Int) by lia) (show (v:Int)<8 by lia)
  rw[Ky] at hb;exists hb;refine⟨by decide +kernel,?_⟩
  rw[show ({cps:=#[97+v]}:Str)=bY v from rfl,hN];clear hN N;walk_at "rz";refine⟨by decide,λa1 h1=>?_⟩
  have k2:=KB.new (ex:=[]) (o:=.tup [.str "copy",.str (bY v),.str (bY v)]) h1;have s2:upd H1 a1 (.tup [.str "copy",.str (bY v),.str (bY v)]) a1=some (.tup (Row.two 2 v v).vs):=ae;generalize upd H1 a1 (.tup [.str "copy",.str (bY v),.str (bY v)])=H2 at *;rw[show ((k:Nat):Int)+1=((k+1:Nat):Int) from rfl];refine⟨by decide,λa2 h2=>?_⟩
  have k3:=KB.new (ex:=[]) (o:=.tup [.str "jump",.int ((k+1:Nat):Int)]) h2;have s3:upd H2 a2 (.tup [.str "jump",.int ((k+1:Nat):Int)]) a2=some (.tup (Row.jump (k+1)).vs):=ae;generalize upd H2 a2 (.tup [.str "jump",.int ((k+1:Nat):Int)])=H3 at *;refine⟨by decide,λa3 h3=>⟨by decide,λl hl=>?_⟩⟩
  have k4:=KB.new (ex:=[]) (o:=.tup [.str "zero",.str (bY v),.int ((k+1:Nat):Int)]) h3;have s4:upd H3 a3 (.tup [.str "zero",.str (bY v),.int ((k+1:Nat):Int)]) a3=some (.tup (Row.zero v (k+1)).vs):=ae;generalize upd H3 a3 (.tup [.str "zero",.str (bY v),.int ((k+1:Nat):Int)])=H4 at *;have k5:=KB.new (ex:=[]) (o:=.lst [.ref a1,.ref a2,.ref a3]) hl;have s5:upd H4 l (.lst [.ref a1,.ref a2,.ref a3]) l=_:=ae;generalize upd H4 l (.lst [.ref a1,.ref a2,.ref a3])=H5 at *;have k15:=k2.trans (k3.trans (k4.trans k5));have D5:=D1.kb k15;have nl:l∉[p,dq]:=(D1.kb (k2.trans (k3.trans k4))).new hl;refine⟨p,dq,3,_,rfl,D5,by lia,by decide,by decide,λu H6 hu6 D6 k6=>?_⟩
  have t2:=D5.tup k6 ((k3.trans (k4.trans k5)) _ _ s2 (by simp))
  have t3:=D5.tup k6 ((k4.trans k5) _ _ s3 (by simp))
  have t4:=D5.tup k6 (k5 _ _ s4 (by simp))
  have k06:KB [p,dq] H H6:=k1.trans (k15.all.trans k6);have fin:=λr a=>q r a H6;simp only[L2.Ap.fC,aO (k6 _ _ s5 nl)];rcases (show u=0\/u=1\/u=2 by lia) with rfl|rfl|rfl
  ·exact fin (.two 2 v v) a1 ⟨rfl,by lia⟩ (λm _=>⟨by lia,by lia⟩) t2 D6 k06
  ·exact fin (.jump (k+1)) a2 rfl (λm hm=>hm) t3 D6 k06
  ·exact fin (.zero v (k+1)) a3 ⟨rfl,by lia⟩ (λm hm=>⟨by lia,hm⟩) t4 D6 k06
theorem qe{p p' q':Addr}{how:Str}{l m:List Int}(ha:H a=some (.tup [.str how,.ref p,.ref q]))(hb:H b=some (.tup [.str how,.ref p',.ref q']))(h1:H p=some (.tup (iV l)))(h2:H q=some (.tup (iV m)))(h3:H p'=some (.tup (iV l)))(h4:H q'=some (.tup (iV m)))(k:Q (.bl (!neg)) H):Y.rC K 4 neg (.ref a) (.ref b) H Q:=nT ha hb (xs:=[.str how,.tup (l.map T.int),.tup (m.map T.int)]) (.cons (.str _) (.cons (gM h1) (.cons (gM h2) .nil))) (.cons (.str _) (.cons (gM h3) (.cons (gM h4) .nil))) (λy hy=>by
 simp only[JR,Kt,La] at hy;rcases hy with rfl|rfl|rfl
 ·exact nq _ _
 ·exact kM _ _
 ·exact kM _ _) k
noncomputable def B8(C:Addr):Sp:=λvs H Q _=>∃(x dx b ga:Addr) (bk:List (List Int)) (rs:List Row) (g:List Int) (most:Nat),vs=[.ref x,.ref b,.ref ga,.int (most:Nat)]/\lN C H x dx b bk rs/\Bk bk/\rs.length<=64/\(∀r∈rs,r.Ok rs.length)/\H ga=some (.tup (iV g))/\most<=10000/\∀H',KB [] H H'->Q (.bl true) H'
theorem Az{fp fb:Addr}{d_program d_bits:FuncData}(T:Txt K mg)(F:HasFn K mg "_law_alike" dO ["kept","book","given","most"])(cM:iE K C)(mm_program:Meth K C "program" fp)(bm_program:Binds K d_program ["self"] [])(FO_program:cg P w K mg base aT 1 fp d_program ["self"] (uF C))(mm_bits:Meth K C "bits" fb)(bm_bits:Binds K d_bits ["self"] [])(FO_bits:cg P w K mg base aT 8 fb d_bits ["self"] (tD C))(hrun_rows:ax P w K mg base aT 7 "run_rows" ["program","given","most"] (qU K))(hrun_bits:ax P w K mg base aT 7 "run_bits" ["bits","book","given","most"] (r8 K)):ax P w K mg base aT 9 "_law_alike" ["kept","book","given","most"] (B8 C):=by
 refine F.fR cB (λvs H Q E h=>?_) (λf cdv A outer s H vs Q E hr h=>?_)
 ·obtain⟨x,dx,b,ga,bk,rs,g,most,rfl,_⟩:=h;rfl
 ·have hu:=aR hr;obtain⟨x,dx,b,ga,bk,rs,g,most,rfl,ks,hB,hl,bc,hg,hm,q⟩:=h;have L:=jH hB hl bc;have hR:=(qH hB).1;obtain⟨r36,_,_⟩:=AJ L g most;have bnz:eC (eE bk rs):=xw (Ep bk) _ _ _ _;have zl:=L.Jz;refine⟨_,(Z.aq (Z.asg (Z.fc hrun_rows (Z.cons (Z.d_ K rfl (Z.v 0) cM mm_program FO_program (hr.mono (by decide)) bm_program cu) (Z.cons (Z.v 2) (Z.cons (Z.v 3) Z.nil)))) (Z.q5 (n:=4) K rfl rfl (Z.b_ (Z.bu (i:=4) cB.nd rfl (by right)) (Z.b_ (Z.bu (i:=5) cB.nd rfl (by right)) (Z.b_ (Z.bu (i:=6) cB.nd rfl (by right)) (Z.b_ (Z.bu (i:=7) cB.nd rfl (by right)) Z.j3))))))
   (Z.aq (Z.se (i:=8) cB.nd (Z.fc hrun_bits (Z.cons (Z.d_ K rfl (Z.v 0) cM mm_bits FO_bits (hr.mono (by decide)) bm_bits cu) (Z.cons (Z.v 1) (Z.cons (Z.v 2) (Z.cons (Z.v 3) Z.nil))))))
   (Z.aA (Z.ret (Z.cmp (Y.EF K rfl (nA hr)) (Z.tup (Z.cons (Z.ix (Z.aP K rfl hu) (Z.v 8) Z.int) (Z.cons (Z.ix (Z.aP K rfl hu) (Z.v 8) Z.int) (Z.cons (Z.ix (Z.aP K rfl hu) (Z.v 8) Z.int) Z.nil)))) (Z.tup (Z.cons (Z.v 4) (Z.cons (Z.v 5) (Z.cons (Z.v 7) Z.nil))))))))),?_⟩
  obtain⟨ra,ox,_⟩:=ks.ex;refine ay λN hN=>?_;walk_at "rz";refine⟨x,dx,_,rfl,ox,rfl,x,dx,b,bk,rs,rfl,ks,λra hp=>?_⟩;refine⟨ra,ga,rs,g,most,rfl,hp,hg,hl,bc,hm,λv1 H1 k1 o1=>?_⟩;obtain⟨t1,p1,p2,p3,rfl,a1,a2,a3,a4⟩:=o1;unfold bT;refine⟨t1,_,rfl,bB.of a1,rfl,_,_,rfl,_,_,rfl,_,_,rfl,_,_,rfl,rfl,?_⟩;rw[hN];clear hN N;have ks1:=ks.kb k1;refine ay λN hN=>?_;walk_at "rz";refine⟨x,dx,_,rfl,k1 _ _ ox (by simp),rfl,x,dx,b,bk,rs,rfl,ks1,hB,hl,bc,λH2 k2=>?_⟩
  have k02:=k1.trans k2;refine⟨b,ga,bk,_,g,most,rfl,ks.bk.kb k02,k02 _ _ hg (by simp),hB,hR,bnz,by lia,hm,λv3 H3 k3 o3=>?_⟩
  rw[hN];clear hN N;have t3:=o3.tl;rw[r36] at t3;obtain⟨u,q1,q2,rfl,b1,b2,b3⟩:=t3;dsimp only at b1 b2 b3;have k13:=k2.trans k3;have e3:∀{w x y z:V},cI [w,x,y,z] 3=some z:=rfl;exists aM b1,e3;refine⟨by decide,λc1 hc1=>⟨by decide,λc2 hc2=>?_⟩⟩
  have k4:=KB.new (ex:=[]) (o:=.tup [.str (dm rs (aS rs most (iP rs g))),.ref q1,.ref q2]) hc1;have s4:upd H3 c1 (.tup [.str (dm rs (aS rs most (iP rs g))),.ref q1,.ref q2]) c1=_:=ae;generalize upd H3 c1 (.tup [.str (dm rs (aS rs most (iP rs g))),.ref q1,.ref q2])=H4 at *;have k5:=KB.new (ex:=[]) (o:=.tup [.str (dm rs (aS rs most (iP rs g))),.ref p1,.ref p3]) hc2;have s5:upd H4 c2 (.tup [.str (dm rs (aS rs most (iP rs g))),.ref p1,.ref p3]) c2=_:=ae;generalize upd H4 c2 (.tup [.str (dm rs (aS rs most (iP rs g))),.ref p1,.ref p3])=H5 at *;have k35:=k4.trans k5;have k15:=k13.trans k35;exact .inr (qe (neg:=false) (k5 _ _ s4 (by simp)) s5 (k35 _ _ b2 (by simp)) (k35 _ _ b3 (by simp)) (k15 _ _ a2 (by simp)) (k15 _ _ a4 (by simp)) (q H5 (k1.trans k15)))
theorem zf(n:Nat)(rs:List Row):lY (n+2) (.tup (rs.map mh)) (.tup (rs.map mh)) true:=by
 have:=lY.tup (n:=n+1) (xs:=rs.map mh) (ys:=rs.map mh) (λ_=>true) λj x y h1 h2=>by
  rw[h1] at h2;cases h2;rw[JW] at h1;obtain⟨r,_,rfl⟩:=Km.mp h1;exact Bp n r
 rwa [all_true] at this
theorem pC{rs:List Row}(h:jy H a rs):Rep K H no (.ref a) (.tup (rs.map mh)):=by
 obtain⟨as,ha,hp⟩:=h;exact .tup (λz=>z) ha (tB hp)
theorem CN{p p' q':Addr}{z:Str}{rs:List Row}{l:List Int}(ha:H a=some (.tup [.ref p,.str z,.ref q]))(hb:H b=some (.tup [.ref p',.str z,.ref q']))(h1:jy H p rs)(h2:H q=some (.tup (iV l)))(h3:jy H p' rs)(h4:H q'=some (.tup (iV l)))(k:Q (.bl false) H):Y.HD K (.ref a) (.ref b) H Q:=.inr (nT (neg:=true) ha hb (xs:=[.tup (rs.map mh),.str z,.tup (l.map T.int)]) (.cons (pC h1) (.cons (.str _) (.cons (gM h2) .nil))) (.cons (pC h3) (.cons (.str _) (.cons (gM h4) .nil))) (λy hy=>by
 simp only[JR,Kt,La] at hy;rcases hy with rfl|rfl|rfl
 ·exact zf 2 _
 ·exact nq _ _
 ·exact kM _ _) k)
theorem bG.Iv{p:Addr}{n:Nat}{o:HO}(D:bG H p dq n)(hx:H x=some o)(ho:∀ys,o≠.lst ys):x∉[p,dq]:=λz=>by
 obtain⟨ys,e⟩:=D.lst x z;rw[hx] at e;exact ho ys (Option.some.inj e)
theorem lN.deck{p:Addr}{bk:List (List Int)}{rs:List Row}{n:Nat}(h:lN C H x dx b bk rs)(D:bG H p dq n)(k:KB [p,dq] H H'):lN C H' x dx b bk rs:=by
 obtain⟨ra,ox,_⟩:=h.ex;exact h.keep k D.nt (D.Iv ox λ_=>by simp) (D.Iv h.od λ_=>by simp)
theorem lN.dk{p:Addr}{bk:List (List Int)}{rs:List Row}{n:Nat}(h:lN C H x dx b bk rs)(D:bG H p dq n)(k:KB [x] H H'):bG H' p dq n:=by
 obtain⟨ra,ox,_⟩:=h.ex;have:=D.Iv ox λ_=>by simp
 simp only[JR,Kt,La,not_or] at this;exact D.keep k (by simpa using λz=>this.1 z.symm) (by simpa using λz=>this.2 z.symm)
theorem lN.nt{bk:List (List Int)}{rs:List Row}(h:lN C H x dx b bk rs):NT [x] H:=by
 obtain⟨ra,ox,_⟩:=h.ex;exact kJ ox
theorem Cn(l:List Nat)(k:Nat):(iV (nZ l)).take k=iV (nZ (l.take k)):=by unfold iV nZ;rw[<- LY,<- LY]
theorem Cu(l:List Nat)(k:Nat):(iV (nZ l)).drop k=iV (nZ (l.drop k)):=by unfold iV nZ;rw[<- MB,<- MB]
theorem Fo(l m:List Nat):iV (nZ l)++iV (nZ m)=iV (nZ (l++m)):=by unfold iV nZ;rw[Kg,Kg]
theorem ph(h:H a=some (.tup xs))(q:∀p G,KB [] H G->G p=some (.tup (dP xs lo hi))->Q (.ref p) G):Y.yz K (.ref a) lo hi H Q:=nS h (λe=>q a H (KB.refl _ _) (by rw[e];exact h)) λp hp=>q p _ (KB.new hp) ae
theorem Ey(T:Txt K mg)(F:gX K "law" "law" iI f fd)(l_alike:HasFn K mg "_law_alike" dO ["kept","book","given","most"])(h_law_deck:ax P w K mg base aT 1 "_law_deck" ["script"] (zD K))(h_law_book:ax P w K mg base aT 4 "_law_book" ["deck"] (xf K))(h_law_given:ax P w K mg base aT 3 "_law_given" ["deck"] tY)(h_law_draw:ax P w K mg base aT 2 "_law_draw" ["deck","most"] eZ)(h_law_row:ax P w K mg base aT 4 "_law_row" ["deck","goals"] (DO K))(h_law_idle:ax P w K mg base aT 3 "_law_idle" ["deck","place"] yo)(hpack_rows:ax P w K mg base aT 7 "pack_rows" ["program","book"] jG)(hgoal_of:ax P w K mg base aT 1 "goal_of" ["row"] eO)(hgoals_moved:ax P w K mg base aT 3 "goals_moved" ["rows","first","by"] iK)(hrun_rows:ax P w K mg base aT 7 "run_rows" ["program","given","most"] (qU K))(hrun_bits:ax P w K mg base aT 7 "run_bits" ["bits","book","given","most"] (r8 K)):cg P w K mg base aT 10 f fd ["script"] (oQ K):=by
 obtain⟨C_Kept,f___init__,f_put_in,f_take_out,f_program,f_bits,f_places,d___init__,d_put_in,d_take_out,d_program,d_bits,d_places,hC_Kept,cM,na_book,na_rows,mm___init__,FM___init__,bm___init__,mm_put_in,FM_put_in,bm_put_in,mm_take_out,FM_take_out,bm_take_out,mm_program,FM_program,bm_program,mm_bits,FM_bits,bm_bits,mm_places,FM_places,bm_places⟩:=T.JE;have FO___init__:=xM (P:=P) (w:=w) (mg:=mg) (base:=base) T cM na_book na_rows FM___init__;have FO_program:=xF (P:=P) (w:=w) (mg:=mg) (base:=base) T cM na_rows FM_program;have FO_bits:=Ae T cM na_book na_rows hpack_rows FM_bits;have FO_places:=sy T cM na_book na_rows hpack_rows FM_places;have FO_put_in:=C3 T cM na_rows hgoal_of hgoals_moved FM_put_in;have FO_take_out:=yZ T cM na_rows hgoals_moved FM_take_out;have h_law_alike:=Az T l_alike cM mm_program bm_program FO_program mm_bits bm_bits FO_bits hrun_rows hrun_bits;refine BB F cW (λvs H Q E h=>?_) (λcdv A outer s H vs Q E hr h=>?_)
 ·obtain⟨a,ns,rfl,_⟩:=h;rfl
 ·obtain⟨a,ns,rfl,hS,hl,q⟩:=h;have hu:=aR hr;refine⟨_,(Z.aq (Z.se (i:=1) cW.nd (Z.fc h_law_deck (Z.cons (Z.v 0) Z.nil)))
   (Z.aq (Z.iW K1 rfl (Z.Aj rfl T.gP (Z.cons Z.int Z.nil)) (Z.bu (i:=2) cW.nd rfl (by right)) (Z.aq (Z.se (i:=3) cW.nd (Z.fc h_law_book (Z.cons (Z.v 1) Z.nil)))
   (Z.aq (Z.se (i:=4) cW.nd (Z.make K rfl mm___init__ FO___init__ (hr.mono (by decide)) rfl hC_Kept bm___init__ cu (Z.cons (Z.v 3) Z.nil)))
   (Z.aq (Z.iW K1 rfl (Z.Aj rfl T.gP (Z.cons (Z.fc h_law_draw (Z.cons (Z.v 1) (Z.cons (Z.ix (Z.aP K rfl hu) (Z.lst (Z.consts rfl)) (Z.fc h_law_draw (Z.cons (Z.v 1) (Z.cons Z.int Z.nil)))) Z.nil))) Z.nil)) (Z.bu (i:=5) cW.nd rfl (by right)) (Z.aA (Z.expr (Z.rZ K rfl (Z.v 4) cM mm_put_in FO_put_in (hr.mono (by decide)) bm_put_in cu (Z.cons (Z.fc h_law_draw (Z.cons (Z.v 1) (Z.cons (Z.op (Y.cF K rfl) (Z.v 5) Z.int) Z.nil))) (Z.cons (Z.fc h_law_row (Z.cons (Z.v 1) (Z.cons (Z.op (Y.cF K rfl) (Z.v 5) Z.int) Z.nil))) Z.nil))))))
   (Z.aq (Z.se (i:=6) cW.nd (Z.fc h_law_given (Z.cons (Z.v 1) Z.nil)))
   (Z.aq (Z.se (i:=7) cW.nd (Z.fc h_law_draw (Z.cons (Z.v 1) (Z.cons Z.int Z.nil))))
   (Z.aq (Z.se (i:=8) cW.nd (Z.tup (Z.cons (Z.d_ K rfl (Z.v 4) cM mm_program FO_program (hr.mono (by decide)) bm_program cu) (Z.cons (Z.d_ K rfl (Z.v 4) cM mm_bits FO_bits (hr.mono (by decide)) bm_bits cu) (Z.cons (Z.d_ K rfl (Z.v 4) cM mm_places FO_places (hr.mono (by decide)) bm_places cu) Z.nil)))))
   (Z.aq (Z.asg (Z.fc hrun_rows (Z.cons (Z.d_ K rfl (Z.v 4) cM mm_program FO_program (hr.mono (by decide)) bm_program cu) (Z.cons (Z.v 6) (Z.cons (Z.v 7) Z.nil)))) (Z.q5 (n:=4) K rfl rfl (Z.b_ (Z.bu (i:=9) cW.nd rfl (by right)) (Z.b_ (Z.bu (i:=10) cW.nd rfl (by right)) (Z.b_ (Z.bu (i:=11) cW.nd rfl (by right)) (Z.b_ (Z.bu (i:=12) cW.nd rfl (by right)) Z.j3))))))
   (Z.aq (Z.se (i:=13) cW.nd (Z.fc h_law_draw (Z.cons (Z.v 1) (Z.cons (Z.op (Y.cF K rfl) (Z.cb (Z.cY K rfl) rfl T.cN (by decide +kernel) (Z.cons (Z.v 11) Z.nil)) Z.int) Z.nil))))
   (Z.aq (Z.dJ (Z.Bh (Z.wg K rfl (Z.fc h_law_alike (Z.cons (Z.v 4) (Z.cons (Z.v 3) (Z.cons (Z.v 6) (Z.cons (Z.v 7) Z.nil))))))) (Z.aA (Z.ret Z.bl)) Z.bN)
   (Z.aq (Z.expr (Z.rZ K rfl (Z.v 4) cM mm_put_in FO_put_in (hr.mono (by decide)) bm_put_in cu (Z.cons (Z.v 13) (Z.cons (Z.fc h_law_idle (Z.cons (Z.v 1) (Z.cons (Z.v 13) Z.nil))) Z.nil))))
   (Z.aq (Z.dJ (Z.Bh (Z.wg K rfl (Z.fc h_law_alike (Z.cons (Z.v 4) (Z.cons (Z.v 3) (Z.cons (Z.v 6) (Z.cons (Z.op (Y.cF K rfl) (Z.v 7) Z.int) Z.nil))))))) (Z.aA (Z.ret Z.bl)) Z.bN)
   (Z.aq (Z.se (i:=14) cW.nd (Z.fc hrun_rows (Z.cons (Z.d_ K rfl (Z.v 4) cM mm_program FO_program (hr.mono (by decide)) bm_program cu) (Z.cons (Z.v 6) (Z.cons (Z.op (Y.cF K rfl) (Z.op de Z.int (Z.v 7)) Z.int) Z.nil)))))
   (Z.aq (Z.dJ (Z.tw (Z.p8 (Z.aZ b8 (Z.v 9) Z.str) (Z.j0 (Z.aZ (Y.rF K rfl (nA hr)) (Z.tup (Z.cons (Z.ix (Z.aP K rfl hu) (Z.v 14) Z.int) (Z.cons (Z.ix (Z.aP K rfl hu) (Z.v 14) Z.int) (Z.cons (Z.ix (Z.aP K rfl hu) (Z.v 14) Z.int) Z.nil)))) (Z.tup (Z.cons (Z.v 9) (Z.cons (Z.v 10) (Z.cons (Z.v 12) Z.nil)))))))) (Z.aA (Z.ret Z.bl)) Z.bN)
   (Z.aq (Z.dJ (Z.tw (Z.p8 (Z.aZ b8 (Z.v 9) Z.str) (Z.j0 (Z.aZ (Y.rF K rfl (nA hr)) (Z.op (Y.cF K rfl) (Z.slice (Y.vP K rfl) (Z.ix (Z.aP K rfl hu) (Z.v 14) Z.int) Z.vZ (Z.oN (Z.v 13))) (Z.slice (Y.vP K rfl) (Z.ix (Z.aP K rfl hu) (Z.v 14) Z.int) (Z.oN (Z.op (Y.cF K rfl) (Z.v 13) Z.int)) Z.vZ)) (Z.v 11))))) (Z.aA (Z.ret Z.bl)) Z.bN)
   (Z.aq (Z.expr (Z.rZ K rfl (Z.v 4) cM mm_take_out FO_take_out (hr.mono (by decide)) bm_take_out cu (Z.cons (Z.v 13) Z.nil)))
   (Z.aA (Z.dJ (Z.aZ (Y.rF K rfl (nA hr)) (Z.tup (Z.cons (Z.d_ K rfl (Z.v 4) cM mm_program FO_program (hr.mono (by decide)) bm_program cu) (Z.cons (Z.d_ K rfl (Z.v 4) cM mm_bits FO_bits (hr.mono (by decide)) bm_bits cu) (Z.cons (Z.d_ K rfl (Z.v 4) cM mm_places FO_places (hr.mono (by decide)) bm_places cu) Z.nil)))) (Z.v 8)) (Z.aA (Z.ret Z.bl)) Z.bN))))))))))))))))))
   (Z.aA (Z.ret Z.bl)))),?_⟩
  refine ay λN hN=>?_;walk_at "rz";refine⟨a,ns,rfl,hS,λp dq H1 D1 k1=>?_⟩;rw[hN];clear hN N;refine ay λN hN=>?_;walk_at "rz";refine⟨by decide,by decide,?_⟩
  refine eF (n:=2) (λi σ H'=>∃s2 s3 s4 s5 s6 s7 s8 s9 s10 s11 s12 s13 s14:Option V,bG H' p dq (2000*i)/\σ=[some (.ref a),some (.ref p),s2,s3,s4,s5,s6,s7,s8,s9,s10,s11,s12,s13,s14]) ⟨none,none,none,none,none,none,none,none,none,none,none,none,none,D1,rfl⟩ ?_ ?_
  ·rintro i σ H' hi ⟨s2,s3,s4,s5,s6,s7,s8,s9,s10,s11,s12,s13,s14,hD,rfl⟩;generalize (0:Int)+((i:Nat):Int)=kI;unfold bT;refine ay λM hM=>?_;walk_at "rz";refine⟨p,dq,_,rfl,hD,by lia,λbk b H2 D2 k2 hb hB=>?_⟩
   rw[hM];clear hM M;refine ay λM hM=>?_;walk_at "rz";intro x dx hx0 hdx0 hxd;have kn:KB [] H2 (upd (upd H2 dx (.own x)) x (.ins C_Kept dx [])):=λc o e _=>by rw[ao (au e hx0),ao (au e hdx0)];exact e
   have hbn:=hb.kb kn;have Dn:=D2.kb kn;have oxn:upd (upd H2 dx (.own x)) x (.ins C_Kept dx []) x=some (.ins C_Kept dx []):=ae;have odn:upd (upd H2 dx (.own x)) x (.ins C_Kept dx []) dx=some (.own x):=by rw[ao hxd];exact ae
   generalize upd (upd H2 dx (.own x)) x (.ins C_Kept dx [])=Hn at *;refine⟨x,dx,b,bk,rfl,oxn,odn,hbn,λH3 ks3 k3=>⟨rfl,?_⟩⟩;have D3:bG H3 p dq (2000*i+600):=by
    have:=Dn.Iv oxn λ_=>by simp
    simp only[JR,Kt,La,not_or] at this;exact (Dn.keep k3 (by simpa using λz=>this.1 z.symm) (by simpa using λz=>this.2 z.symm)).mono (by lia)
   clear k3 kn hbn Dn oxn odn hx0 hdx0 hxd hb D2 k2 hD;rw[hM];clear hM M;refine ay λM hM=>?_;walk_at "rz";refine⟨by decide,λl hl=>?_⟩
   have k4:KB [] H3 (upd H3 l (.lst [.int 11,.int 11,.int 11,.int 41])):=KB.new hl;have s4':upd H3 l (.lst [.int 11,.int 11,.int 11,.int 41]) l=_:=ae;generalize upd H3 l (.lst [.int 11,.int 11,.int 11,.int 41])=H4 at *;have nl:=D3.new hl;have ks4:=ks3.kb k4;have D4:=D3.kb k4;refine⟨p,dq,4,_,rfl,D4,by lia,by decide,by decide,λv1 H5 hv1 D5 k5=>?_⟩
   obtain⟨m,hm,em⟩:∃m:Nat,(0<m/\m<=41)/\cI [V.int 11,.int 11,.int 11,.int 41] (v1:Int)=some (.int (m:Nat)):=by
    rcases (show v1=0\/v1=1\/v1=2\/v1=3 by lia) with rfl|rfl|rfl|rfl
    ·exact⟨11,by decide,rfl⟩
    ·exact⟨11,by decide,rfl⟩
    ·exact⟨11,by decide,rfl⟩
    ·exact⟨41,by decide,rfl⟩
   exists aO (k5 _ _ s4' nl),em;have ks5:=ks4.deck D4 k5;refine⟨p,dq,m,_,rfl,D5,by lia,by lia,by lia,λv2 H6 hv2 D6 k6=>?_⟩
   have ks6:=ks5.deck D5 k6;refine⟨_,rfl,by lia,by lia,?_⟩
   rw[Ky];clear ks3 ks4 ks5 D3 D4 D5 k4 k5 k6 s4' nl hl em;refine eF (λj σ G=>∃(rs:List Row) (s5:Option V),j<=v2/\rs.length=j/\(∀r∈rs,r.Ok rs.length)/\lN C_Kept G x dx b bk rs/\bG G p dq (2000*i+602+6*j)/\σ=[some (.ref a),some (.ref p),some (.int kI),some (.ref b),some (.ref x),s5,s6,s7,s8,s9,s10,s11,s12,s13,s14]) ⟨[],s5,Kh _,rfl,(λr hr=>absurd hr Kt),ks6,D6.mono (by lia),rfl⟩ ?_ ?_
   ·rintro j σ G hj ⟨rs,s5,_,hrl,hrs,ks,D,rfl⟩;rw[Int.zero_add];dsimp only;refine vc λM2 hM2=>?_;walk_at "rz";obtain⟨ra,ox,_⟩:=ks.ex;refine⟨x,dx,_,rfl,ox,rfl,.inl ⟨_,_,rfl,rfl,?_⟩⟩;refine⟨p,dq,_,_,rfl,D,by lia,by lia,by lia,λv G1 hv D1 k1=>.inl ⟨_,_,rfl,rfl,?_⟩⟩
    have ks1:=ks.deck D k1;refine⟨p,dq,j+1,_,rfl,D1,by lia,by lia,λr q' G2 hr' hq' D2 k2=>?_⟩
    have ks2:=ks1.deck D1 k2;refine⟨x,dx,b,q',bk,rs,v,r,rfl,ks2,by lia,by lia,hq',by rw[hrl];exact hr',λG3 ks3 k3=>?_⟩
    rw[hM2];refine⟨cH v r rs,_,hj,by rw[fU (by lia),hrl],yD (by lia) (by rw[hrl];exact hr') hrs,ks3,(ks2.dk D2 k3).mono (by lia),rfl⟩
   rintro σ G ⟨rs,s5,_,hrl,hrs,ks,D,rfl⟩;have hl64:rs.length<=41:=by lia
   replace D:bG G p dq (2000*i+1000):=D.mono (by lia)
   show M _ _;rw[hM];clear hM M ks6 D6 D1 k1;refine ay λM hM=>?_;walk_at "rz";refine⟨p,dq,_,rfl,D,by lia,λg ga G1 hgl hga D1 k1=>?_⟩
   have ks1:=ks.deck D k1;rw[hM];clear hM M;refine ay λM hM=>?_;walk_at "rz";refine⟨p,dq,61,_,rfl,D1,by lia,by decide,by decide,λmost G2 hmo D2 k2=>?_⟩
   have ks2:=ks1.deck D1 k2;have hg2:=D1.tup k2 hga;rw[hM];clear hM M;clear ks ks1 D D1 k1 k2 hga;have L:=jH hB (by lia) hrs
   refine ay λM hM=>?_;walk_at "rz";obtain⟨ra2,ox2,_⟩:=ks2.ex;refine⟨x,dx,_,rfl,ox2,rfl,x,dx,b,bk,rs,rfl,ks2,λra hra=>?_⟩;refine⟨x,dx,_,rfl,ox2,rfl,x,dx,b,bk,rs,rfl,ks2,hB,by lia,hrs,λG3 k3=>?_⟩
   have ks3:=ks2.kb k3;have ox3:=k3 _ _ ox2 (by simp)
   refine⟨x,dx,_,rfl,ox3,rfl,x,dx,b,bk,rs,rfl,ks3,hB,by lia,hrs,λua G4 k4 hua=>⟨by decide,λaa haa=>?_⟩⟩
   have k5:=KB.new (ex:=[]) (o:=.tup [.ref ra,.str (wd (eE bk rs)),.ref ua]) haa;have s5':upd G4 aa (.tup [.ref ra,.str (wd (eE bk rs)),.ref ua]) aa=_:=ae;generalize upd G4 aa (.tup [.ref ra,.str (wd (eE bk rs)),.ref ua])=G5 at *;have k25:=k3.trans (k4.trans k5);have hra5:=hra.kb k25;have hua5:=k5 _ _ hua (by simp)
   have ks5:=ks2.kb k25;have D5:=D2.kb k25;have hg5:=k25 _ _ hg2 (by simp)
   have ox5:=k25 _ _ ox2 (by simp)
   rw[hM];clear hM M;clear k3 k4 k5 k25 hra hua ks2 ks3 D2 hg2 ox2 ox3 haa;refine ay λM hM=>?_;walk_at "rz";refine⟨x,dx,_,rfl,ox5,rfl,x,dx,b,bk,rs,rfl,ks5,λrb hrb=>?_⟩;refine⟨rb,ga,rs,g,most,rfl,hrb,hg5,by lia,hrs,by lia,λvr G6 k6 o6=>?_⟩
   have tl:(aS rs most (iP rs g)).tn.length=rs.length:=(km L most _ _ (jK L g)).tl;have id41:=λk (hk:k<=rs.length) r (hr:wq k r) (he:rs.length<=(aS rs most (iP rs g)).at_)=>zM hk hr hrs g most he;generalize aS rs most (iP rs g)=c at *;obtain⟨t1,p1,p2,p3,rfl,a1,a2,a3,a4⟩:=o6;refine⟨t1,_,rfl,bB.of a1,rfl,_,_,rfl,_,_,rfl,_,_,rfl,_,_,rfl,rfl,?_⟩;rw[hM];clear hM M;have ks6:=ks5.kb k6;have D6:=D5.kb k6;have hg6:=k6 _ _ hg5 (by simp)
   have s6':=k6 _ _ s5' (by simp)
   have hra6:=hra5.kb k6;have hua6:=k6 _ _ hua5 (by simp)
   clear ks5 D5 hg5 s5' hra5 hua5 ox5 k6 a1;refine ay λM hM=>?_;exists aM a3,dG,tl;refine .inl ⟨_,_,rfl,rfl,?_⟩;refine⟨p,dq,_,_,rfl,D6,by lia,by lia,by lia,λk G7 hk D7 k7=>?_⟩
   have ks7:=ks6.deck D6 k7;have hg7:=D6.tup k7 hg6;have s7':=D6.tup k7 s6';have hra7:=hra6.keep k7 D6.nt;have hua7:=D6.tup k7 hua6
   replace a2:=D6.tup k7 a2
   replace a3:=D6.tup k7 a3
   replace a4:=D6.tup k7 a4
   rw[hM];clear hM M;clear ks6 D6 hg6 s6' hra6 hua6 k7;refine ay λM hM=>?_;refine DZ λA B hA hB'=>?_;walk_at "rz";refine⟨x,dx,b,ga,bk,rs,g,most,rfl,ks7,hB,by lia,hrs,hg7,by lia,λG8 k8=>?_⟩
   exists OP;rw[JN (by decide),hB']
   show M _ _;rw[hM];clear hM M hA hB' A B;have ks8:=ks7.kb k8;have D8:=D7.kb k8;refine ay λM hM=>?_;walk_at "rz";obtain⟨ra8,ox8,_⟩:=ks8.ex;refine⟨x,dx,_,rfl,ox8,rfl,p,dq,k,_,rfl,D8,by lia,λr qr G9 hir hor hqr D9 k9=>?_⟩
   have ks9:=ks8.deck D8 k9;have hro:r.Ok (rs.length+1):=hor _ (by lia)
   refine⟨x,dx,b,qr,bk,rs,k,r,rfl,ks9,by lia,by lia,hqr,hro,λG10 ks10 k10=>?_⟩
   have k79:KB [p,dq] G7 G9:=k8.all.trans k9;have D10:=ks9.dk D9 k10;have nt9:=ks9.nt;have up:∀{u:Addr} {zs:List V},G7 u=some (.tup zs)->G10 u=some (.tup zs):=λ{u zs} e=>by
    have e9:=D7.tup k79 e;exact k10 _ _ e9 λz=>nt9 _ z _ e9
   have hg10:=up hg7;have s10':=up s7';have hua10:=up hua7
   replace a2:=up a2
   replace a3:=up a3
   replace a4:=up a4
   have hra10:=(hra7.keep k79 D7.nt).keep k10 nt9;rw[hM];clear hM M;clear ks7 D7 hg7 s7' hra7 hua7 k8 ks8 D8 ox8 k9 ks9 hqr k10 k79 D9 nt9 up;have hrs':=yD (k:=k) (x:=r) (by lia) hro hrs
   have pl:(cH k r rs).length=rs.length+1:=fU (by lia)
   have idl:=id41 k (by lia) r hir
   have tk:BC k (cH k r rs)=rs:=Cy (by lia)
   clear id41;generalize cH k r rs=rs' at *;have L':=jH hB (rs:=rs') (by lia) hrs'
   refine ay λM hM=>?_;refine DZ λA B hA hB'=>?_;walk_at "rz";refine .inl ⟨_,_,rfl,rfl,?_⟩;rw[show ((most:Nat):Int)+5=((most+5:Nat):Int) from rfl];refine⟨x,dx,b,ga,bk,rs',g,most+5,rfl,ks10,hB,by lia,hrs',hg10,by lia,λG11 k11=>?_⟩
   exists OP;rw[JN (by decide),hB']
   show M _ _;rw[hM];clear hM M hA hB' A B;have ks11:=ks10.kb k11;obtain⟨ra11,ox11,_⟩:=ks11.ex;refine ay λM hM=>?_;walk_at "rz";refine⟨x,dx,_,rfl,ox11,rfl,x,dx,b,bk,rs',rfl,ks11,λrc hrc=>?_⟩;refine⟨.inl ⟨by decide,by decide⟩,.inl ⟨_,_,rfl,rfl,?_⟩⟩
   rw[show (2:Int)*((most:Nat):Int)+2=((2*most+2:Nat):Int) by lia]
   refine⟨rc,ga,rs',g,2*most+2,rfl,hrc,k11 _ _ hg10 (by simp),by lia,hrs',by lia,λvf G12 k12 o12=>?_⟩
   have tl':(aS rs' (2*most+2) (iP rs' g)).tn.length=rs'.length:=(km L' _ _ _ (jK L' g)).tl;generalize aS rs' (2*most+2) (iP rs' g)=d at *;obtain⟨t2,q1,q2,q3,rfl,b1,b2,b3,b4⟩:=o12;rw[hM];clear hM M;have k02:=k11.trans k12;have ks12:=ks11.kb k12;have D12:=D10.kb k02;have s12:=k02 _ _ s10' (by simp)
   have hua12:=k02 _ _ hua10 (by simp)
   have hra12:=hra10.kb k02
   replace a2:=k02 _ _ a2 (by simp)
   replace a3:=k02 _ _ a3 (by simp)
   replace a4:=k02 _ _ a4 (by simp)
   clear ks10 ks11 D10 s10' hua10 hra10 hg10 ox11 hrc k11 k12 k02;have e3:∀{w x y z:V},cI [w,x,y,z] 3=some z:=rfl;have e2:∀{w x y z:V},cI [w,x,y,z] 2=some y:=rfl;obtain⟨σ0,eσ⟩:∃σ0:L2.St,σ0=[some (.ref a),some (.ref p),some (.int kI),some (.ref b),some (.ref x),s5,some (.ref ga),some (.int (most:Nat)),some (.ref aa),some (.str (dm rs c)),some (.ref p1),some (.ref p2),some (.ref p3),some (.int (k:Nat)),some (.ref t2)]:=⟨_,rfl⟩;refine ay λM hM=>?_;have fin1:∀G',KB [] G12 G'->M σ0 G':=λG' kG=>by
    rw[hM,eσ];clear hM M;refine ay λM hM=>?_;have iQ:∀G'',KB [] G12 G''->M σ0 G'':=λG'' kG'=>by
     rw[hM,eσ];clear hM M;have ksG:=ks12.kb kG';have DG:=D12.kb kG';obtain⟨raG,oxG,_⟩:=ksG.ex;refine ay λM hM=>?_;walk_at "rz";refine⟨x,dx,_,rfl,oxG,rfl,x,dx,b,bk,rs',k,rfl,ksG,by lia,by lia,λG13 ks13 k13=>?_⟩
     rw[tk] at ks13;rw[hM];clear hM M;have D13:=ksG.dk DG k13;have ntG:=ksG.nt;have s13:=k13 _ _ (kG' _ _ s12 (by simp)) λz=>ntG _ z _ (kG' _ _ s12 (by simp))
     have hua13:=k13 _ _ (kG' _ _ hua12 (by simp)) λz=>ntG _ z _ (kG' _ _ hua12 (by simp))
     have hra13:=(hra12.kb kG').keep k13 ntG;obtain⟨ra13,ox13,_⟩:=ks13.ex;dsimp only;refine vc λM hM=>?_;refine DZ λA B hA hB'=>?_;walk_at "rz";refine⟨x,dx,_,rfl,ox13,rfl,x,dx,b,bk,rs,rfl,ks13,λrd hrd=>?_⟩;refine⟨x,dx,_,rfl,ox13,rfl,x,dx,b,bk,rs,rfl,ks13,hB,by lia,hrs,λG14 k14=>?_⟩
     have ks14:=ks13.kb k14;refine⟨x,dx,_,rfl,k14 _ _ ox13 (by simp),rfl,x,dx,b,bk,rs,rfl,ks14,hB,by lia,hrs,λub G15 k15 hub=>⟨by decide,λab hab=>?_⟩⟩
     have k16:=KB.new (ex:=[]) (o:=.tup [.ref rd,.str (wd (eE bk rs)),.ref ub]) hab;have s16:upd G15 ab (.tup [.ref rd,.str (wd (eE bk rs)),.ref ub]) ab=_:=ae;generalize upd G15 ab (.tup [.ref rd,.str (wd (eE bk rs)),.ref ub])=G16 at *;have kk:=k14.trans (k15.trans k16);refine CN s16 (kk _ _ s13 (by simp)) (hrd.kb kk) (k16 _ _ hub (by simp)) (hra13.kb kk) (kk _ _ hua13 (by simp)) ⟨false,rfl,?_⟩
     rw[JN JZ,hB'];show M _ _;rw[hM];exact⟨_,_,_,_,_,_,_,_,_,_,_,_,_,(D13.kb kk).mono (by lia),rfl⟩
    refine DZ λA B hA hB'=>?_;walk_at "rz";by_cases hh:dm rs c=Str.ofString "halt"
    ·rw[JQ hh];have he:rs.length<=c.at_:=by
      rcases KG c.at_ rs.length with h|h
      ·unfold dm at hh;rw[JQ h] at hh;exact absurd hh (by decide +kernel)
      ·exact h
     have I:=idl he;exists aM (kG _ _ b1 (by simp)),e2
     refine ph (kG _ _ b3 (by simp)) λu1 G1 kG1 g1=>?_
     exists aM ((kG.trans kG1) _ _ b1 (by simp)),e2
     refine .inl ⟨_,_,rfl,rfl,_,rfl,?_⟩;rw[show ((k:Nat):Int)+1=((k+1:Nat):Int) from rfl];refine ph ((kG.trans kG1) _ _ b3 (by simp)) λu2 G2 kG2 g2=>?_
     rw[jX,Cn] at g1;rw[kB,Cu] at g2;refine uE (kG2 _ _ g1 (by simp)) g2 (by rw[dG,dG,Ki,Kq];lia) λu3 G3 kG3 g3=>?_
     rw[Fo,<- LU,I.tn] at g3;have kk:=kG.trans (kG1.trans (kG2.trans kG3));refine .inr (Cr (neg:=true) g3 (kk _ _ a3 (by simp)) ⟨false,rfl,?_⟩)
     rw[JN JZ,hB',<- eσ];exact iQ G3 kk
    ·rw[JN hh,hB'];rw[<- eσ];exact iQ G' kG
   refine DZ λA B hA hB'=>?_;walk_at "rz";by_cases hh:dm rs c=Str.ofString "halt"
   ·rw[JQ hh];have he:rs.length<=c.at_:=by
     rcases KG c.at_ rs.length with h|h
     ·unfold dm at hh;rw[JQ h] at hh;exact absurd hh (by decide +kernel)
     ·exact h
    have I:=idl he;have h2:dm rs' d=dm rs c:=by
     rw[hh];unfold dm;rw[JN];have h1:=I.at_;unfold jh at h1;rw[JN (by lia)] at h1
     lia
    rw[h2] at b1;have ts:d.st.told=c.st.told:=by rw[I.st]
    have bs:d.st.bs=c.st.bs:=by rw[I.st]
    rw[ts] at b2;rw[bs] at b4;exists aM b1,e3;refine⟨by decide,λc1 hc1=>⟨by decide,λc2 hc2=>?_⟩⟩
    have k4:=KB.new (ex:=[]) (o:=.tup [.str (dm rs c),.ref q1,.ref q3]) hc1;have s4:upd G12 c1 (.tup [.str (dm rs c),.ref q1,.ref q3]) c1=_:=ae;generalize upd G12 c1 (.tup [.str (dm rs c),.ref q1,.ref q3])=H4 at *;have k5:=KB.new (ex:=[]) (o:=.tup [.str (dm rs c),.ref p1,.ref p3]) hc2;have s5:upd H4 c2 (.tup [.str (dm rs c),.ref p1,.ref p3]) c2=_:=ae;generalize upd H4 c2 (.tup [.str (dm rs c),.ref p1,.ref p3])=H5 at *;have k45:=k4.trans k5;refine .inr (qe (neg:=true) (k5 _ _ s4 (by simp)) s5 (k45 _ _ b2 (by simp)) (k45 _ _ b4 (by simp)) (k45 _ _ a2 (by simp)) (k45 _ _ a4 (by simp)) ⟨false,rfl,?_⟩)
    rw[JN JZ,hB',<- eσ];exact fin1 H5 k45
   ·rw[JN hh,hB',<- eσ];exact fin1 G12 (KB.refl _ _)
  ·rintro σ H' ⟨s2,s3,s4,s5,s6,s7,s8,s9,s10,s11,s12,s13,s14,_,rfl⟩;show N _ _;rw[hN];clear hN N;walk_at "rz";exact q _
local macro_rules | `(tactic| walk_at "b1") => `(tactic| (intro _ _ _ _ _ _ us hl; obtain ⟨_, e⟩ := L2.Y.oo hl; subst e; rfl))
theorem fo{x:Str}{st:Stmt}{ps:List Str}{oc:Value}{od an:Option Addr}{osl:Array (Option Value)}{kV doc pm cdv ct:Value}(X:K.In h)(G:h.Ns mainGlobals mg)(a:W.nsIn K mainGlobals x=some (some (.ref f)))
  (l:K.lookup f=some ⟨oc,od,.func (W.fnOf x x (bA st) (aI st) (af st) .none kV doc pm an cdv ct),osl⟩) (c:W.codeIn K cdv x=true) (k:W.keepIn K (.ref f)=true)
  (hb:∀(kV doc pm:Value) (an:Option Addr) (cdv ct:Value) (us:List Value),us.length=ps.length->bindArgs (W.fnOf x x (bA st) (aI st) (af st) .none kV doc pm an cdv ct) ⟨us,[]⟩=pure (ps.zip us)):HasFn K mg x st ps:=
 ⟨f,_,b6 l c k,(b6 l c k).binds hb,LJ X G a⟩
set_option autoImplicit true in
theorem all_mk{l:W.OpenLaw}{w:World}{fa:Addr}(X:K.In h)(G:h.Ns mainGlobals mg)(hfa:mg "law"=some (.ref fa))
  (F0:HasFn K mg "_wall" AN ["k"])
  (F1:HasFn K mg "goal_of" jb ["row"])
  (F2:HasFn K mg "with_goal" gn ["row","goal"])
  (F3:HasFn K mg "can_be" jW ["lengths"])
  (a4:W.nsIn K mainGlobals "code_of"=some (some (.ref f4))) (l4:K.lookup f4=some ⟨oc4,od4,.func (W.fnOf "code_of" "code_of" (bA d8) (aI d8) (af d8) .none kV4 dc4 pm4 an4 cd4 ct4),sl4⟩) (c4:W.codeIn K cd4 "code_of"=true) (k4:W.keepIn K (.ref f4)=true)
  (F5:HasFn K mg "word_behind" e_ ["ahead","length"])
  (F6:HasFn K mg "thing_at" ij ["code","bits","place"])
  (F7:HasFn K mg "least_widths" ee ["sizes","goals"])
  (F8:HasFn K mg "raised_till_good" cV ["sizes","goals"])
  (F9:HasFn K mg "narrowest" eQ ["goals"])
  (F10:HasFn K mg "first_too_narrow" cS ["sizes","goals","widths"])
  (F11:HasFn K mg "fits" rJ ["starts","goals","widths","row"])
  (F12:HasFn K mg "distance_of" eX ["starts","goals","row"])
  (F13:HasFn K mg "row_starts" fT ["sizes","widths"])
  (F14:HasFn K mg "own_part" iu ["width"])
  (F15:HasFn K mg "coded_things" eI ["row"])
  (F16:HasFn K mg "codes_of" fG ["book"])
  (F17:HasFn K mg "pack_rows" cZ ["program","book"])
  (F18:HasFn K mg "bits_ahead_of_goal" bV ["row","codes"])
  (F19:HasFn K mg "figures_behind_first" cw ["number"])
  (F20:HasFn K mg "jump_written" eG ["width","distance"])
  (F21:HasFn K mg "last_figures" eA ["number","many"])
  (F22:HasFn K mg "goals_moved" dA ["rows","first","by"])
  (F23:HasFn K mg "goal_moved" fK ["row","first","by"])
  (F24:HasFn K mg "run_rows" fI ["program","given","most"])
  (F25:HasFn K mg "row_at" ko ["codes","bits","place"])
  (F26:HasFn K mg "coded_at" ie ["code","bits","place"])
  (F27:HasFn K mg "part_at" iX ["kind","codes","bits","place"])
  (F28:HasFn K mg "number_at" gB ["code","bits","place"])
  (F29:HasFn K mg "goal_at" iS ["bits","place"])
  (F30:HasFn K mg "run_bits" h_ ["bits","book","given","most"])
  (F31:HasFn K mg "_law_deck" eU ["script"])
  (F32:HasFn K mg "_law_mix" hX ["number","turn"])
  (F33:HasFn K mg "_law_draw" gF ["deck","most"])
  (F34:HasFn K mg "_law_lengths" dW ["deck","many"])
  (F35:HasFn K mg "_law_book" eV ["deck"])
  (F36:HasFn K mg "_law_number" fk ["deck"])
  (F37:HasFn K mg "_law_row" ic ["deck","goals"])
  (F38:HasFn K mg "_law_given" fO ["deck"])
  (F39:HasFn K mg "_law_alike" dO ["kept","book","given","most"])
  (F40:HasFn K mg "_law_idle" gy ["deck","place"])
  (a41:W.nsIn K mainGlobals "law"=some (some (.ref f41))) (l41:K.lookup f41=some ⟨oc41,od41,.func (W.fnOf "law" "law" (bA iI) (aI iI) (af iI) .none kV41 dc41 pm41 an41 cd41 ct41),sl41⟩) (c41:W.codeIn K cd41 "law"=true) (k41:W.keepIn K (.ref f41)=true)
  (z0:W.nsIn K mainGlobals "abs"=some none)
  (z1:W.nsIn K mainGlobals "dict"=some none)
  (z2:W.nsIn K mainGlobals "enumerate"=some none)
  (z3:W.nsIn K mainGlobals "int"=some none)
  (z4:W.nsIn K mainGlobals "len"=some none)
  (z5:W.nsIn K mainGlobals "list"=some none)
  (z6:W.nsIn K mainGlobals "min"=some none)
  (z7:W.nsIn K mainGlobals "range"=some none)
  (z8:W.nsIn K mainGlobals "sorted"=some none)
  (z9:W.nsIn K mainGlobals "str"=some none)
  (z10:W.nsIn K mainGlobals "sum"=some none)
  (z11:W.nsIn K mainGlobals "tuple"=some none)
  (z12:W.nsIn K mainGlobals "zip"=some none)
  (g0:W.nsIn K mainGlobals "BOXES"=some (some (.ref q0))) (m0:K.lookup q0=some ⟨.type "tuple",none,.seq #[.str "a" w0_0,.str "b" w0_1,.str "c" w0_2,.str "d" w0_3,.str "e" w0_4,.str "f" w0_5,.str "g" w0_6,.str "h" w0_7] qn0,qs0⟩)
  (g1:W.nsIn K mainGlobals "HALVES"=some (some (.ref q1))) (m1:K.lookup q1=some ⟨.type "tuple",qd1,.seq #[.int 8 w1_0,.int 128 w1_1,.int 32768 w1_2] qn1,qs1⟩)
  (g2:W.nsIn K mainGlobals "HEADS"=some (some (.ref q2))) (m2:K.lookup q2=some ⟨.type "tuple",qd2,.seq #[.str "0" w2_0,.str "10" w2_1,.str "11" w2_2] qn2,qs2⟩)
  (g3:W.nsIn K mainGlobals "OF_BOXES"=some (some (.int 2 w3_0)))
  (g4:W.nsIn K mainGlobals "OF_CLASSES"=some (some (.int 1 w4_0)))
  (g5:W.nsIn K mainGlobals "OF_WORDS"=some (some (.int 0 w5_0)))
  (g6:W.nsIn K mainGlobals "WHOLE"=some (some (.int 65536 w6_0)))
  (g7:W.nsIn K mainGlobals "WIDEST"=some (some (.int 2 w7_0)))
  (g8:W.nsIn K mainGlobals "WIDTHS"=some (some (.ref q8))) (m8:K.lookup q8=some ⟨.type "tuple",qd8,.seq #[.int 4 w8_0,.int 8 w8_1,.int 16 w8_2] qn8,qs8⟩)
  (dg0:W.nsIn K mainGlobals "SHAPES"=some (some (.ref dd0))) (dz0:(dd0 == sysModules)=false) (dl0:K.lookup dd0=some ⟨.type "dict",none,.dict #[⟨dh0_0,.str "put" dt0_0,.ref dp0_0⟩,⟨dh0_1,.str "add" dt0_1,.ref dp0_1⟩,⟨dh0_2,.str "sub" dt0_2,.ref dp0_2⟩,⟨dh0_3,.str "copy" dt0_3,.ref dp0_3⟩,⟨dh0_4,.str "tell" dt0_4,.ref dp0_4⟩,⟨dh0_5,.str "hear" dt0_5,.ref dp0_5⟩,⟨dh0_6,.str "jump" dt0_6,.ref dp0_6⟩,⟨dh0_7,.str "zero" dt0_7,.ref dp0_7⟩,⟨dh0_8,.str "halt" dt0_8,.ref dp0_8⟩] dh0_ep,#[]⟩)
  (dm0_0:K.lookup dp0_0=some ⟨.type "tuple",do0_0,.seq #[.str "box" dw0_0_0,.str "number" dw0_0_1] dn0_0,ds0_0⟩)
  (dm0_1:K.lookup dp0_1=some ⟨.type "tuple",do0_1,.seq #[.str "box" dw0_1_0,.str "box" dw0_1_1] dn0_1,ds0_1⟩)
  (dm0_2:K.lookup dp0_2=some ⟨.type "tuple",do0_2,.seq #[.str "box" dw0_2_0,.str "box" dw0_2_1] dn0_2,ds0_2⟩)
  (dm0_3:K.lookup dp0_3=some ⟨.type "tuple",do0_3,.seq #[.str "box" dw0_3_0,.str "box" dw0_3_1] dn0_3,ds0_3⟩)
  (dm0_4:K.lookup dp0_4=some ⟨.type "tuple",do0_4,.seq #[.str "box" dw0_4_0] dn0_4,ds0_4⟩)
  (dm0_5:K.lookup dp0_5=some ⟨.type "tuple",do0_5,.seq #[.str "box" dw0_5_0] dn0_5,ds0_5⟩)
  (dm0_6:K.lookup dp0_6=some ⟨.type "tuple",do0_6,.seq #[.str "goal" dw0_6_0] dn0_6,ds0_6⟩)
  (dm0_7:K.lookup dp0_7=some ⟨.type "tuple",do0_7,.seq #[.str "box" dw0_7_0,.str "goal" dw0_7_1] dn0_7,ds0_7⟩)
  (dm0_8:K.lookup dp0_8=some ⟨.type "tuple",do0_8,.seq #[] dn0_8,ds0_8⟩)
  (mq0:W.nsIn K mainGlobals "Machine"=some (some (.ref mC)))
  (mq1:W.plainGet K mC Str.empty=true)
  (mq2:W.hasDictIn K mC=true)
  (mq3:W.plainOver K mC=true)
  (mq4:W.findIn K (.ref mC) "__setattr__"=some (some (.builtin "object.__setattr__")))
  (mq5:W.findIn K (.ref mC) "given"=some none)
  (mq6:W.findIn K (.ref mC) "heard"=some none)
  (mq7:W.findIn K (.ref mC) "told"=some none)
  (mq8:W.findIn K (.ref mC) "boxes"=some none)
  (mq9:W.findIn K (.ref mC) "__init__"=some (some (.ref mf0)))
  (mq10:W.isFn K (.ref mf0)=true)
  (mq11:W.keepIn K (.ref mf0)=true)
  (mq12:K.lookup mf0=some ⟨moc0,mod0,.func (W.fnOf "__init__" "Machine.__init__" (bA aL) (aI aL) (af aL) .none mkV0 mdc0 mpm0 man0 mcd0 mct0),msl0⟩)
  (mq13:W.codeIn K mcd0 "Machine.__init__"=true)
  (mq14:W.makesIn K mC=true)
  (mq15:W.keepIn K (.ref mC)=true)
  (mq16:W.findIn K (.ref mC) "place_next"=some (some (.ref mf1)))
  (mq17:W.isFn K (.ref mf1)=true)
  (mq18:W.keepIn K (.ref mf1)=true)
  (mq19:K.lookup mf1=some ⟨moc1,mod1,.func (W.fnOf "place_next" "Machine.place_next" (bA aK) (aI aK) (af aK) .none mkV1 mdc1 mpm1 man1 mcd1 mct1),msl1⟩)
  (mq20:W.codeIn K mcd1 "Machine.place_next"=true)
  (mq21:W.findIn K (.ref mC) "carry_out"=some (some (.ref mf2)))
  (mq22:W.isFn K (.ref mf2)=true)
  (mq23:W.keepIn K (.ref mf2)=true)
  (mq24:K.lookup mf2=some ⟨moc2,mod2,.func (W.fnOf "carry_out" "Machine.carry_out" (bA aN) (aI aN) (af aN) .none mkV2 mdc2 mpm2 man2 mcd2 mct2),msl2⟩)
  (mq25:W.codeIn K mcd2 "Machine.carry_out"=true)
  (mq26:W.findIn K (.ref mC) "number_for"=some (some (.ref mf3)))
  (mq27:W.isFn K (.ref mf3)=true)
  (mq28:W.keepIn K (.ref mf3)=true)
  (mq29:K.lookup mf3=some ⟨moc3,mod3,.func (W.fnOf "number_for" "Machine.number_for" (bA aJ) (aI aJ) (af aJ) .none mkV3 mdc3 mpm3 man3 mcd3 mct3),msl3⟩)
  (mq30:W.codeIn K mcd3 "Machine.number_for"=true)
  (mq31:W.findIn K (.ref mC) "heard_number"=some (some (.ref mf4)))
  (mq32:W.isFn K (.ref mf4)=true)
  (mq33:W.keepIn K (.ref mf4)=true)
  (mq34:K.lookup mf4=some ⟨moc4,mod4,.func (W.fnOf "heard_number" "Machine.heard_number" (bA aG) (aI aG) (af aG) .none mkV4 mdc4 mpm4 man4 mcd4 mct4),msl4⟩)
  (mq35:W.codeIn K mcd4 "Machine.heard_number"=true)
  (mq36:W.findIn K (.ref mC) "told_numbers"=some (some (.ref mf5)))
  (mq37:W.isFn K (.ref mf5)=true)
  (mq38:W.keepIn K (.ref mf5)=true)
  (mq39:K.lookup mf5=some ⟨moc5,mod5,.func (W.fnOf "told_numbers" "Machine.told_numbers" (bA aH) (aI aH) (af aH) .none mkV5 mdc5 mpm5 man5 mcd5 mct5),msl5⟩)
  (mq40:W.codeIn K mcd5 "Machine.told_numbers"=true)
  (mq41:W.findIn K (.ref mC) "box_numbers"=some (some (.ref mf6)))
  (mq42:W.isFn K (.ref mf6)=true)
  (mq43:W.keepIn K (.ref mf6)=true)
  (mq44:K.lookup mf6=some ⟨moc6,mod6,.func (W.fnOf "box_numbers" "Machine.box_numbers" (bA aC) (aI aC) (af aC) .none mkV6 mdc6 mpm6 man6 mcd6 mct6),msl6⟩)
  (mq45:W.codeIn K mcd6 "Machine.box_numbers"=true)
  (mq0_1:W.nsIn K mainGlobals "Kept"=some (some (.ref mC_1)))
  (mq1_1:W.plainGet K mC_1 Str.empty=true)
  (mq2_1:W.hasDictIn K mC_1=true)
  (mq3_1:W.plainOver K mC_1=true)
  (mq4_1:W.findIn K (.ref mC_1) "__setattr__"=some (some (.builtin "object.__setattr__")))
  (mq5_1:W.findIn K (.ref mC_1) "book"=some none)
  (mq6_1:W.findIn K (.ref mC_1) "rows"=some none)
  (mq7_1:W.findIn K (.ref mC_1) "__init__"=some (some (.ref mf0_1)))
  (mq8_1:W.isFn K (.ref mf0_1)=true)
  (mq9_1:W.keepIn K (.ref mf0_1)=true)
  (mq10_1:K.lookup mf0_1=some ⟨moc0_1,mod0_1,.func (W.fnOf "__init__" "Kept.__init__" (bA a_) (aI a_) (af a_) .none mkV0_1 mdc0_1 mpm0_1 man0_1 mcd0_1 mct0_1),msl0_1⟩)
  (mq11_1:W.codeIn K mcd0_1 "Kept.__init__"=true)
  (mq12_1:W.makesIn K mC_1=true)
  (mq13_1:W.keepIn K (.ref mC_1)=true)
  (mq14_1:W.findIn K (.ref mC_1) "put_in"=some (some (.ref mf1_1)))
  (mq15_1:W.isFn K (.ref mf1_1)=true)
  (mq16_1:W.keepIn K (.ref mf1_1)=true)
  (mq17_1:K.lookup mf1_1=some ⟨moc1_1,mod1_1,.func (W.fnOf "put_in" "Kept.put_in" (bA bz) (aI bz) (af bz) .none mkV1_1 mdc1_1 mpm1_1 man1_1 mcd1_1 mct1_1),msl1_1⟩)
  (mq18_1:W.codeIn K mcd1_1 "Kept.put_in"=true)
  (mq19_1:W.findIn K (.ref mC_1) "take_out"=some (some (.ref mf2_1)))
  (mq20_1:W.isFn K (.ref mf2_1)=true)
  (mq21_1:W.keepIn K (.ref mf2_1)=true)
  (mq22_1:K.lookup mf2_1=some ⟨moc2_1,mod2_1,.func (W.fnOf "take_out" "Kept.take_out" (bA ba) (aI ba) (af ba) .none mkV2_1 mdc2_1 mpm2_1 man2_1 mcd2_1 mct2_1),msl2_1⟩)
  (mq23_1:W.codeIn K mcd2_1 "Kept.take_out"=true)
  (mq24_1:W.findIn K (.ref mC_1) "program"=some (some (.ref mf3_1)))
  (mq25_1:W.isFn K (.ref mf3_1)=true)
  (mq26_1:W.keepIn K (.ref mf3_1)=true)
  (mq27_1:K.lookup mf3_1=some ⟨moc3_1,mod3_1,.func (W.fnOf "program" "Kept.program" (bA bo) (aI bo) (af bo) .none mkV3_1 mdc3_1 mpm3_1 man3_1 mcd3_1 mct3_1),msl3_1⟩)
  (mq28_1:W.codeIn K mcd3_1 "Kept.program"=true)
  (mq29_1:W.findIn K (.ref mC_1) "bits"=some (some (.ref mf4_1)))
  (mq30_1:W.isFn K (.ref mf4_1)=true)
  (mq31_1:W.keepIn K (.ref mf4_1)=true)
  (mq32_1:K.lookup mf4_1=some ⟨moc4_1,mod4_1,.func (W.fnOf "bits" "Kept.bits" (bA bJ) (aI bJ) (af bJ) .none mkV4_1 mdc4_1 mpm4_1 man4_1 mcd4_1 mct4_1),msl4_1⟩)
  (mq33_1:W.codeIn K mcd4_1 "Kept.bits"=true)
  (mq34_1:W.findIn K (.ref mC_1) "places"=some (some (.ref mf5_1)))
  (mq35_1:W.isFn K (.ref mf5_1)=true)
  (mq36_1:W.keepIn K (.ref mf5_1)=true)
  (mq37_1:K.lookup mf5_1=some ⟨moc5_1,mod5_1,.func (W.fnOf "places" "Kept.places" (bA bw) (aI bw) (af bw) .none mkV5_1 mdc5_1 mpm5_1 man5_1 mcd5_1 mct5_1),msl5_1⟩)
  (mq38_1:W.codeIn K mcd5_1 "Kept.places"=true)
  (le_code_of:cd4=.ref lc_code_of) (lk_code_of:K.lookup lc_code_of=some ⟨lO_code_of,lD_code_of,.fields lv_code_of,lS_code_of⟩) (lw_code_of:lv_code_of[11]?=some (.ref lp_code_of))
  : ∃fd:FuncData,(∀(s:Shared) (v:Value),BindsTo s fd ⟨[v],[]⟩ [("script",v)])/\∀base:Heap,K.In base->base.Ns mainGlobals mg->cg l.prog w K mg base aT 30 fa fd ["script"] (oQ K):=by
 have e:=hfa.symm.trans (LJ X G a41);cases e
 have T:Txt K mg:=⟨Lc X G z0,Lc X G z1,Lc X G z2,Lc X G z3,Lc X G z4,Lc X G z5,Lc X G z6,Lc X G z7,Lc X G z8,Lc X G z9,Lc X G z10,Lc X G z11,Lc X G z12,⟨q0,LJ X G g0,λH=>.inr ⟨_,_,_,m0,rfl,rfl,(by show 8<=sizeLine;decide),(.cons ⟨w0_0,rfl⟩ (.cons ⟨w0_1,rfl⟩ (.cons ⟨w0_2,rfl⟩ (.cons ⟨w0_3,rfl⟩ (.cons ⟨w0_4,rfl⟩ (.cons ⟨w0_5,rfl⟩ (.cons ⟨w0_6,rfl⟩ (.cons ⟨w0_7,rfl⟩ .nil))))))))⟩⟩,⟨q1,LJ X G g1,λH=>.inr ⟨_,_,_,m1,rfl,rfl,(by show 3<=sizeLine;decide),(.cons ⟨w1_0,rfl⟩ (.cons ⟨w1_1,rfl⟩ (.cons ⟨w1_2,rfl⟩ .nil)))⟩⟩,⟨q2,LJ X G g2,λH=>.inr ⟨_,_,_,m2,rfl,rfl,(by show 3<=sizeLine;decide),(.cons ⟨w2_0,rfl⟩ (.cons ⟨w2_1,rfl⟩ (.cons ⟨w2_2,rfl⟩ .nil)))⟩⟩,⟨_,LJ X G g3,⟨_,rfl⟩⟩,⟨_,LJ X G g4,⟨_,rfl⟩⟩,⟨_,LJ X G g5,⟨_,rfl⟩⟩,⟨_,LJ X G g6,⟨_,rfl⟩⟩,⟨_,LJ X G g7,⟨_,rfl⟩⟩,⟨q8,LJ X G g8,λH=>.inr ⟨_,_,_,m8,rfl,rfl,(by show 3<=sizeLine;decide),(.cons ⟨w8_0,rfl⟩ (.cons ⟨w8_1,rfl⟩ (.cons ⟨w8_2,rfl⟩ .nil)))⟩⟩,⟨q0,_,LJ X G g0,m0,rfl⟩,⟨dd0,LJ X G dg0,dz0,_,_,_,dl0,⟨rfl,rfl,rfl⟩,rfl,(.cons rfl ⟨dp0_0,rfl,⟨_,_,_,dm0_0,rfl,rfl,(by show 2<=sizeLine;decide),(.cons ⟨dw0_0_0,rfl⟩ (.cons ⟨dw0_0_1,rfl⟩ .nil))⟩⟩ (.cons rfl ⟨dp0_1,rfl,⟨_,_,_,dm0_1,rfl,rfl,(by show 2<=sizeLine;decide),(.cons ⟨dw0_1_0,rfl⟩ (.cons ⟨dw0_1_1,rfl⟩ .nil))⟩⟩ (.cons rfl ⟨dp0_2,rfl,⟨_,_,_,dm0_2,rfl,rfl,(by show 2<=sizeLine;decide),(.cons ⟨dw0_2_0,rfl⟩ (.cons ⟨dw0_2_1,rfl⟩ .nil))⟩⟩ (.cons rfl ⟨dp0_3,rfl,⟨_,_,_,dm0_3,rfl,rfl,(by show 2<=sizeLine;decide),(.cons ⟨dw0_3_0,rfl⟩ (.cons ⟨dw0_3_1,rfl⟩ .nil))⟩⟩ (.cons rfl ⟨dp0_4,rfl,⟨_,_,_,dm0_4,rfl,rfl,(by show 1<=sizeLine;decide),(.cons ⟨dw0_4_0,rfl⟩ .nil)⟩⟩ (.cons rfl ⟨dp0_5,rfl,⟨_,_,_,dm0_5,rfl,rfl,(by show 1<=sizeLine;decide),(.cons ⟨dw0_5_0,rfl⟩ .nil)⟩⟩ (.cons rfl ⟨dp0_6,rfl,⟨_,_,_,dm0_6,rfl,rfl,(by show 1<=sizeLine;decide),(.cons ⟨dw0_6_0,rfl⟩ .nil)⟩⟩ (.cons rfl ⟨dp0_7,rfl,⟨_,_,_,dm0_7,rfl,rfl,(by show 2<=sizeLine;decide),(.cons ⟨dw0_7_0,rfl⟩ (.cons ⟨dw0_7_1,rfl⟩ .nil))⟩⟩ (.cons rfl ⟨dp0_8,rfl,⟨_,_,_,dm0_8,rfl,rfl,(by show 0<=sizeLine;decide),.nil⟩⟩ .nil)))))))))⟩,⟨_,_,_,_,_,_,_,_,_,_,_,_,_,_,_,LJ X G mq0,⟨mq1,mq2,mq3,mq4⟩,mq5,mq6,mq7,mq8,⟨mq14,mq9,mq10,mq15⟩,b6 (st:=aL) mq12 mq13 mq11,(b6 (st:=aL) mq12 mq13 mq11).binds (ps:=["self","given"]) (λ_ _ _ _ _ _ us hl=>by obtain⟨_,_,rfl⟩:=Y.rf hl;rfl),⟨mq16,mq17,mq18⟩,b6 (st:=aK) mq19 mq20 mq18,(b6 (st:=aK) mq19 mq20 mq18).binds (ps:=["self","row","behind","end"]) (λ_ _ _ _ _ _ us hl=>by obtain⟨_,_,_,_,rfl⟩:=Y.GH hl;rfl),⟨mq21,mq22,mq23⟩,b6 (st:=aN) mq24 mq25 mq23,(b6 (st:=aN) mq24 mq25 mq23).binds (ps:=["self","row"]) (λ_ _ _ _ _ _ us hl=>by obtain⟨_,_,rfl⟩:=Y.rf hl;rfl),⟨mq26,mq27,mq28⟩,b6 (st:=aJ) mq29 mq30 mq28,(b6 (st:=aJ) mq29 mq30 mq28).binds (ps:=["self","row"]) (λ_ _ _ _ _ _ us hl=>by obtain⟨_,_,rfl⟩:=Y.rf hl;rfl),⟨mq31,mq32,mq33⟩,b6 (st:=aG) mq34 mq35 mq33,(b6 (st:=aG) mq34 mq35 mq33).binds (ps:=["self"]) (λ_ _ _ _ _ _ us hl=>by obtain⟨_,rfl⟩:=Y.oo hl;rfl),⟨mq36,mq37,mq38⟩,b6 (st:=aH) mq39 mq40 mq38,(b6 (st:=aH) mq39 mq40 mq38).binds (ps:=["self"]) (λ_ _ _ _ _ _ us hl=>by obtain⟨_,rfl⟩:=Y.oo hl;rfl),⟨mq41,mq42,mq43⟩,b6 (st:=aC) mq44 mq45 mq43,(b6 (st:=aC) mq44 mq45 mq43).binds (ps:=["self"]) (λ_ _ _ _ _ _ us hl=>by obtain⟨_,rfl⟩:=Y.oo hl;rfl)⟩,⟨_,_,_,_,_,_,_,_,_,_,_,_,_,LJ X G mq0_1,⟨mq1_1,mq2_1,mq3_1,mq4_1⟩,mq5_1,mq6_1,⟨mq12_1,mq7_1,mq8_1,mq13_1⟩,b6 (st:=a_) mq10_1 mq11_1 mq9_1,(b6 (st:=a_) mq10_1 mq11_1 mq9_1).binds (ps:=["self","book"]) (λ_ _ _ _ _ _ us hl=>by obtain⟨_,_,rfl⟩:=Y.rf hl;rfl),⟨mq14_1,mq15_1,mq16_1⟩,b6 (st:=bz) mq17_1 mq18_1 mq16_1,(b6 (st:=bz) mq17_1 mq18_1 mq16_1).binds (ps:=["self","place","row"]) (λ_ _ _ _ _ _ us hl=>by obtain⟨_,_,_,rfl⟩:=Y.vd hl;rfl),⟨mq19_1,mq20_1,mq21_1⟩,b6 (st:=ba) mq22_1 mq23_1 mq21_1,(b6 (st:=ba) mq22_1 mq23_1 mq21_1).binds (ps:=["self","place"]) (λ_ _ _ _ _ _ us hl=>by obtain⟨_,_,rfl⟩:=Y.rf hl;rfl),⟨mq24_1,mq25_1,mq26_1⟩,b6 (st:=bo) mq27_1 mq28_1 mq26_1,(b6 (st:=bo) mq27_1 mq28_1 mq26_1).binds (ps:=["self"]) (λ_ _ _ _ _ _ us hl=>by obtain⟨_,rfl⟩:=Y.oo hl;rfl),⟨mq29_1,mq30_1,mq31_1⟩,b6 (st:=bJ) mq32_1 mq33_1 mq31_1,(b6 (st:=bJ) mq32_1 mq33_1 mq31_1).binds (ps:=["self"]) (λ_ _ _ _ _ _ us hl=>by obtain⟨_,rfl⟩:=Y.oo hl;rfl),⟨mq34_1,mq35_1,mq36_1⟩,b6 (st:=bw) mq37_1 mq38_1 mq36_1,(b6 (st:=bw) mq37_1 mq38_1 mq36_1).binds (ps:=["self"]) (λ_ _ _ _ _ _ us hl=>by obtain⟨_,rfl⟩:=Y.oo hl;rfl)⟩,uO.mk' X G (pj a4 l4 le_code_of lk_code_of lw_code_of)⟩
 have F4:HasFn K mg "code_of" d8 ["lengths"]:=fo X G a4 l4 c4 k4 (by walk_at "b1")
 refine⟨W.fnOf "law" "law" (bA iI) (aI iI) (af iI) .none kV41 dc41 pm41 an41 cd41 ct41,λs v=>.of_eq rfl,λbase _ _=>(show cg l.prog w K mg base aT 10 _ _ ["script"] (oQ K) from ?_).mono (by decide)⟩
 have dr:=BU (P:=l.prog) (w:=w) (base:=base) T F33 (EA F32);have ca:=yW (P:=l.prog) (w:=w) (base:=base) T F26 (y_ T F6);have lr:=FV (P:=l.prog) (w:=w) (base:=base) T F37 dr (wc T F36 dr);have cs:=yY T F16 (Cg (P:=l.prog) (w:=w) (base:=base) T F4 (EM T F3) (we T F5));have go:=yt (P:=l.prog) (w:=w) (base:=base) T F1;have fg:=Fc (P:=l.prog) (w:=w) (base:=base) T F21;have st:=vb (P:=l.prog) (w:=w) (base:=base) T F13 (FA T F14);have di:=BL (P:=l.prog) (w:=w) (base:=base) T F12;have pk:=Bi T F17 cs (yI T F18 (vV T F15) (sk T F19 fg)) go (vY T F7 (v5 T F8 (vw T F9) (yJ T F10 st (CC T F11 di)))) st (xS T F20 fg) di;exact Ey T (b6 (st:=iI) l41 c41 k41) F39 (Cb T F31) (BH T F35 dr (zq T F34 dr)) (xA T F38 dr) dr lr (B2 T F40 dr) pk go (zg T F22 (vD T F23 go (AG T F2))) (AB T go F24) (Bo T go cs (xN T F25 ca (vL T F27 ca (zm T F28 ca) (wA T F29 ca))) F30)
theorem walk{l:W.OpenLaw}{q:Program}{loose:List Str}{XP:(Str->Option Value)->Heap->Prop}{YP:World->Heap->Prop}{d:DefRec}{K:Params->W.Frag}(hn:l.most=some 63)(hdf:d.params.defaults=[])
  (hY:∀(w:World) (h:Heap),YP w h->(K w.params).In h)
  (F:∀(w:World) (mg:Str->Option Value) (fa:Addr) (h:Heap),(K w.params).In h->h.Ns mainGlobals mg->mg d.name=some (.ref fa)->∃fd:FuncData,(∀(s:Shared) (u:Value),BindsTo s fd ⟨[u],[]⟩ [("script",u)])/\∀base:Heap,(K w.params).In base->base.Ns mainGlobals mg->cg l.prog w (K w.params) mg base aT 30 fa fd ["script"] (oQ (K w.params))) (hL:∀(w:World) (h:Heap),(K w.params).In h->iG q (K w.params)) :
  W.WalkO q loose XP YP l.row.toRowW d [] (λf vs=>PySem.call f vs):=
 L2.Bj (n:=63) (k:=30) (x:="script") (CX:=λ_=>aT) (sp:=λw=>oQ (K w.params)) hn (by decide) hdf ⟨rfl,by decide,by decide,rfl⟩ hY F (λ_ _ a ns hl _ hS=>⟨a,ns,rfl,hS,hl,λ_=>rfl⟩) (λ_ _ _ _ _ z=>z) hL
theorem FQ{q:Program}(_:K.In h){la_code_of lc_code_of lp_code_of:Addr}{lo_code_of lO_code_of:Value}{ld_code_of lD_code_of:Option Addr}{lfd_code_of:FuncData}{lv_code_of:Array Value}{ls_code_of lS_code_of:Array (Option Value)}(nt:W.noTabs K=true)
  (ma_by_worth:W.nsIn K mainGlobals "by_worth"=some none)
  (ma_by_weight:W.nsIn K mainGlobals "by_weight"=some none)
  (ma_code_of:W.nsIn K mainGlobals "code_of"=some (some (.ref la_code_of))) (ml_code_of:K.lookup la_code_of=some ⟨lo_code_of,ld_code_of,.func lfd_code_of,ls_code_of⟩) (mc_code_of:lfd_code_of.code=.ref lc_code_of) (mk_code_of:K.lookup lc_code_of=some ⟨lO_code_of,lD_code_of,.fields lv_code_of,lS_code_of⟩) (mw_code_of:lv_code_of[11]?=some (.ref lp_code_of)) (mr_code_of:((recsOf q).find? (λe=>e.name ==("code_of":Str))).isSome=true)
  : iG q K:=iG.of nt (jT ma_by_worth) (jT ma_by_weight) (pj ma_code_of ml_code_of mc_code_of mk_code_of mw_code_of) (by first|exact mn|simp) (.inl rfl) (.inl rfl) (.inr mr_code_of)
end
end G
open PySem PySem.W PyProof.Rows
local macro_rules | `(tactic| walk_at "b1") => `(tactic| (intro _ _ _ _ _ _ us hl; obtain ⟨_, e⟩ := L2.Y.oo hl; subst e; rfl))
local macro_rules | `(tactic| walk_at "b2") => `(tactic| (intro _ _ _ _ _ _ us hl; obtain ⟨_, _, e⟩ := L2.Y.rf hl; subst e; rfl))
local macro_rules | `(tactic| walk_at "b3") => `(tactic| (intro _ _ _ _ _ _ us hl; obtain ⟨_, _, _, e⟩ := L2.Y.vd hl; subst e; rfl))
local macro_rules | `(tactic| walk_at "b4") => `(tactic| (intro _ _ _ _ _ _ us hl; obtain ⟨_, _, _, _, e⟩ := L2.Y.GH hl; subst e; rfl))
set_option maxRecDepth 100000 in
set_option maxHeartbeats 0 in
theorem PySem.Challenge.cw_shortrows_k41_whole_rows_that_do_nothing_holds : PySem.Challenge.rw_shortrows_k41_whole_rows_that_do_nothing.Holds := by
 w_on;o_law;k_head;(case hw=>w_witness2)
 k_fill
 refine G.walk (l:=PySem.Challenge.rw_shortrows_k41_whole_rows_that_do_nothing) rfl rfl (λw h Y=>by first|exact W.kIn_of Y|exact W.km_in_of Y) ?F ?L
 case F =>
  intro w mg fa h KX GN hmg
  refine' G.all_mk KX GN hmg (G.fo KX GN ?a0 ?l0 ?c0 ?k0 (by walk_at "b1")) (G.fo KX GN ?a1 ?l1 ?c1 ?k1 (by walk_at "b1")) (G.fo KX GN ?a2 ?l2 ?c2 ?k2 (by walk_at "b2")) (G.fo KX GN ?a3 ?l3 ?c3 ?k3 (by walk_at "b1")) ?a4 ?l4 ?c4 ?k4 (G.fo KX GN ?a5 ?l5 ?c5 ?k5 (by walk_at "b2")) (G.fo KX GN ?a6 ?l6 ?c6 ?k6 (by walk_at "b3")) (G.fo KX GN ?a7 ?l7 ?c7 ?k7 (by walk_at "b2")) (G.fo KX GN ?a8 ?l8 ?c8 ?k8 (by walk_at "b2")) (G.fo KX GN ?a9 ?l9 ?c9 ?k9 (by walk_at "b1")) (G.fo KX GN ?a10 ?l10 ?c10 ?k10 (by walk_at "b3")) (G.fo KX GN ?a11 ?l11 ?c11 ?k11 (by walk_at "b4")) (G.fo KX GN ?a12 ?l12 ?c12 ?k12 (by walk_at "b3")) (G.fo KX GN ?a13 ?l13 ?c13 ?k13 (by walk_at "b2")) (G.fo KX GN ?a14 ?l14 ?c14 ?k14 (by walk_at "b1")) (G.fo KX GN ?a15 ?l15 ?c15 ?k15 (by walk_at "b1")) (G.fo KX GN ?a16 ?l16 ?c16 ?k16 (by walk_at "b1")) (G.fo KX GN ?a17 ?l17 ?c17 ?k17 (by walk_at "b2")) (G.fo KX GN ?a18 ?l18 ?c18 ?k18 (by walk_at "b2")) (G.fo KX GN ?a19 ?l19 ?c19 ?k19 (by walk_at "b1")) (G.fo KX GN ?a20 ?l20 ?c20 ?k20 (by walk_at "b2")) (G.fo KX GN ?a21 ?l21 ?c21 ?k21 (by walk_at "b2")) (G.fo KX GN ?a22 ?l22 ?c22 ?k22 (by walk_at "b3")) (G.fo KX GN ?a23 ?l23 ?c23 ?k23 (by walk_at "b3")) (G.fo KX GN ?a24 ?l24 ?c24 ?k24 (by walk_at "b3")) (G.fo KX GN ?a25 ?l25 ?c25 ?k25 (by walk_at "b3")) (G.fo KX GN ?a26 ?l26 ?c26 ?k26 (by walk_at "b3")) (G.fo KX GN ?a27 ?l27 ?c27 ?k27 (by walk_at "b4")) (G.fo KX GN ?a28 ?l28 ?c28 ?k28 (by walk_at "b3")) (G.fo KX GN ?a29 ?l29 ?c29 ?k29 (by walk_at "b2")) (G.fo KX GN ?a30 ?l30 ?c30 ?k30 (by walk_at "b4")) (G.fo KX GN ?a31 ?l31 ?c31 ?k31 (by walk_at "b1")) (G.fo KX GN ?a32 ?l32 ?c32 ?k32 (by walk_at "b2")) (G.fo KX GN ?a33 ?l33 ?c33 ?k33 (by walk_at "b2")) (G.fo KX GN ?a34 ?l34 ?c34 ?k34 (by walk_at "b2")) (G.fo KX GN ?a35 ?l35 ?c35 ?k35 (by walk_at "b1")) (G.fo KX GN ?a36 ?l36 ?c36 ?k36 (by walk_at "b1")) (G.fo KX GN ?a37 ?l37 ?c37 ?k37 (by walk_at "b2")) (G.fo KX GN ?a38 ?l38 ?c38 ?k38 (by walk_at "b1")) (G.fo KX GN ?a39 ?l39 ?c39 ?k39 (by walk_at "b4")) (G.fo KX GN ?a40 ?l40 ?c40 ?k40 (by walk_at "b2")) ?a41 ?l41 ?c41 ?k41 ?z0 ?z1 ?z2 ?z3 ?z4 ?z5 ?z6 ?z7 ?z8 ?z9 ?z10 ?z11 ?z12 ?gq0 ?mq0 ?gq1 ?mq1 ?gq2 ?mq2 ?gq3 ?gq4 ?gq5 ?gq6 ?gq7 ?gq8 ?mq8 ?dg0 ?dz0 ?dl0 ?dm0_0 ?dm0_1 ?dm0_2 ?dm0_3 ?dm0_4 ?dm0_5 ?dm0_6 ?dm0_7 ?dm0_8 ?mq_0 ?mq_1 ?mq_2 ?mq_3 ?mq_4 ?mq_5 ?mq_6 ?mq_7 ?mq_8 ?mq_9 ?mq_10 ?mq_11 ?mq_12 ?mq_13 ?mq_14 ?mq_15 ?mq_16 ?mq_17 ?mq_18 ?mq_19 ?mq_20 ?mq_21 ?mq_22 ?mq_23 ?mq_24 ?mq_25 ?mq_26 ?mq_27 ?mq_28 ?mq_29 ?mq_30 ?mq_31 ?mq_32 ?mq_33 ?mq_34 ?mq_35 ?mq_36 ?mq_37 ?mq_38 ?mq_39 ?mq_40 ?mq_41 ?mq_42 ?mq_43 ?mq_44 ?mq_45 ?mq_0_1 ?mq_1_1 ?mq_2_1 ?mq_3_1 ?mq_4_1 ?mq_5_1 ?mq_6_1 ?mq_7_1 ?mq_8_1 ?mq_9_1 ?mq_10_1 ?mq_11_1 ?mq_12_1 ?mq_13_1 ?mq_14_1 ?mq_15_1 ?mq_16_1 ?mq_17_1 ?mq_18_1 ?mq_19_1 ?mq_20_1 ?mq_21_1 ?mq_22_1 ?mq_23_1 ?mq_24_1 ?mq_25_1 ?mq_26_1 ?mq_27_1 ?mq_28_1 ?mq_29_1 ?mq_30_1 ?mq_31_1 ?mq_32_1 ?mq_33_1 ?mq_34_1 ?mq_35_1 ?mq_36_1 ?mq_37_1 ?mq_38_1 ?le_code_of ?lk_code_of ?lw_code_of
  (case a0|l0|c0|k0|a1|l1|c1|k1|a2|l2|c2|k2|a3|l3|c3|k3|a4|l4|c4|k4|a5|l5|c5|k5|a6|l6|c6|k6|a7|l7|c7|k7|a8|l8|c8|k8|a9|l9|c9|k9|a10|l10|c10|k10|a11|l11|c11|k11|a12|l12|c12|k12|a13|l13|c13|k13|a14|l14|c14|k14|a15|l15|c15|k15|a16|l16|c16|k16|a17|l17|c17|k17|a18|l18|c18|k18|a19|l19|c19|k19|a20|l20|c20|k20|a21|l21|c21|k21|a22|l22|c22|k22|a23|l23|c23|k23|a24|l24|c24|k24|a25|l25|c25|k25|a26|l26|c26|k26|a27|l27|c27|k27|a28|l28|c28|k28|a29|l29|c29|k29|a30|l30|c30|k30|a31|l31|c31|k31|a32|l32|c32|k32|a33|l33|c33|k33|a34|l34|c34|k34|a35|l35|c35|k35|a36|l36|c36|k36|a37|l37|c37|k37|a38|l38|c38|k38|a39|l39|c39|k39|a40|l40|c40|k40|a41|l41|c41|k41|z0|z1|z2|z3|z4|z5|z6|z7|z8|z9|z10|z11|z12|gq0|mq0|gq1|mq1|gq2|mq2|gq3|gq4|gq5|gq6|gq7|gq8|mq8|dg0|dl0|dm0_0|dm0_1|dm0_2|dm0_3|dm0_4|dm0_5|dm0_6|dm0_7|dm0_8=>k_is)
  (case dz0=>rfl)
  (case mq_0|mq_1|mq_2|mq_3|mq_4|mq_5|mq_6|mq_7|mq_8|mq_9|mq_10|mq_11|mq_12|mq_13|mq_14|mq_15|mq_16|mq_17|mq_18|mq_19|mq_20|mq_21|mq_22|mq_23|mq_24|mq_25|mq_26|mq_27|mq_28|mq_29|mq_30|mq_31|mq_32|mq_33|mq_34|mq_35|mq_36|mq_37|mq_38|mq_39|mq_40|mq_41|mq_42|mq_43|mq_44|mq_45|mq_0_1|mq_1_1|mq_2_1|mq_3_1|mq_4_1|mq_5_1|mq_6_1|mq_7_1|mq_8_1|mq_9_1|mq_10_1|mq_11_1|mq_12_1|mq_13_1|mq_14_1|mq_15_1|mq_16_1|mq_17_1|mq_18_1|mq_19_1|mq_20_1|mq_21_1|mq_22_1|mq_23_1|mq_24_1|mq_25_1|mq_26_1|mq_27_1|mq_28_1|mq_29_1|mq_30_1|mq_31_1|mq_32_1|mq_33_1|mq_34_1|mq_35_1|mq_36_1|mq_37_1|mq_38_1=>k_is)
  (case le_code_of=>exact rfl)
  (case lk_code_of=>k_is)
  (case lw_code_of=>exact rfl)
 case L =>
  intro w h KX
  refine' G.FQ KX (by kernel_rfl) ?ma_by_worth ?ma_by_weight ?ma_code_of ?ml_code_of ?mc_code_of ?mk_code_of ?mw_code_of ?mr_code_of
  (case ma_by_worth|ma_by_weight|ma_code_of|ml_code_of=>k_is)
  (case mc_code_of=>exact rfl)
  (case mk_code_of=>k_is)
  (case mw_code_of=>exact rfl)
  (case mr_code_of=>exact rfl)
end
