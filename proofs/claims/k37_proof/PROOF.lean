import PyProof.Rows.All
import Wide.All
import OpenK.AllK
import Wide.FinOn
import Lean
import PyProof.EqAt
import PyProof.EqKinds
import PyProof.TupleCall
import KE.KSortKey
import KE.KLam
import PySem.Challenge.RW_shortrows_k37_whole_longer_runs
namespace PySem.W.Fast
noncomputable def tw9209462638323019729:=0
noncomputable def tw10621072199001474942:=0
noncomputable def tw6367427928310659099:=0
noncomputable def tw9885814389488216809:=0
noncomputable def tw1115995554490517195:=0
noncomputable def tw6807024525325416174:=0
noncomputable def tw15914716065165681507:=0
noncomputable def tw8272302951628689023:=0
noncomputable def tw3614447341483600317:=0
noncomputable def tw17816053140063840208:=0
noncomputable def tw11627868527225257622:=0
noncomputable def tw16481356119237128879:=0
noncomputable def tw14759850644705631987:=0
noncomputable def tw9933279982271673759:=0
noncomputable def tw2867585570063280690:=0
noncomputable def tw8713216389115086249:=0
noncomputable def tw4729072965839668870:=0
noncomputable def tw5001637328597549775:=0
noncomputable def tw16642831305011825242:=0
noncomputable def tw8396610635396806178:=0
noncomputable def tw15799272781138497086:=0
noncomputable def tw13861926466034656314:=0
noncomputable def tw10893972738923684021:=0
noncomputable def tw17354790655461834868:=0
noncomputable def tw1481870850069023453:=0
noncomputable def tw13872183788050848849:=0
noncomputable def tw3917269111001244639:=0
noncomputable def tw14442600079060347730:=0
noncomputable def tw16327922467442765646:=0
noncomputable def tw17149006951919807697:=0
noncomputable def tw6293265661416572665:=0
noncomputable def tw7786547449838999943:=0
noncomputable def tw2893611112957239267:=0
noncomputable def tw9940283727027947985:=0
noncomputable def tw18330646239665915802:=0
noncomputable def tw6368213356075905414:=0
noncomputable def tw13248256648871752124:=0
noncomputable def tw8138669260589122324:=0
noncomputable def tw2051400697428186111:=0
noncomputable def tw5130439914531800147:=0
noncomputable def tw14033362912334618317:=0
noncomputable def tw14351998837064881911:=0
noncomputable def tw16036980787671680657:=0
noncomputable def tw10026725240824414718:=0
noncomputable def tw7690358809273098196:=0
noncomputable def tw9296835863783730122:=0
noncomputable def tw3503978998862355337:=0
noncomputable def tw12267325806779024686:=0
noncomputable def tw6675862194658804469:=0
noncomputable def tw16303920995937015895:=0
noncomputable def tw3033903570886741950:=0
noncomputable def tw376805123949240836:=0
noncomputable def tw14270526788087714559:=0
noncomputable def tw11826129167519588838:=0
noncomputable def tw2627708163815546437:=0
noncomputable def tw7756694217607397230:=0
noncomputable def tw18236107181121517133:=0
noncomputable def tw13707530233521944707:=0
noncomputable def tw9864904620241110589:=0
noncomputable def tw7130493190452655762:=0
noncomputable def tw7458044722472287404:=0
noncomputable def tw3672834691882487785:=0
noncomputable def tw6161153869037364120:=0
noncomputable def tw2968858217560373356:=0
noncomputable def tw13910250194156935560:=0
noncomputable def tw2205208282350416190:=0
noncomputable def tw474674016796716368:=0
noncomputable def tw1454749818301345130:=0
noncomputable def tw11815696100862069935:=0
noncomputable def tw5531779744845346414:=0
noncomputable def tw17949312068582496647:=0
noncomputable def tw5703680459802588085:=0
noncomputable def tw8378047677915149751:=0
noncomputable def tw4060788684352496369:=0
noncomputable def tw15807526540688780414:=0
noncomputable def tw12283006170976758325:=0
noncomputable def tw17733833463109906791:=0
noncomputable def tw15712547626425215823:=0
noncomputable def tw5017939231931813087:=0
noncomputable def tw291366890893143854:=0
noncomputable def tw14072803603338468888:=0
noncomputable def tw17368405768892730210:=0
noncomputable def tw3910575849764398029:=0
noncomputable def tw5188071941569960460:=0
noncomputable def tw1385100107213882430:=0
noncomputable def tw17041221501160084219:=0
noncomputable def tw14737516614521951995:=0
noncomputable def tw15987198783050313193:=0
noncomputable def tw8731200752745355046:=0
noncomputable def tw10118600892178735867:=0
noncomputable def tw2913409020630024547:=0
noncomputable def tw15677527816757270608:=0
noncomputable def tw13215651291846668605:=0
noncomputable def tw4747388187086607918:=0
noncomputable def tw10254544858643751776:=0
noncomputable def tw11244556062280580183:=0
noncomputable def tw8620386358087501469:=0
noncomputable def tw5517222484479947090:=0
noncomputable def tw13517016732892043522:=0
noncomputable def tw17809243998391019662:=0
noncomputable def tw14139399392274489664:=0
noncomputable def tw16266802147084904015:=0
noncomputable def tw6236801018558550692:=0
noncomputable def tw13875715115995671663:=0
noncomputable def tw16083825520147108039:=0
noncomputable def tw2518320612473642595:=0
noncomputable def tw5160563298354220205:=0
noncomputable def tw12836232781532695654:=0
noncomputable def tw10401407477496845388:=0
noncomputable def tw8050156669468870825:=0
noncomputable def tw3971399536594166947:=0
noncomputable def tw5899128769977783833:=0
noncomputable def tw12979059964547343713:=0
noncomputable def tw9605842281121480136:=0
noncomputable def tw15898288448507299789:=0
noncomputable def tw619497478045245190:=0
noncomputable def tw10384683833318534662:=0
noncomputable def tw7517992892860338781:=0
noncomputable def tw13800981587853040438:=0
noncomputable def tw13207285721001457625:=0
noncomputable def tw16866674365973699991:=0
noncomputable def tw12832138969459979761:=0
noncomputable def tw2062506486119679677:=0
noncomputable def tw3608840904046851979:=0
noncomputable def tw4831543238795221298:=0
noncomputable def tw15081276846935430385:=0
noncomputable def tw16283919319413071754:=0
noncomputable def tw18358503733248047364:=0
noncomputable def tw2426819386891030793:=0
noncomputable def tw17350468504073009063:=0
noncomputable def tw3010590738423846020:=0
noncomputable def tw4831364448387232314:=0
noncomputable def tw3088609944558478728:=0
noncomputable def tw2128060953627303508:=0
noncomputable def tw10848591324185032067:=0
noncomputable def tw2896309131826010614:=0
noncomputable def tw7836130483149629872:=0
noncomputable def tw825955964182199012:=0
noncomputable def tw15291627678680516085:=0
noncomputable def tw13403858745311211296:=0
noncomputable def tw3219010503423981495:=0
noncomputable def tw2048168783321529605:=0
noncomputable def tw15570160131807469391:=0
noncomputable def tw10926326863941783359:=0
noncomputable def tw14160276491943097155:=0
noncomputable def tw12792260871542906461:=0
noncomputable def tw6450742543161683919:=0
noncomputable def tw11909052485643117522:=0
noncomputable def tw16608861484660244539:=0
noncomputable def tw3601337301480788642:=0
noncomputable def tw13867537087224345327:=0
noncomputable def tw11975370853443222959:=0
noncomputable def tw15348534463968556447:=0
noncomputable def tw4333149402698212569:=0
noncomputable def tw15119855763620426012:=0
noncomputable def tw7663145692484461795:=0
noncomputable def tw16045113582303667817:=0
end PySem.W.Fast
set_option Elab.async false
set_option linter.all false
set_option maxRecDepth 100000
set_option maxHeartbeats 4000000
noncomputable section
set_option compiler.extract_closed false
theorem ℜz0(_:True:=by rfl):True:=⟨⟩
def ℜ0:Lean.Syntax:=ℜz0._auto_1
theorem ℜz1(_:True:=by decide):True:=⟨⟩
def ℜ1:Lean.Syntax:=ℜz1._auto_1
theorem ℜz2(_:True:=by first|exact .inl rfl|exact .inr rfl|assumption):True:=⟨⟩
def ℜ2:Lean.Syntax:=ℜz2._auto_1
theorem ℜz3(_:True:=by intro _;rfl):True:=⟨⟩
def ℜ3:Lean.Syntax:=ℜz3._auto_1
theorem ℜz4(_:True:=by first|exact Or.inl rfl|exact Or.inr (Or.inl rfl)|exact Or.inr (Or.inr rfl)):True:=⟨⟩
def ℜ4:Lean.Syntax:=ℜz4._auto_1
theorem ℜz5(_:True:=by with_unfolding_all rfl):True:=⟨⟩
def ℜ5:Lean.Syntax:=ℜz5._auto_1
theorem ℜz6(_:True:=by decide +kernel):True:=⟨⟩
def ℜ6:Lean.Syntax:=ℜz6._auto_1
namespace L2
open PySem PySem.Spec PyProof.Rows
variable{us:List Value}{x:Str}{u:Value}{C a b:Addr}{base h:Heap}{items:Array Value}{P:Program}{w:World}{g':Array GenState}{ch fp:List Addr}{e tg:Expr}{N:List Str}{i j k:Nat}{M:Model}{E Q:Value->Shared->Prop}{s':Shared}{pins:List (Addr×Obj)}{f:Value->Value->Sem Value}{es:List Expr}{g:Int->Int->Int}{body:List Stmt}{pl:Sem Bool}{mA mg:Str->Option Value}{kw:List (Str×Value)}{fd:FuncData}{outer:List Env}{kindOf:Str->Option NameKind}{scope:Scope}
noncomputable def IJ:=@List.getElem?_eq_getElem
noncomputable def IK:=@PySem.wpAny_bind
noncomputable def IL:=@List.length_append
noncomputable def IM:=@PySem.Heap.get?_push_of_some
noncomputable def IP:=@List.length_map
noncomputable def IQ:=@List.getElem?_eq_some_iff
noncomputable def IS:=@List.size_toArray
noncomputable def IT:=@if_neg
noncomputable def IU:=@Nat.le_refl
noncomputable def IV:=@List.mem_cons_of_mem
noncomputable def IW:=@if_pos
noncomputable def IX:=@List.mem_cons
noncomputable def IY:=@Nat.le_trans
noncomputable def IZ:=@List.mem_cons_self
noncomputable def I_:=@List.getElem?_map
noncomputable def Ja:=@PySem.wpAny_pure
noncomputable def Jb:=@Bool.false_ne_true
noncomputable def Jc:=@List.getD_eq_getElem?_getD
noncomputable def Jd:=@List.length_cons
noncomputable def Je:=@List.length_replicate
noncomputable def Jf:=@PySem.Heap.get?_push_size
noncomputable def Jg:=@List.mem_singleton
noncomputable def Jh:=@PySem.Heap.lt_size
noncomputable def Ji:=@List.getElem_mem
noncomputable def Jj:=@Nat.zero_le
noncomputable def Jk:=@List.getElem?_append_right
noncomputable def Jl:=@List.append_assoc
noncomputable def Jm:=@List.map_append
noncomputable def Jn:=@List.length_take
noncomputable def Jo:=@List.mem_append_right
noncomputable def Jp:=@Option.map_eq_some_iff
noncomputable def Jq:=@decide_eq_false
noncomputable def Jr:=@Nat.ne_of_lt
noncomputable def Js:=@List.not_mem_nil
noncomputable def Jt:=@decide_eq_true
noncomputable def Ju:=@Nat.lt_of_lt_of_le
noncomputable def Jv:=@beq_eq_false_iff_ne
noncomputable def Jw:=@Int.toNat_natCast
noncomputable def Jx:=@List.getElem?_append_left
noncomputable def Jy:=@List.map_cons
noncomputable def Jz:=@Array.getElem?_toList
noncomputable def J5:=@List.pairwise_cons
noncomputable def J6:=@PySem.PassesOwn.never
noncomputable def J7:=@List.getElem?_eq_none_iff
noncomputable def J8:=@Array.length_toList
noncomputable def J9:=@List.replicate_succ
noncomputable def JA:=@List.length_range
noncomputable def JC:=@List.length_drop
noncomputable def JD:=@List.mem_map
noncomputable def JE:=@List.append_nil
noncomputable def JF:=@List.mem_of_getElem?
noncomputable def JG:=@List.mem_append
noncomputable def JH:=@congrArg
noncomputable def JI:=@List.lookup_cons
noncomputable def JJ:=@of_decide_eq_true
noncomputable def JK:=@List.drop_eq_getElem_cons
noncomputable def JL:=@Nat.lt_or_ge
noncomputable def JM:=@PySem.wpAny_callSpecial?_slot
noncomputable def JN:=@PySem.wpAny_holding
noncomputable def JO:=@PySem.wpAny_mono
noncomputable def JP:=@Nat.sub_self
noncomputable def JQ:=@Bool.and_eq_true
noncomputable def JR:=@List.take_of_length_le
noncomputable def JS:=@PySem.wpAny_call_entry
noncomputable def JT:=@or_false
noncomputable def JU:=@Nat.lt_of_le_of_lt
noncomputable def JV:=@List.mem_replicate
noncomputable def JW:=@beq_self_eq_true
noncomputable def JX:=@List.pairwise_append
noncomputable def JY:=@PySem.Heap.size_push
noncomputable def JZ:=@PySem.Heap.SameBut.update
noncomputable def J_:=@List.nil_append
noncomputable def Ka:=@List.length_nil
noncomputable def Kb:=@List.mem_or_eq_of_mem_set
noncomputable def Kc:=@List.getElem?_drop
noncomputable def Ke:=@List.take_length
noncomputable def Kf:=@Nat.lt_irrefl
noncomputable def Kg:=@PySem.sizeLine_eq
noncomputable def Kh:=@Nat.le_succ
noncomputable def Ki:=@List.mem_range
noncomputable def Kj:=@List.drop_zero
noncomputable def Kk:=@List.length_eq_zero_iff
noncomputable def Kl:=@List.flatten_cons
noncomputable def Km:=@PySem.wpAny_newObj_type
noncomputable def Kn:=@Nat.le_succ_of_le
noncomputable def Ko:=@List.nodup_cons
noncomputable def Kp:=@Ne.symm
noncomputable def Kq:=@List.all_eq_true
noncomputable def Ks:=@List.cons_append
noncomputable def Kt:=@PyProof.Rows.slot_tuple_getitem
noncomputable def Ku:=@List.mem_append_left
noncomputable def Kv:=@Nat.ne_of_gt
noncomputable def Kw:=@PySem.call_meets
noncomputable def Kx:=@Nat.min_self
noncomputable def Ky:=@List.all_cons
noncomputable def Kz:=@PySem.wpAny_typeNameOfWhole_keyiter
noncomputable def K0:=@List.mem_map_of_mem
noncomputable def K1:=@List.mem_reverse
noncomputable def K2:=@Nat.le_of_lt
noncomputable def K4:=@PyProof.Rows.callWith_type1
noncomputable def K6:=@PySem.wpAny_Call_Name_kw
noncomputable def K7:=@Bool.false_eq_true
noncomputable def K8:=@List.map_replicate
noncomputable def K9:=@PySem.wpAny_passesOwn
noncomputable def KA:=@List.length_set
noncomputable def KC:=@List.find?_cons
noncomputable def KD:=@List.getElem?_toArray
noncomputable def KG:=@PySem.F.slot_tuple_iterator_next
noncomputable def KH:=@Array.getElem?_eq_some_iff
noncomputable def KI:=@List.ext_getElem?
noncomputable def KJ:=@List.pairwise_map
noncomputable def KL:=@PySem.wpAny_binaryOp_repeat_ref
noncomputable def KN:=@List.pairwise_iff_getElem
noncomputable def KO:=@List.take_succ
noncomputable def KP:=@if_false
noncomputable def KQ:=@decide_eq_decide
noncomputable def KR:=@PySem.F.slot_list_getattribute
noncomputable def KU:=@List.ext_getElem
noncomputable def KW:=@List.map_map
noncomputable def KY:=@PySem.wpAny_typeNameOf_keyiter
noncomputable def KZ:=@List.drop_length
noncomputable def K_:=@List.getElem?_range
noncomputable def La:=@List.length_reverse
noncomputable def Lb:=@Array.toList_append
noncomputable def Lc:=@List.prefix_of_prefix_length_le
noncomputable def Ld:=@PySem.wpAny_getItem_str_slice
noncomputable def Le:=@Option.bind_eq_some_iff
noncomputable def Lf:=@Bool.eq_iff_iff
noncomputable def Lg:=@PySem.typeIs_int
noncomputable def Lh:=@PySem.wpAny_pyIter_tuple
noncomputable def Li:=@PySem.codeAny_builtin
noncomputable def Lj:=@List.getElem?_take
noncomputable def Lk:=@List.prefix_append
noncomputable def Ll:=@Int.emod_nonneg
noncomputable def Lm:=@Int.emod_lt_of_pos
noncomputable def Ln:=@List.getElem?_set_self
noncomputable def Lo:=@PySem.wpAny_field
noncomputable def Lp:=@List.getElem_cons_zero
noncomputable def Lq:=@PySem.wpAny_truthy_bool
noncomputable def Lr:=@Nat.lt_succ_of_lt
noncomputable def Ls:=@decide_eq_true_eq
noncomputable def Lu:=@List.flatMap_cons
noncomputable def Lv:=@PySem.Heap.get?_update_self
noncomputable def Lw:=@List.length_singleton
noncomputable def Ly:=@PySem.wpAny_seqItems
noncomputable def Lz:=@Nat.zero_add
noncomputable def L0:=@List.eq_nil_or_concat
noncomputable def L3:=@List.take_append_drop
noncomputable def L4:=@List.map_set
noncomputable def L5:=@beq_iff_eq
noncomputable def L6:=@List.range'_succ
noncomputable def L7:=@PySem.Around.under_plainId
noncomputable def L8:=@List.getElem?_append
noncomputable def L9:=@List.reverse_reverse
noncomputable def LA:=@Array.toArray_toList
noncomputable def LC:=@List.prefix_refl
noncomputable def LD:=@Option.bind_some
noncomputable def LF:=@PySem.wpAny_newList
noncomputable def LG:=@Nat.mul_assoc
noncomputable def LH:=@List.dropWhile_cons
noncomputable def LI:=@PyProof.Rows.get?_update_seq
noncomputable def LJ:=@PySem.W.KasT.kasWp_bind
noncomputable def LK:=@Nat.not_lt_zero
noncomputable def LL:=@List.mem_filterMap
noncomputable def LM:=@List.map_nil
noncomputable def LN:=@Nat.succ_mul
noncomputable def LO:=@Nat.lt_trans
noncomputable def LP:=@PySem.Obj.data_mapFields
noncomputable def LQ:=@PySem.AutoSeq1.wpAny_loadPart'
noncomputable def LR:=@List.set_cons_zero
noncomputable def LS:=@PySem.wpAny_setField_rec
noncomputable def LU:=@Nat.add_sub_cancel
noncomputable def LV:=@Nat.eq_zero_or_pos
noncomputable def LW:=@List.take_left
noncomputable def LX:=@List.getElem?_replicate
noncomputable def LY:=@PySem.SeqAt.eq_list_lengthsAt
noncomputable def LZ:=@PySem.wpAny_pyIter_list
noncomputable def L_:=@PySem.wpAny_dictEntries
noncomputable def Ma:=@Int.emod_eq_of_lt
noncomputable def Mb:=@PySem.Heap.get?_update_other
noncomputable def Mc:=@Int.le_refl
noncomputable def Md:=@List.pairwise_lt_range
noncomputable def Me:=@List.dropWhile_sublist
noncomputable def Mf:=@List.any_cons
noncomputable def Mg:=@PyProof.Rows.listUpdate_at
noncomputable def Mh:=@Bool.and_true
noncomputable def Mi:=@PySem.wpAny_attempt
noncomputable def Mj:=@Nat.add_assoc
noncomputable def Ml:=@Nat.lt_succ_self
noncomputable def Mm:=@Nat.succ_le_succ
noncomputable def Mn:=@List.take_succ_eq_append_getElem
noncomputable def Mo:=@if_true
noncomputable def Mp:=@List.pairwise_reverse
noncomputable def Mq:=@List.mem_iff_getElem?
noncomputable def Mr:=@PySem.wpAny_isOneOf_keyiter
noncomputable def Ms:=@List.set_append_right
noncomputable def Mt:=@List.concat_eq_append
noncomputable def Mv:=@Int.emod_add_mul_ediv
noncomputable def Mw:=@List.eraseIdx_eq_take_drop_succ
noncomputable def Mx:=@List.getElem?_set_ne
noncomputable def My:=@PySem.wpAny_execs_nil
noncomputable def Mz:=@List.foldl_cons
noncomputable def M0:=@List.forIn_cons
noncomputable def M6:=@PySem.wpAny_typeOf
noncomputable def M7:=@PyProof.Rows.listItems_at
noncomputable def M8:=@List.range_succ
noncomputable def M9:=@Nat.sub_zero
noncomputable def MB:=@PySem.post_val_or_str
noncomputable def MC:=@List.range_eq_range'
noncomputable def MD:=@List.length_zip
noncomputable def ME:=@Nat.pow_succ
noncomputable def MG:=@Nat.pow_le_pow_right
noncomputable def MH:=@List.mem_iff_getElem
noncomputable def MI:=@List.drop_append_of_le_length
noncomputable def MJ:=@List.filterMap_cons
noncomputable def MK:=@List.takeWhile_cons
noncomputable def ML:=@List.reverse_append
noncomputable def MM:=@List.toList_toArray
noncomputable def MN:=@List.length_pos_iff
noncomputable def MO:=@List.map_eq_nil_iff
noncomputable def MP:=@Bool.false_and
noncomputable def MQ:=@PySem.F.args_tuple_iterator_next_1
noncomputable def MR:=@PySem.wpAny_setField
noncomputable def MT:=@Bool.and_false
noncomputable def MU:=@PySem.wpAny_fieldsOf
noncomputable def MV:=@PySem.wpAny_ite_true
noncomputable def MW:=@Int.pow_pos
noncomputable def MX:=@Array.append_empty
noncomputable def MY:=@PySem.F.entry_tuple_iterator_next
noncomputable def MZ:=@PySem.SeqAt.EqAt.of_refs
noncomputable def M_:=@Array.getD_eq_getD_getElem?
noncomputable def Na:=@Int.natAbs_natCast
noncomputable def Nb:=@PySem.Calls.Name_function_global
noncomputable def Nc:=@PySem.wpAny_standAt
noncomputable def Nd:=@PySem.SeqAt.RcNeAt.lists_lengths
noncomputable def Nf:=@List.map_take
noncomputable def Ng:=@bne_self_eq_false
noncomputable def Nh:=@PySem.wpAny_rule
noncomputable def Ni:=@bne_iff_ne
noncomputable def Nj:=@PySem.Calls.call_function_entry
noncomputable def Nk:=@List.extract_eq_take_drop
noncomputable def Nl:=@List.exists_mem_of_ne_nil
noncomputable def Nm:=@Nat.not_lt
noncomputable def Nn:=@Array.getElem?_eq_getElem
noncomputable def Np:=@PySem.wpAny_eqBool_int
noncomputable def Nq:=@Nat.le_of_eq
noncomputable def Nr:=@Option.isSome_iff_exists
noncomputable def Nt:=@List.getElem?_take_of_lt
noncomputable def Nu:=@PySem.wpAny_comprehension_free
noncomputable def Nv:=@PySem.Heap.size_update
noncomputable def Nw:=@Array.toList_inj
noncomputable def Nx:=@List.Pairwise.imp_of_mem
noncomputable def Ny:=@List.perm_middle
noncomputable def Nz:=@List.map_snd_zip
noncomputable def N0:=@List.Perm.eq_of_pairwise
noncomputable def N1:=@List.zipIdx_cons
noncomputable def N2:=@List.length_tail
noncomputable def N3:=@Int.pow_succ
noncomputable def N4:=@List.getElem?_cons_succ
noncomputable def N5:=@List.pairwise_singleton
noncomputable def N6:=@Nat.add_sub_cancel_left
noncomputable def N7:=@List.of_mem_zip
noncomputable def N8:=@PySem.wpAny_loadPart'
noncomputable def N9:=@PySem.SeqAt.eq_listAt
noncomputable def NB:=@PySem.wpAny_dictEpoch
noncomputable def NC:=@Nat.min_eq_left
noncomputable def ND:=@PySem.wpAny_pyNext_list_item
noncomputable def NG:=@PySem.Calls.callWith_builtin
noncomputable def NH:=@List.length_eq_one_iff
noncomputable def NI:=@Int.le_ediv_iff_mul_le
noncomputable def NJ:=@Array.getElem?_eq_none
noncomputable def NK:=@Nat.lt_of_succ_lt_succ
noncomputable def NL:=@Int.sub_mul
noncomputable def NM:=@Nat.pow_add
noncomputable def NO:=@PySem.fitsIndex_both
noncomputable def NS:=@List.drop_left
noncomputable def NU:=@PySem.wpAny_newTuple
noncomputable def NV:=@List.countP_mono_left
noncomputable def NW:=@List.singleton_append
noncomputable def NX:=@PySem.typeIs_str
noncomputable def NY:=@PySem.plainId_quiet
noncomputable def NZ:=@Int.mul_assoc
noncomputable def N_:=@Bool.not_true
noncomputable def Oa:=@List.sum_cons
noncomputable def Ob:=@PySem.codeAny_mono
noncomputable def Oc:=@PySem.seqIndex_neg
noncomputable def Od:=@PySem.callType_new
abbrev Og:=PySem.W.Frag
variable{K:Og}
abbrev Key:=Sum Int Str
noncomputable def ip:Key->Value->Bool
 |.inl k,v=>Value.isInt k v
 |.inr x,v=>Value.isStrOf x v
noncomputable def HM(w:World):Key->Int
 |.inl k=>hashInt k
 |.inr x=>hashStr w x
theorem bL:∀{k:Key} {v:Value},ip k v=true->(∃i t,k=Sum.inl i/\v=Value.int i t)\/(∃x t,k=Sum.inr x/\v=Value.str x t)
 |.inl i,v,h=>by
  obtain⟨t,e⟩:=Value.isInt_shape (k:=i) (v:=v) h;exact .inl ⟨i,t,rfl,e⟩
 |.inr x,v,h=>by
  obtain⟨t,e⟩:=Value.isStrOf_shape (x:=x) (v:=v) h;exact .inr ⟨x,t,rfl,e⟩
theorem uw(i:Int)(t:Tok):ip (.inl i) (.int i t)=true:=by simp[ip,Value.isInt]
theorem uZ(x:Str)(t:Tok):ip (.inr x) (.str x t)=true:=by simp[ip,Value.isStrOf]
theorem E4(a b:Int):decide ((Sum.inl a:Key)=Sum.inl b)=(a == b):=by
 by_cases e:a=b
 ·subst e;simp
 ·have h:¬ (Sum.inl a:Key)=Sum.inl b:=λq=>e (Sum.inl.inj q);rw[Jq h];exact (Jv.mpr e).symm
theorem EI(a b:Str):decide ((Sum.inr a:Key)=Sum.inr b)=decide (a=b):=by
 by_cases e:a=b
 ·subst e;simp
 ·have h:¬ (Sum.inr a:Key)=Sum.inr b:=λq=>e (Sum.inr.inj q);rw[Jq h,Jq e]
theorem Du(a:Int)(b:Str):decide ((Sum.inl a:Key)=Sum.inr b)=false:=Jq (λq=>nomatch q)
theorem Et(a:Str)(b:Int):decide ((Sum.inr a:Key)=Sum.inl b)=false:=Jq (λq=>nomatch q)
noncomputable def bZ(prog:Program)(w:World):PySem.KeyKind prog w Key where
 is:=ip
 hash:=HM w
 inj:=λv a b ha hb=>by
  rcases bL ha with ⟨i,t,rfl,rfl⟩|⟨x,t,rfl,rfl⟩
  ·rcases bL hb with ⟨j,u,rfl,e⟩|⟨y,u,rfl,e⟩
   ·injection e with e1 _;rw[e1]
   ·exact nomatch e
  ·rcases bL hb with ⟨j,u,rfl,e⟩|⟨y,u,rfl,e⟩
   ·exact nomatch e
   ·injection e with e1 _;rw[e1]
 byValue:=λk v h=>by
  rcases bL h with ⟨i,t,rfl,rfl⟩|⟨x,t,rfl,rfl⟩<;>rfl
 pyHash:=λhv h=>by
  rcases bL hv with ⟨i,t,rfl,rfl⟩|⟨x,t,rfl,rfl⟩
  ·exact wpAny_pyHash_int h
  ·exact wpAny_pyHash_str h
 eqBool:=λhu hv h=>by
  rcases bL hu with ⟨i,t,rfl,rfl⟩|⟨x,t,rfl,rfl⟩
  ·rcases bL hv with ⟨j,u,rfl,rfl⟩|⟨y,u,rfl,rfl⟩
   ·rw[E4] at h;exact Np h
   ·rw[Du] at h;exact SeqAt.EqAt.int_str i t y u _ _ _ _ h
  ·rcases bL hv with ⟨j,u,rfl,rfl⟩|⟨y,u,rfl,rfl⟩
   ·rw[Et] at h;exact SeqAt.EqAt.str_int x t j u _ _ _ _ h
   ·rw[EI] at h;exact wpAny_eqBool_str h
 «strs»:=λk x t v h=>by
  rcases bL h with ⟨i,u,rfl,e⟩|⟨y,u,rfl,e⟩
  ·exact nomatch e
  ·injection e with e1 _
   subst e1
   cases v<;>rfl
theorem nW(prog:Program)(w:World)(i:Int)(t:Tok):(bZ prog w).is (.inl i) (.int i t)=true:=uw i t
theorem pH(prog:Program)(w:World)(x:Str)(t:Tok):(bZ prog w).is (.inr x) (.str x t)=true:=uZ x t
inductive V where
 |aT|bl (b:Bool)|int (i:Int)|str (x:Str)|qf (b:Array UInt8)|EM (b:UInt64)|ref (a:Addr)|ty (n:String)
 deriving DecidableEq
variable{xs:List V}
noncomputable def RelV:V->Value->Prop
 |.aT,u=>u=Value.none
 |.bl b,u=>u=Value.bool b
 |.int i,u=>∃t,u=Value.int i t
 |.str x,u=>∃t,u=Value.str x t
 |.qf b,u=>∃t,u=Value.bytes b t
 |.EM b,u=>∃t,u=Value.float b t
 |.ref a,u=>u=Value.ref a
 |.ty n,u=>u=Value.type n
abbrev Vals:List V->List Value->Prop:=Paired RelV
theorem Vals.length(r:Vals xs us):xs.length=us.length:=Paired.length r
theorem Vals.get:∀{xs:List V} {us:List Value} {i:Nat} {x:V},Vals xs us->xs[i]?=some x->∃u,us[i]?=some u/\RelV x u
 |_,_,_,_,.nil,e=>by simp at e
 |_,_,0,_,.cons r _,e=>by simp at e;subst e;exact⟨_,rfl,r⟩
 |_,_,i+1,x,.cons _ t,e=>by
  obtain⟨u,h1,h2⟩:=Vals.get (i:=i) (x:=x) t (by simpa using e)
  exact⟨u,by simpa using h1,h2⟩
theorem Vals.set{x:V}(r:RelV x u):∀{xs:List V} {us:List Value} (i:Nat),Vals xs us->Vals (xs.set i x) (us.set i u)
 |_,_,_,.nil=>.nil
 |_,_,0,.cons _ t=>.cons r t
 |_,_,i+1,.cons q t=>.cons q (Vals.set r i t)
theorem Vals.append:∀{xs ys:List V} {us ws:List Value},Vals xs us->Vals ys ws->Vals (xs++ys) (us++ws)
 |_,_,_,_,.nil,s=>s
 |_,_,_,_,.cons r t,s=>.cons r (Vals.append t s)
theorem Vals.take:∀{xs:List V} {us:List Value} (n:Nat),Vals xs us->Vals (xs.take n) (us.take n)
 |_,_,0,_=>.nil
 |_,_,_+1,.nil=>.nil
 |_,_,n+1,.cons r t=>.cons r (Vals.take n t)
theorem Vals.drop:∀{xs:List V} {us:List Value} (n:Nat),Vals xs us->Vals (xs.drop n) (us.drop n)
 |_,_,0,r=>r
 |_,_,_+1,.nil=>.nil
 |_,_,n+1,.cons _ t=>Vals.drop n t
noncomputable def gH:Option V->Option Value->Prop
 |some v,some u=>RelV v u
 |none,none=>True
 |_,_=>False
noncomputable def KV{κ:Type}:List (κ×V)->List (κ×Value)->Prop:=Paired λ(p:κ×V) (q:κ×Value)=>p.1=q.1/\RelV p.2 q.2
noncomputable def kV:Key->V
 |.inl i=>.int i
 |.inr x=>.str x
inductive HO where
 |lst (xs:List V)
 |tup (xs:List V)
 |dK (kvs:List (Key×V))|dT (kvs:List (List Key×V))
 |set (S:Int->Bool) (n:Nat)
 |ins (C dx:Addr) (fs:List (Str×V))
 |own (x:Addr)
 |xd (fs:List (Str×V))
 |met (f x:Addr)
 |ml (lo hi:Int)
 |iY (o:Obj) (u:HO)
 |xt (ps:Array Value)
 |ext (φ:Heap->Prop)
variable{o:HO}
abbrev Hp:=Addr->Option HO
variable{H:Hp}
noncomputable def upd(H:Hp)(a:Addr)(o:HO):Hp:=λb=>if b=a then some o else H b
theorem aa:upd H a o a=some o:=by unfold upd;rw[IW rfl]
theorem af(h:b≠a):upd H a o b=H b:=by unfold upd;rw[IT h]
theorem mH{u:HO}:upd (upd H a o) a u=upd H a u:=by
 funext b;unfold upd;split<;>rfl
theorem FD{u:HO}(h:H a=some o)(h':H b=some u)(d:o≠u):a≠b:=by
 intro e;subst e;rw[h] at h';exact d (Option.some.inj h')
theorem ao(h:H a=some o)(h':H b=none):a≠b:=by
 intro e;subst e;rw[h] at h';cases h'
noncomputable def HI:List Value->Str
 |.str q _::_=>q
 |_=>Str.ofString ""
noncomputable def yg(ps:Array Value):Str:=HI ps.toList
noncomputable def Ck(H:Hp)(q:Str)(cv:Value):Prop:=∃(c:Addr) (oc:Obj) (vs:Array Value) (t:Tok),cv=.ref c/\H c=some (.iY oc (.own c))/\oc.data=.fields vs/\vs[1]?=some (.str q t)
noncomputable def d7(h:Heap)(a:Addr)(items:Array Value):Prop:=∃o:Obj,h.get? a=some o/\o.cls=.type "tuple"/\∃n,o.data=.seq items n/\o.dict=none
theorem d7.to(x:d7 h a items):IsTup h a items:=let ⟨o,e,c,n,d,_⟩:=x;⟨o,e,c,n,d⟩
theorem d7.new(h:Heap)(items:Array Value):d7 (h.push {cls:=.type "tuple",data:=.seq items}) h.objs.size items:=⟨_,Jf h rfl,rfl,_,rfl,rfl⟩
theorem d7.lt(x:d7 h a items):a<h.objs.size:=x.to.lt
section
variable (P:Program) (w:World)
noncomputable def b6(H:Hp)(h:Heap)(a:Addr):HO->Prop
 |.lst xs=>xs.length<=sizeLine/\∃(its:List Value) (n:Nat),Vals xs its/\h.get? a=some {cls:=.type "list",data:=.seq its.toArray n}
 |.tup xs=>xs.length<=sizeLine/\∃its:List Value,Vals xs its/\d7 h a its.toArray
 |.dK kvs=>kvs.length<=sizeLine/\(a == sysModules)=false/\∃vs,KV kvs vs/\h.DictOf (bZ P w) a vs
 |.dT kvs=>kvs.length<=sizeLine/\(a == sysModules)=false/\∃xs:List (List Key×Addr×Value),
   Paired (λ(p:List Key×V) (q:List Key×Addr×Value)=>p.1=q.1/\H q.2.1=some (.tup (p.1.map kV))/\RelV p.2 q.2.2) kvs xs /\
   ∃o es ep,h.get? a=some o/\o.ExactDict/\o.data=.dict es ep/\es.toList=xs.map (entryOfKey (tupleKind (bZ P w)))/\(xs.map (·.1)).Nodup
 |.set S n=>h.SetOf (intKind P w) a S n
 |.ins C dx fs=>H dx=some (.own a)/\fs.length<=1000/\dx≠a/\h.get? a=some (PySem.W.instObj C dx) /\
   ∃mA,h.Ns1 dx mA/\(∀f,gH (fs.lookup f) (mA f))/\PySem.Within mA (fs.map (·.1))
 |.own _=>∃o,h.get? a=some o
 |.xd fs=>∃mA,h.Ns1 a mA/\∀f,gH (fs.lookup f) (mA f)
 |.ml lo hi=>∃t u v,h.get? a=some {cls:=.type "range",data:=.fields #[.int lo t,.int hi u,.int 1 v]}
 |.iY o u=>h.get? a=some o/\b6 H h a u
 |.xt ps=>∃qs:Array Value,h.get? a=some {cls:=.none,data:=.fields qs}/\TriplesOk qs.toList/\∀pos cv,codeAmong pos qs.toList=some cv->Ck H (yg ps) cv
 |.met f x=>h.get? a=some (PySem.W.methodObj (.ref f) (.ref x))
 |.ext φ=>φ h/\(∃o,h.get? a=some o)/\∀h1 h2:Heap,φ h1->(∀o,h1.get? a=some o->h2.get? a=some o)->φ h2
noncomputable def ia(H:Hp)(h:Heap):Prop:=∀a o,H a=some o->b6 P w H h a o
end
section
variable {P:Program} {w:World} {H H':Hp} {h h':Heap} {a:Addr} {o:HO}
theorem b6.lt(x:b6 P w H h a o):a<h.objs.size:=by
 cases o with
 |lst xs=>obtain⟨_,_,_,_,e⟩:=x;exact Jh e
 |tup xs=>obtain⟨_,_,_,p⟩:=x;exact p.lt
 |dK kvs=>obtain⟨_,_,_,_,o,_,_,e,_⟩:=x;exact Jh e
 |dT kvs=>obtain⟨_,_,_,_,o,_,_,e,_⟩:=x;exact Jh e
 |set S n=>obtain⟨o,_,_,_,e,_⟩:=x;exact Jh e
 |ins C dx fs=>obtain⟨_,_,_,e,_⟩:=x;exact Jh e
 |own y=>obtain⟨_,e⟩:=x;exact Jh e
 |xd fs=>obtain⟨_,⟨_,_,_,e,_⟩,_⟩:=x;exact Jh e
 |ml lo hi=>obtain⟨_,_,_,e⟩:=x;exact Jh e
 |iY ob u=>obtain⟨e,_⟩:=x;exact Jh e
 |xt ps=>obtain⟨_,e,_⟩:=x;exact Jh e
 |met f y=>exact Jh (show h.get? a=some _ from x)
 |ext φ=>obtain⟨_,⟨_,e⟩,_⟩:=x;exact Jh e
theorem Paired.we{α β:Type}{F G:α->β->Prop}:∀{l₁:List α} {l₂:List β},Paired F l₁ l₂->(∀a b,F a b->G a b)->Paired G l₁ l₂
 |_,_,.nil,_=>.nil
 |_,_,.cons r t,f=>.cons (f _ _ r) (Paired.we t f)
theorem b6.mU(x:b6 P w H h a o)(k:∀b u,(b=a\/H b=some (.own a))->h.get? b=some u->h'.get? b=some u)
  (ho:∀b,H b=some (.own a)->H' b=some (.own a)) (ht:∀b xs,H b=some (.tup xs)->H' b=some (.tup xs)) (hz:∀b o u,H b=some (.iY o u)->H' b=some (.iY o u)):b6 P w H' h' a o:=by
 induction o with
 |lst xs=>obtain⟨z,its,n,r,e⟩:=x;exact⟨z,its,n,r,k _ _ (.inl rfl) e⟩
 |tup xs=>obtain⟨z,its,r,ob,e,c⟩:=x;exact⟨z,its,r,ob,k _ _ (.inl rfl) e,c⟩
 |dK kvs=>obtain⟨z,y,vs,r,ob,es,ep,e,c⟩:=x;exact⟨z,y,vs,r,ob,es,ep,k _ _ (.inl rfl) e,c⟩
 |dT kvs =>
  obtain⟨z,y,xs,r,ob,es,ep,e,c⟩:=x;exact⟨z,y,xs,Paired.we r λp q z=>⟨z.1,ht _ _ z.2.1,z.2.2⟩,ob,es,ep,k _ _ (.inl rfl) e,c⟩
 |set S n=>obtain⟨ob,es,ep,t,e,c⟩:=x;exact⟨ob,es,ep,t,k _ _ (.inl rfl) e,c⟩
 |ins C dx fs =>
  obtain⟨d,z,ne,e,mA,⟨od,es,ep,e2,c⟩,r⟩:=x;exact⟨ho _ d,z,ne,k _ _ (.inl rfl) e,mA,⟨od,es,ep,k _ _ (.inr d) e2,c⟩,r⟩
 |own y=>obtain⟨ob,e⟩:=x;exact⟨ob,k _ _ (.inl rfl) e⟩
 |xd fs=>obtain⟨mA,⟨od,es,ep,e,c⟩,r⟩:=x;exact⟨mA,⟨od,es,ep,k _ _ (.inl rfl) e,c⟩,r⟩
 |ml lo hi=>obtain⟨t,u,v,e⟩:=x;exact⟨t,u,v,k _ _ (.inl rfl) e⟩
 |iY ob u ih=>obtain⟨e,q⟩:=x;exact⟨k _ _ (.inl rfl) e,ih q⟩
 |xt ps =>
  obtain⟨qs,e,t,f⟩:=x;exact⟨qs,k a _ (.inl rfl) e,t,λpos cv q=>let ⟨c,oc,vs,t',e1,e2,e3⟩:=f pos cv q;⟨c,oc,vs,t',e1,hz _ _ _ e2,e3⟩⟩
 |met f y =>
  have e:h.get? a=some (PySem.W.methodObj (.ref f) (.ref y)):=x;show h'.get? a=some (PySem.W.methodObj (.ref f) (.ref y));exact k a _ (.inl rfl) e
 |ext φ=>obtain⟨p,⟨o,e⟩,st⟩:=x;exact⟨st _ _ p λo q=>k _ _ (.inl rfl) q,⟨o,k _ _ (.inl rfl) e⟩,st⟩
theorem ia.lt(x:ia P w H h)(e:H a=some o):a<h.objs.size:=(x a o e).lt
theorem ia.fresh(x:ia P w H h)(e:h.objs.size<=a):H a=none:=by
 cases q:H a with
 |none=>rfl
 |some u=>exact absurd (Ju (x.lt q) e) (Kf _)
theorem ia.kept(x:ia P w H h)(k:∀b u,h.get? b=some u->h'.get? b=some u):ia P w H h':=λa o e =>
 (x a o e).mU (λb u _ q=>k b u q) (λ_ q=>q) (λ_ _ q=>q) λ_ _ _ q=>q
theorem ia.laid(x:ia P w H h)(k:∀b u,h.get? b=some u->h'.get? b=some u)(hp:h.objs.size<=a)(new:b6 P w (upd H a o) h' a o):ia P w (upd H a o) h':=λb u e=>by
 have hn:=x.fresh hp;by_cases hb:b=a
 ·subst hb;rw[aa] at e;cases e;exact new
 ·rw[af hb] at e;exact (x b u e).mU (λc v _ q=>k c v q) (λc q=>by rw[af (ao q hn)];exact q) (λc xs q=>by rw[af (ao q hn)];exact q) λc _ _ q=>by rw[af (ao q hn)];exact q
end
noncomputable def Rd(H:Hp)(a:Addr)(u:HO):Prop:=H a=some u\/∃o,H a=some (.iY o u)
theorem Rd.ok{u:HO}(r:Rd H a u)(x:ia P w H h):b6 P w H h a u:=by
 rcases r with r|⟨o,r⟩
 ·exact x a u r
 ·obtain⟨_,q⟩:=x a _ r;exact q
noncomputable def FH:Option HO->Prop
 |some (.lst _)=>True
 |some (.dK _)=>True
 |some (.dT _)=>True
 |some (.set _ _)=>True
 |some (.ins _ _ _)=>True
 |some (.ext _)=>True
 |_=>False
section
variable {P:Program} {w:World} {H:Hp} {h h':Heap} {x e:Addr} {o':HO}
theorem ia.write(ok:ia P w H h)(mu:FH (H x))(he:e=x\/H e=some (.own x))(k:∀b u,b≠e->h.get? b=some u->h'.get? b=some u)(heo:∃u,h'.get? e=some u)
  (new:b6 P w (upd H x o') h' x o'):ia P w (upd H x o') h':=λb u q=>by
 have nown:∀c y,H c=some (.own y)->c≠x:=λc y r z=>by subst z;rw[r] at mu;exact mu
 have ntup:∀c xs,H c=some (.tup xs)->c≠x:=λc xs r z=>by subst z;rw[r] at mu;exact mu
 have nfrz:∀c o1 u1,H c=some (.iY o1 u1)->c≠x:=λc _ _ r z=>by subst z;rw[r] at mu;exact mu
 by_cases hb:b=x
 ·subst hb;rw[aa] at q;cases q;exact new
 ·rw[af hb] at q;by_cases hbe:b=e
  ·have q':H b=some (.own x):=by
    rcases he with z|z
    ·exact absurd (hbe.trans z) hb
    ·rw[hbe];exact z
   rw[q] at q';cases q';obtain⟨v,hv⟩:=heo;exact⟨v,by rw[hbe];exact hv⟩
  ·refine (ok b u q).mU (λc v hc r=>k c v ?_ r) (λc r=>by rw[af (nown c b r)];exact r) (λc xs r=>by rw[af (ntup c xs r)];exact r) λc _ _ r=>by rw[af (nfrz c _ _ r)];exact r
   rcases hc with rfl|hc
   ·exact hbe
   ·rintro rfl;rcases he with z|z
    ·exact nown c b hc z
    ·rw[hc] at z;cases z;exact hb rfl
end
structure Un (fs ex:List Addr) (H H':Hp) (h h':Heap):Prop where
 keep:∀b o,h.get? b=some o->H b=none->b∉fs->b∉ex->h'.get? b=some o
 slot:∀b o,h.get? b=some o->H b=none->b∈fs->b∉ex->∃sl,h'.get? b=some {o with slots:=sl}
 free:∀b o,h.get? b=some o->H b=none->b∉ex->H' b=none
 there:∀b o,h.get? b=some o->b∉ex->∃o',h'.get? b=some o'
 oV:∀b xs,H b=some (.tup xs)->H' b=some (.tup xs)
 mF:∀b o u,H b=some (.iY o u)->H' b=some (.iY o u)
 kQ:∀b ps,H b=some (.xt ps)->∃more,H' b=some (.xt (ps++more))
section
variable {fs fs' ex ex':List Addr} {H H1 H2:Hp} {h h1 h2 h':Heap} {a x e:Addr} {o:HO}
theorem Un.any(u:Un fs ex H H1 h h1){ob:Obj}(q:h.get? b=some ob)(n:H b=none)(hx:b∉ex):∃sl,h1.get? b=some {ob with slots:=sl}:=by
 by_cases hb:b∈fs
 ·exact u.slot b ob q n hb hx
 ·exact⟨ob.slots,u.keep b ob q n hb hx⟩
theorem Un.kept(k:∀b u,h.get? b=some u->h'.get? b=some u):Un fs ex H H h h':=
 ⟨λb ob q _ _ _=>k b ob q,λb ob q _ _ _=>⟨ob.slots,k b ob q⟩,λ_ _ _ n _=>n,λb ob q _=>⟨ob,k b ob q⟩,λ_ _ q=>q,λ_ _ _ q=>q,λ_ ps q=>⟨#[],by rw[q];simp⟩⟩
theorem Un.refl:Un fs ex H H h h:=Un.kept λ_ _ q=>q
theorem Un.laid(k:∀b u,h.get? b=some u->h'.get? b=some u)(hp:h.objs.size<=a)(hn:H a=none):Un fs ex H (upd H a o) h h' where
 keep:=λb u q _ _ _=>k b u q
 slot:=λb u q _ _ _=>⟨u.slots,k b u q⟩
 free:=λb u q n _=>by rw[af (Jr (Ju (Jh q) hp))];exact n
 there:=λb u q _=>⟨u,k b u q⟩
 oV:=λb xs q=>by rw[af (ao q hn)];exact q
 mF:=λb u xs q=>by rw[af (ao q hn)];exact q
 kQ:=λb ps q=>⟨#[],by rw[af (ao q hn),q];simp⟩
theorem Un.write(mu:FH (H x))(he:e=x\/H e=some (.own x))(k:∀b u,b≠e->h.get? b=some u->h'.get? b=some u)(heo:∃u,h'.get? e=some u):Un fs ex H (upd H x o) h h':=by
 have hx:∀b,H b=none->b≠x:=λb n z=>by subst z;rw[n] at mu;exact mu
 have hb:∀b,H b=none->b≠e:=λb n z=>by
  subst z;rcases he with r|r
  ·exact hx b n r
  ·rw[n] at r;cases r
 have hm:∀b u,H b=some u->¬ FH (some u)->b≠x:=λb u q nm z=>by subst z;rw[q] at mu;exact nm mu
 refine⟨λb u q n _ _=>k b u (hb b n) q,λb u q n _ _=>⟨u.slots,k b u (hb b n) q⟩,λb u q n _=>by rw[af (hx b n)];exact n,λb u q _=>?_,
  λb xs q=>by rw[af (hm b _ q λz=>z)];exact q,λb u xs q=>by rw[af (hm b _ q λz=>z)];exact q,λb ps q=>⟨#[],by rw[af (hm b _ q λz=>z),q];simp⟩⟩
 by_cases hbe:b=e
 ·subst hbe;exact heo
 ·exact⟨u,k b u hbe q⟩
end
noncomputable def FU(h:Heap)(H:Hp):List Addr:=(List.range h.objs.size).filter λa=>(H a).isSome
noncomputable def kZ(h:Heap)(H:Hp):Heap:=PySem.W.hideAll h (FU h H)
theorem v7(h:Heap)(H:Hp):(kZ h H).objs.size=h.objs.size:=PySem.W.hideAll_size _ _
theorem i4{o:Obj}(e:h.get? b=some o)(n:H b=none):(kZ h H).get? b=some o:=
 PySem.W.hideAll_get _ e λhm=>by
  have q:(H b).isSome=true:=(List.mem_filter.mp hm).2;rw[n] at q;simp at q
theorem Bz{o:Obj}(e:(kZ h H).get? b=some o):h.get? b=some o/\H b=none:=by
 have e':h.get? b=some o:=PySem.W.of_hideAll (FU h H) e;refine⟨e',?_⟩
 cases q:H b with
 |none=>rfl
 |some x =>
  have hm:b∈FU h H:=List.mem_filter.mpr ⟨Ki.mpr (Jh e'),by simp[q]⟩
  have z:(kZ h H).get? b=none:=PySem.W.hideAll_none (FU h H) hm;rw[z] at e;cases e
noncomputable def B2(g h:Heap)(L:Addr):List (Addr×Obj):=(List.range h.objs.size).filterMap λa=>if a=L\/(g.get? a).isSome=true then none else (h.get? a).map λo=>(a,o)
noncomputable def rest(g h:Heap)(L d:Addr):List (Addr×Obj):=(B2 g h L).filter λp=>decide (p.1≠d)
noncomputable def e7:List Str:=["by_worth","by_weight","code_of"]
noncomputable def bV(K:Og):List (Addr×Addr×Str):=e7.filterMap λx=>(PySem.W.tabIn K x).map λp=>(p.1,p.2,(x++".<locals>.")++"<lambda>")
noncomputable def TabsOk(K:Og)(H:Hp):Prop:=∀t∈bV K,∃more,H t.2.1=some (.xt (#[.str t.2.2 0]++more))
theorem TabsOk.un{fs ex:List Addr}{H1:Hp}{h1:Heap}(x:TabsOk K H)(u:Un fs ex H H1 h h1):TabsOk K H1:=λt ht=>by
 obtain⟨m,e⟩:=x t ht;obtain⟨m2,e2⟩:=u.kQ _ _ e;exact⟨m++m2,by rw[e2,Array.append_assoc]⟩
noncomputable def Dw(mg:Str->Option Value)(h:Heap):Prop:=∃bm ob,mg "__builtins__"=some (.ref bm)/\bm≠builtinsNs/\h.get? bm=some ob/\ob.cls=.type "module"/\ob.dict=some builtinsNs/\ob.data=.plain
structure Mod (K:Og) (mg:Str->Option Value) (base:Heap):Prop where
 GK:K.In base
 glob:base.Ns mainGlobals mg
 blt:∃mb,base.Ns builtinsNs mb/\∀x:Str,x≠"__name__"->mb x=bootBuiltins x
 nolimit:base.NoLimit
 codes:∀t∈bV K,PySem.W.CodeHd base t.1 t.2.1
 bm:Dw mg base
structure Cx where
 prog:Program
 w:World
 K:Og
 mg:Str->Option Value
 base:Heap
 A:Around
 N:List Str
 s₀:Shared
 H₀:Hp
 env:Env
 outer:List Env
 stack:List Env
 ex:List Addr
 fn:Str->Bool
 calm:Bool
 pn:List (Addr×Obj)
 xe:Value->Shared->Prop
variable{X:Cx}
noncomputable def y6(l:List Env):List Addr:=l.filterMap (·.frame)
abbrev Cx.fs(X:Cx):List Addr:=y6 X.outer
noncomputable def GS(sc:Scope)(x:Str):Prop:=sc.names.lookup x=some .local\/sc.names.lookup x=some .cell\/sc.names.lookup x=some .free
noncomputable def Loc(sc:Scope)(x:Str):Prop:=sc.names.lookup x=some .local\/sc.names.lookup x=some .cell
noncomputable def Look(env:Env)(h:Heap)(m:Str->Option Value)(x:Str)(u:Value):Prop:=
 (env.kindOf x=some .local/\m x=some u)\/((env.kindOf x=some .cell\/env.kindOf x=some .free)/\∃c,env.cells.lookup x=some c/\h.IsCell c (some u))
structure Cx.Ok (X:Cx):Prop where
 mod:Mod X.K X.mg X.base
 kind:X.env.scope.kind=.function
 glob:X.env.globals=mainGlobals
 blt:X.env.builtins=builtinsNs
 above:X.s₀.heap.objs.size<=X.env.locals
 inj:∀x y c,X.env.cells.lookup x=some c->X.env.cells.lookup y=some c->x=y
 has:∀x,(X.env.kindOf x=some .cell\/X.env.kindOf x=some .free)->∃c,X.env.cells.lookup x=some c
 GA:∀x c,X.fn x=true->X.env.cells.lookup x=some c->X.s₀.heap.objs.size<=c
 hd:X.calm=true->X.A.handled=none
 frames:X.A.frames=some X.stack
 Hu:X.stack=X.outer\/(X.stack=X.env::X.outer/\X.env.frame=some X.env.locals)
 Im:∀b∈X.ex,b≠X.env.locals/\∀x c,X.env.cells.lookup x=some c->c≠b
 bs:∀b o,X.base.get? b=some o->X.s₀.heap.get? b=some o/\X.H₀ b=none
 zD:X.base.objs.size<=X.s₀.heap.objs.size
 zx:∀b o,X.base.get? b=some o->b∉X.ex
 AA:∀b∈X.ex,b∉X.fs
 jm:X.s₀.heap.FunFrames X.base X.outer
 Ey:∀b∈X.fs,X.H₀ b=none
 tabs:TabsOk X.K X.H₀
structure Inv (X:Cx) (pins:List (Addr×Obj)) (σ:List (Option V)) (H:Hp) (s:Shared):Prop where
 ok:X.Ok
 os:s.os=X.s₀.os
 bare:AllBare s.gens
 base:Un X.fs X.ex X.H₀ H X.s₀.heap s.heap
 loc:∃m,s.heap.Ns X.env.locals m/\∀(i:Nat) (x:Str) (v:V),X.N[i]?=some x->σ[i]?=some (some v)->GS X.env.scope x->∃u,RelV v u/\Look X.env s.heap m x u
 cell:∀x c,X.env.cells.lookup x=some c->∃v,s.heap.IsCell c v
 free:H X.env.locals=none
 fD:∀x c,X.env.cells.lookup x=some c->H c=none
 pin:∀p∈X.pn++pins,s.heap.get? p.1=some p.2/\H p.1=none/\p.1≠X.env.locals/\p.1∉X.fs/\∀v,p.2.data≠.cell v
 bc:ia X.prog X.w H s.heap
 len:σ.length=X.N.length
section
variable {X:Cx} {pins:List (Addr×Obj)} {σ:List (Option V)} {H H':Hp} {s:Shared} {h':Heap}
theorem Cx.Ok.Hy(ok:X.Ok){o:Obj}(e:X.base.get? b=some o):b∉X.fs:=λhb=>by
 have:=(ok.jm.mem hb).1;rw[e] at this;cases this
theorem Inv.bs(I:Inv X pins σ H s):∀b o,X.base.get? b=some o->s.heap.get? b=some o/\H b=none:=λb o e =>
 ⟨I.base.keep b o (I.ok.bs b o e).1 (I.ok.bs b o e).2 (I.ok.Hy e) (I.ok.zx b o e),I.base.free b o (I.ok.bs b o e).1 (I.ok.bs b o e).2 (I.ok.zx b o e)⟩
theorem Inv.bk(I:Inv X pins σ H s):∀b o,X.base.get? b=some o->s.heap.get? b=some o:=λb o e=>(I.bs b o e).1
theorem Inv.mod(I:Inv X pins σ H s):Mod X.K X.mg X.base:=I.ok.mod
theorem Inv.iu(I:Inv X pins σ H s):X.K.In s.heap:=I.ok.mod.GK.keeps I.bk
theorem Inv.nolimit(I:Inv X pins σ H s):s.heap.NoLimit:=I.ok.mod.nolimit.keeps I.bk
theorem Inv.lt(I:Inv X pins σ H s):X.env.locals<s.heap.objs.size:=let ⟨_,hn,_⟩:=I.loc;hn.lt
theorem Inv.sz(I:Inv X pins σ H s):X.s₀.heap.objs.size<=s.heap.objs.size:=IY I.ok.above (K2 I.lt)
theorem Inv.Gd(I:Inv X pins σ H s)(h:s.heap.objs.size<=a):a∉X.fs:=λhb=>by
 obtain⟨_,o,ho,_⟩:=I.ok.jm.mem hb;exact absurd (Ju (Jh ho) (IY I.sz h)) (Kf _)
theorem Inv.Dk(I:Inv X pins σ H s):∀x c,X.env.cells.lookup x=some c->c≠X.env.locals:=λx c e z=>by
 obtain⟨v,o,ho,hd⟩:=I.cell x c e;obtain⟨m,⟨o',es,ep,ho',hd',_⟩,_⟩:=I.loc;rw[z,ho'] at ho;cases ho;rw[hd'] at hd;cases hd
theorem Inv.jm(I:Inv X pins σ H s):s.heap.FunFrames X.base X.outer:=by
 have all:∀(l:List Env),(∀b∈y6 l,b∈X.fs)->X.s₀.heap.FunFrames X.base l->s.heap.FunFrames X.base l:=by
  intro l
  induction l with
  |nil=>intro _ _;trivial
  |cons env r ih =>
   intro hs hl;obtain⟨hk,⟨L,o,hf,hn,ho,hd⟩,hr⟩:=hl;have hL:L∈X.fs:=hs L (by unfold y6;rw[MJ,hf];exact IZ)
   obtain⟨sl,e⟩:=I.base.slot L o ho (I.ok.Ey L hL) hL λz=>I.ok.AA L z hL;exact⟨hk,⟨L,_,hf,hn,e,hd⟩,ih (λb hb=>hs b (by unfold y6;rw[MJ,hf];exact IV _ hb)) hr⟩
 exact all X.outer (λ_ hb=>hb) I.ok.jm
theorem Inv.stack(I:Inv X pins σ H s):s.heap.FunFrames X.base X.stack:=by
 rcases I.ok.Hu with e|⟨e,hf⟩
 ·rw[e];exact I.jm
 ·rw[e];obtain⟨m,hn,_⟩:=I.loc;refine .cons (by rw[I.ok.kind];decide) hf hn ?_ I.jm
  exact Heap.get?_none_of_le (IY I.ok.zD I.ok.above)
theorem Inv.nE(I:Inv X pins σ H s):∀b∈y6 X.stack,b∈X.env.locals::X.fs:=λb hb=>by
 rcases I.ok.Hu with e|⟨e,hf⟩
 ·rw[e] at hb;exact IV _ hb
 ·rw[e] at hb;unfold y6 at hb;rw[MJ,hf] at hb;exact hb
theorem Inv.mV(I:Inv X pins σ H s):∀b∈y6 X.stack,H b=none:=λb hb=>by
 rcases IX.mp (I.nE b hb) with e|hb
 ·rw[e];exact I.free
 ·obtain⟨_,o,ho,_⟩:=I.ok.jm.mem hb;exact I.base.free b o ho (I.ok.Ey b hb) λz=>I.ok.AA b z hb
theorem Inv.step{t':Nat}{d':Drawn}(I:Inv X pins σ H s)
  (hch:∀b∈ch,(b∈X.ex\/X.s₀.heap.objs.size<=b)/\b≠X.env.locals/\(∀x c,X.env.cells.lookup x=some c->c≠b)/\∀p∈X.pn++pins,p.1≠b)
  (keep:∀b o,b≠X.env.locals->b∉X.fs->b∉ch->s.heap.get? b=some o->H b=none->h'.get? b=some o)
  (slot:∀b o,b≠X.env.locals->b∈X.fs->b∉ch->s.heap.get? b=some o->H b=none->∃sl,h'.get? b=some {o with slots:=sl}) (free:∀b o,b∉ch->s.heap.get? b=some o->H b=none->H' b=none)
  (there:∀b o,b∉ch->s.heap.get? b=some o->∃o',h'.get? b=some o')
  (oV:∀b xs,H b=some (.tup xs)->H' b=some (.tup xs)) (mF:∀b o u,H b=some (.iY o u)->H' b=some (.iY o u)) (kQ:∀b ps,H b=some (.xt ps)->∃more,H' b=some (.xt (ps++more)))
  (ns:∀m,s.heap.Ns X.env.locals m->h'.Ns X.env.locals m) (bc:ia X.prog X.w H' h') (hg:AllBare g') :
  Inv X pins σ H' {s with heap:=h',gens:=g',drawn:=d',toks:=t'}:=by
 have neL:∀b o,X.s₀.heap.get? b=some o->b≠X.env.locals:=λb o e=>Jr (Ju (Jh e) I.ok.above);have neC:∀b o,X.s₀.heap.get? b=some o->b∉X.ex->b∉ch:=λb o e hx hb=>by
  rcases (hch b hb).1 with z|z
  ·exact hx z
  ·exact absurd (Ju (Jh e) z) (Kf _)
 have cellK:∀x c,X.env.cells.lookup x=some c->∀v,s.heap.IsCell c v->h'.IsCell c v:=λx c e v ⟨o,ho,hd⟩=>by
  have nch:c∉ch:=λz=>(hch c z).2.2.1 x c e rfl;by_cases hc:c∈X.fs
  ·obtain⟨sl,q⟩:=slot c o (I.Dk x c e) hc nch ho (I.fD x c e);exact⟨_,q,hd⟩
  ·exact⟨o,keep c o (I.Dk x c e) hc nch ho (I.fD x c e),hd⟩
 refine⟨I.ok,I.os,hg,⟨λb o e n hb hx=>?_,λb o e n hb hx=>?_,λb o e n hx=>?_,λb o e hx=>?_,λb xs e=>oV b xs (I.base.oV b xs e),λb o xs e=>mF b o xs (I.base.mF b o xs e),λb ps e=>?_⟩,?_,λx c e=>?_,?_,λx c e=>?_,λp hp=>?_,bc,I.len⟩
 ·exact keep b o (neL b o e) hb (neC b o e hx) (I.base.keep b o e n hb hx) (I.base.free b o e n hx)
 ·obtain⟨sl,e1⟩:=I.base.slot b o e n hb hx;obtain⟨sl',e2⟩:=slot b _ (neL b o e) hb (neC b o e hx) e1 (I.base.free b o e n hx);exact⟨sl',e2⟩
 ·obtain⟨o',e1⟩:=I.base.there b o e hx;exact free b o' (neC b o e hx) e1 (I.base.free b o e n hx)
 ·obtain⟨o',e1⟩:=I.base.there b o e hx;exact there b o' (neC b o e hx) e1
 ·obtain⟨m1,e1⟩:=I.base.kQ b ps e;obtain⟨m2,e2⟩:=kQ b _ e1;exact⟨m1++m2,by rw[e2,Array.append_assoc]⟩
 ·obtain⟨m,hn,hl⟩:=I.loc;refine⟨m,ns m hn,λi x v e1 e2 e3=>?_⟩;obtain⟨u,r,l⟩:=hl i x v e1 e2 e3;refine⟨u,r,?_⟩;rcases l with l|⟨k,c,e,z⟩
  ·exact .inl l
  ·exact .inr ⟨k,c,e,cellK x c e _ z⟩
 ·obtain⟨v,z⟩:=I.cell x c e;exact⟨v,cellK x c e v z⟩
 ·obtain⟨m,⟨o,_,_,ho,_⟩,_⟩:=I.loc;exact free _ o (λz=>(hch _ z).2.1 rfl) ho I.free
 ·obtain⟨v,o,ho,hd⟩:=I.cell x c e;exact free c o (λz=>(hch c z).2.2.1 x c e rfl) ho (I.fD x c e)
 ·obtain⟨e,n,ne,nf,d⟩:=I.pin p hp;have nch:p.1∉ch:=λz=>(hch p.1 z).2.2.2 p hp rfl;exact⟨keep p.1 p.2 ne nf nch e n,free p.1 p.2 nch e n,ne,nf,d⟩
theorem Inv.un{t':Nat}(I:Inv X pins σ H s)(u:Un X.fs [] H H' s.heap h')(bc:ia X.prog X.w H' h'):Inv X pins σ H' {s with heap:=h',toks:=t'}:=by
 obtain⟨m,⟨o,es,ep,ho,r⟩,_⟩:=id I.loc;obtain⟨sl,hL⟩:=u.any ho I.free (by simp)
 exact I.step (g':=s.gens) (d':=s.drawn) (ch:=[]) (λ_ z=>nomatch z) (λb o _ hb _ e n=>u.keep b o e n hb (by simp)) (λb o _ hb _ e n=>u.slot b o e n hb (by simp)) (λb o _ e n=>u.free b o e n (by simp)) (λb o _ e=>u.there b o e (by simp)) u.oV u.mF u.kQ (λm' hm=>by
  obtain⟨o',es',ep',ho',r'⟩:=hm;rw[ho] at ho';cases ho';exact⟨_,es',ep',hL,r'⟩) bc I.bare
theorem Inv.call{t':Nat}{d':Drawn}{ch:List Addr}(I:Inv X pins σ H s)(u:Un (y6 X.stack) ch H H' s.heap h')(bc:ia X.prog X.w H' h')(hg:AllBare g')
  (hch:∀b∈ch,(b∈X.ex\/X.s₀.heap.objs.size<=b)/\b≠X.env.locals/\(∀x c,X.env.cells.lookup x=some c->c≠b)/\∀p∈X.pn++pins,p.1≠b) :
  Inv X pins σ H' {s with heap:=h',gens:=g',drawn:=d',toks:=t'}:=by
 obtain⟨m,⟨o,es,ep,ho,r⟩,_⟩:=id I.loc;obtain⟨sl,hL⟩:=u.any ho I.free λz=>(hch _ z).2.1 rfl;exact I.step (ch:=ch) hch (λb o hL hb hc e n=>u.keep b o e n (λz=>(IX.mp (I.nE b z)).elim hL hb) hc) (λb o _ _ hc e n=>u.any e n hc) (λb o hc e n=>u.free b o e n hc) (λb o hc e=>u.there b o e hc) u.oV u.mF u.kQ (λm' hm=>by
  obtain⟨o',es',ep',ho',r'⟩:=hm;rw[ho] at ho';cases ho';exact⟨_,es',ep',hL,r'⟩) bc hg
theorem Inv.turned{t':Nat}{it:Addr}(I:Inv X pins σ H s)(k:∀b o,b≠it->s.heap.get? b=some o->h'.get? b=some o)(hn:H it=none)(hL:it≠X.env.locals)
  (h1:it∈X.ex\/X.s₀.heap.objs.size<=it) (h2:∀x c,X.env.cells.lookup x=some c->c≠it) (h3:∀p∈X.pn++pins,p.1≠it):Inv X pins σ H {s with heap:=h',toks:=t'}:=by
 have nit:∀b u,H b=some u->b≠it:=λb u e z=>by rw[z,hn] at e;cases e
 refine I.step (g':=s.gens) (d':=s.drawn) (ch:=[it]) (λb hb=>?_) (λb o _ _ hc e _=>k b o (λz=>hc (by simp[z])) e) (λb o _ _ hc e _=>⟨o.slots,k b o (λz=>hc (by simp[z])) e⟩) (λ_ _ _ _ n=>n)
  (λb o hc e=>⟨o,k b o (λz=>hc (by simp[z])) e⟩) (λ_ _ e=>e) (λ_ _ _ e=>e) (λb ps e=>⟨#[],by rw[e];simp⟩) (λm hm=>?_) (λb u e=>?_) I.bare
 ·have e:b=it:=by simpa using hb
  subst e;exact⟨h1,hL,h2,h3⟩
 ·obtain⟨o,es,ep,ho,r⟩:=hm;exact⟨o,es,ep,k _ o (Kp hL) ho,r⟩
 ·refine (I.bc b u e).mU (λc v hc q=>k c v ?_ q) (λ_ q=>q) (λ_ _ q=>q) λ_ _ _ q=>q;rcases hc with z|z
  ·rw[z];exact nit b u e
  ·exact nit c _ z
theorem Inv.tok(I:Inv X pins σ H s)(t:Nat):Inv X pins σ H {s with toks:=t}:=I.un (h':=s.heap) (t':=t) Un.refl I.bc
theorem Inv.kept{t':Nat}(I:Inv X pins σ H s)(k:∀b u,s.heap.get? b=some u->h'.get? b=some u):Inv X pins σ H {s with heap:=h',toks:=t'}:=I.un (Un.kept k) (I.bc.kept k)
theorem Inv.laid{t':Nat}(I:Inv X pins σ H s)(k:∀b u,s.heap.get? b=some u->h'.get? b=some u)(hp:s.heap.objs.size<=a)(new:b6 X.prog X.w (upd H a o) h' a o):
  Inv X pins σ (upd H a o) {s with heap:=h',toks:=t'}:=I.un (Un.laid k hp (I.bc.fresh hp)) (I.bc.laid k hp new)
theorem Inv.write{x e:Addr}{t':Nat}(I:Inv X pins σ H s)(mu:FH (H x))(he:e=x\/H e=some (.own x))(k:∀b u,b≠e->s.heap.get? b=some u->h'.get? b=some u)(heo:∃u,h'.get? e=some u)
  (new:b6 X.prog X.w (upd H x o) h' x o):Inv X pins σ (upd H x o) {s with heap:=h',toks:=t'}:=I.un (Un.write mu he k heo) (I.bc.write mu he k heo new)
theorem Inv.m9{pins':List (Addr×Obj)}(I:Inv X pins σ H s)(h:∀p∈pins',s.heap.get? p.1=some p.2/\H p.1=none/\p.1≠X.env.locals/\p.1∉X.fs/\∀v,p.2.data≠.cell v):Inv X pins' σ H s:=
 ⟨I.ok,I.os,I.bare,I.base,I.loc,I.cell,I.free,I.fD,λp hp=>(JG.mp hp).elim (λz=>I.pin p (Ku _ z)) (h p),I.bc,I.len⟩
theorem pI(hN:N.Nodup)(a:N[i]?=some x)(b:N[j]?=some x):i=j:=by
 obtain⟨h1,e1⟩:=IQ.mp a;obtain⟨h2,e2⟩:=IQ.mp b;exact (List.getElem_inj hN).mp (e1.trans e2.symm)
theorem lH{A:Around}{v:V}{Q:Unit->Shared->Prop}(I:Inv X pins σ H s)(hN:X.N.Nodup)(hi:X.N[i]?=some x)(hx:Loc X.env.scope x)(r:RelV v u)
  (h:∀s',Inv X pins (σ.set i (some v)) H s'->(∃a,Heap.SameBut a s.heap s'.heap/\(a=X.env.locals\/X.env.cells.lookup x=some a))->Q () s') (hf:autoParam (X.fn x=true\/X.env.scope.names.lookup x=some .local) ℜ2):wpAny M A (storeName X.env x u) Q E s:=by
 obtain⟨m,hn,hl⟩:=id I.loc;have hcls:(X.env.scope.kind == .class || (X.env.scope.kind == .module && X.env.locals != X.env.globals))=false:=by rw[I.ok.kind];rfl
 have hiσ:i<σ.length:=by rw[I.len];exact (IQ.mp hi).1
 have Dk:=I.Dk;have tracked:∀{a:Addr} {h':Heap},(∃o,s.heap.get? a=some o/\H a=none)->Heap.SameBut a s.heap h'->ia X.prog X.w H h':=λ{a h'} ha hs b ob e=>by
  obtain⟨_,_,hfree⟩:=ha;refine (I.bc b ob e).mU (λc w' hc q=>(hs.2 c ?_).trans q) (λ_ q=>q) (λ_ _ q=>q) λ_ _ _ q=>q;rintro rfl;rcases hc with rfl|hc
  ·rw[hfree] at e;cases e
  ·rw[hfree] at hc;cases hc
 rcases hx with hk|hk
 ·refine wpAny_storeName_local hk hn (λh' hn' hs=>?_) hcls;obtain⟨oL,_,_,hoL,_⟩:=id hn;refine h _ ⟨I.ok,I.os,I.bare,⟨λb o e n hb hx=>?_,λb o e n hb hx=>?_,I.base.free,λb o e hx=>?_,I.base.oV,I.base.mF,I.base.kQ⟩,⟨_,hn',λj y v' e1 e2 e3=>?_⟩,λy c e=>?_,I.free,I.fD,λp hp=>?_,tracked ⟨oL,hoL,I.free⟩ hs,by simpa using I.len⟩ ⟨_,hs,.inl rfl⟩
  ·exact (hs.2 b (Jr (Ju (Jh e) I.ok.above))).trans (I.base.keep b o e n hb hx)
  ·obtain⟨sl,e1⟩:=I.base.slot b o e n hb hx;exact⟨sl,(hs.2 b (Jr (Ju (Jh e) I.ok.above))).trans e1⟩
  ·obtain⟨o',e1⟩:=I.base.there b o e hx;exact⟨o',(hs.2 b (Jr (Ju (Jh e) I.ok.above))).trans e1⟩
  ·by_cases hj:j=i
   ·subst hj;rw[hi] at e1;cases e1;rw[Ln hiσ] at e2;cases e2;exact⟨u,r,.inl ⟨hk,by simp⟩⟩
   ·rw[Mx (Kp hj)] at e2;obtain⟨u',r',q⟩:=hl j y v' e1 e2 e3;refine⟨u',r',?_⟩;rcases q with ⟨k,e⟩|⟨k,c,e,z⟩
    ·refine .inl ⟨k,?_⟩;have:y≠x:=λe=>hj (pI hN e1 (e ▸ hi));simp[this,e]
    ·exact .inr ⟨k,c,e,z.sameBut hs (Dk y c e)⟩
  ·obtain⟨w',z⟩:=I.cell y c e;exact⟨w',z.sameBut hs (Dk y c e)⟩
  ·obtain⟨e,n,ne,nf,d⟩:=I.pin p hp;exact⟨(hs.2 p.1 ne).trans e,n,ne,nf,d⟩
 ·have hfn:X.fn x=true:=by
   rcases hf with z|z
   ·exact z
   ·rw[z] at hk;cases hk
  obtain⟨c,hc⟩:=I.ok.has x (.inl hk);obtain⟨w',z⟩:=I.cell x c hc;refine wpAny_storeName_cell I.ok.kind hk hc z (λh' hc' hs=>?_);obtain⟨oc,hoc,hocd⟩:=id z;refine h {s with heap:=h'} ⟨I.ok,I.os,I.bare,⟨λb o e n hb hx=>?_,λb o e n hb hx=>?_,I.base.free,λb o e hx=>?_,I.base.oV,I.base.mF,I.base.kQ⟩,⟨m,hn.sameBut hs (Kp (Dk x c hc)),λj y v' e1 e2 e3=>?_⟩,λy c' e=>?_,I.free,I.fD,λp hp=>?_,tracked ⟨oc,hoc,I.fD x c hc⟩ hs,by simpa using I.len⟩ ⟨c,hs,.inr hc⟩
  ·exact (hs.2 b (Jr (Ju (Jh e) (I.ok.GA x c hfn hc)))).trans (I.base.keep b o e n hb hx)
  ·obtain⟨sl,e1⟩:=I.base.slot b o e n hb hx;exact⟨sl,(hs.2 b (Jr (Ju (Jh e) (I.ok.GA x c hfn hc)))).trans e1⟩
  ·obtain⟨o',e1⟩:=I.base.there b o e hx;exact⟨o',(hs.2 b (Jr (Ju (Jh e) (I.ok.GA x c hfn hc)))).trans e1⟩
  ·by_cases hj:j=i
   ·subst hj;rw[hi] at e1;cases e1;rw[Ln hiσ] at e2;cases e2;exact⟨u,r,.inr ⟨.inl hk,c,hc,hc'⟩⟩
   ·rw[Mx (Kp hj)] at e2;obtain⟨u',r',q⟩:=hl j y v' e1 e2 e3;refine⟨u',r',?_⟩;rcases q with q|⟨k,c',e,z'⟩
    ·exact .inl q
    ·refine .inr ⟨k,c',e,z'.sameBut hs ?_⟩;rintro rfl;exact hj (pI hN e1 (I.ok.inj _ _ _ e hc ▸ hi))
  ·by_cases hcc:c'=c
   ·subst hcc;exact⟨_,hc'⟩
   ·obtain⟨w2,z2⟩:=I.cell y c' e;exact⟨w2,z2.sameBut hs hcc⟩
  ·obtain⟨e,n,ne,nf,d⟩:=I.pin p hp;refine⟨(hs.2 p.1 ?_).trans e,n,ne,nf,d⟩;intro q;rw[q,hoc] at e;have q':oc=p.2:=Option.some.inj e;exact d w' (by rw[<- q'];exact hocd)
theorem oM{A:Around}{v:V}{Q:Unit->Shared->Prop}(I:Inv X pins σ H s)(hN:X.N.Nodup)(hi:X.N[i]?=some x)(hx:Loc X.env.scope x)(r:RelV v u)
  (h:∀s',Inv X pins (σ.set i (some v)) H s'->Q () s') (hf:autoParam (X.fn x=true\/X.env.scope.names.lookup x=some .local) ℜ2):wpAny M A (storeName X.env x u) Q E s:=
 lH I hN hi hx r (λs' I' _=>h s' I') hf
theorem Inv.Gx(I:Inv X pins σ H s)(ho:s'.os=s.os)(u:Un (y6 X.stack) ch H H' s.heap s'.heap)(bc:ia X.prog X.w H' s'.heap)(hg:AllBare s'.gens)
  (hch:∀b∈ch,(b∈X.ex\/X.s₀.heap.objs.size<=b)/\b≠X.env.locals/\(∀x c,X.env.cells.lookup x=some c->c≠b)/\∀p∈X.pn++pins,p.1≠b):Inv X pins σ H' s':=by
 obtain⟨h',g',d',t',o'⟩:=s';have e:o'=s.os:=ho;subst e;exact I.call (g':=g') (t':=t') (d':=d') u bc hg hch
end
abbrev XK:=Value->Option Addr->Hp->Prop
abbrev St:=List (Option V)
variable{σ:St}
abbrev VK:=V->Hp->Prop
abbrev TE:=St->Hp->VK->Prop
abbrev TT:=St->Hp->(Bool->Hp->Prop)->Prop
abbrev TA:=St->Hp->(List V->Hp->Prop)->Prop
structure Ends where
 nx:St->Hp->Prop
 rt:VK
 bk:St->Hp->Prop:=λ_ _=>False
 ct:St->Hp->Prop:=λ_ _=>False
variable{D:Ends}
abbrev TS:=Ends->St->Hp->Prop
variable{tb:TS}
noncomputable def EP(X:Cx)(pins:List (Addr×Obj))(σ:St)(Q:VK)(u:Value)(s':Shared):Prop:=∃v H',Inv X pins σ H' s'/\RelV v u/\Q v H'
noncomputable def TP(X:Cx)(pins:List (Addr×Obj))(σ:St)(Q:Bool->Hp->Prop)(b:Bool)(s':Shared):Prop:=∃H',Inv X pins σ H' s'/\Q b H'
noncomputable def AP(X:Cx)(pins:List (Addr×Obj))(σ:St)(Q:List V->Hp->Prop)(us:List Value)(s':Shared):Prop:=∃vs H',Inv X pins σ H' s'/\Vals vs us/\Q vs H'
noncomputable def SP(X:Cx)(pins:List (Addr×Obj))(D:Ends)(f:Flow)(s':Shared):Prop:=
 match f with
 |.next=>∃σ' H',Inv X pins σ' H' s'/\D.nx σ' H'
 |.brk=>∃σ' H',Inv X pins σ' H' s'/\D.bk σ' H'
 |.cont=>∃σ' H',Inv X pins σ' H' s'/\D.ct σ' H'
 |.ret u=>∃v σ' H',Inv X pins σ' H' s'/\RelV v u/\D.rt v H'
noncomputable def PE(X:Cx)(e:Expr)(t:TE):Prop:=
 ∀(pins:List (Addr×Obj)) (s:Shared) (σ:St) (H:Hp) (Q:VK),Inv X pins σ H s->t σ H Q->wpAny (model X.prog X.w) X.A (eval e X.env) (EP X pins σ Q) X.xe s
noncomputable def PT(X:Cx)(e:Expr)(t:TT):Prop:=
 ∀(pins:List (Addr×Obj)) (s:Shared) (σ:St) (H:Hp) (Q:Bool->Hp->Prop),Inv X pins σ H s->t σ H Q->wpAny (model X.prog X.w) X.A (isTrue e X.env (eval e X.env)) (TP X pins σ Q) X.xe s
noncomputable def PW(X:Cx)(e:Expr)(t:TT):Prop:=
 ∀(whole:Sem Value) (pins:List (Addr×Obj)) (s:Shared) (σ:St) (H:Hp) (Q:Bool->Hp->Prop),Inv X pins σ H s->t σ H Q->wpAny (model X.prog X.w) X.A (isTrue e X.env whole) (TP X pins σ Q) X.xe s
theorem PW.pt{t:TT}(h:PW X e t):PT X e t:=h _
noncomputable def PA(X:Cx)(es:List Expr)(t:TA):Prop:=
 ∀(pos:Pos) (pins:List (Addr×Obj)) (s:Shared) (σ:St) (H:Hp) (Q:List V->Hp->Prop),Inv X pins σ H s->t σ H Q->wpAny (model X.prog X.w) X.A (spliced (backTo pos (starEach es X.env))) (AP X pins σ Q) X.xe s
noncomputable def PS(X:Cx)(st:Stmt)(t:TS):Prop:=
 ∀(pins:List (Addr×Obj)) (s:Shared) (σ:St) (H:Hp) (D:Ends),Inv X pins σ H s->t D σ H->wpAny (model X.prog X.w) X.A (exec st X.env) (SP X pins D) X.xe s
noncomputable def rN(X:Cx)(st:List Stmt)(t:TS):Prop:=
 ∀(pins:List (Addr×Obj)) (s:Shared) (σ:St) (H:Hp) (D:Ends),Inv X pins σ H s->t D σ H->wpAny (model X.prog X.w) X.A (execs st X.env) (SP X pins D) X.xe s
theorem bT{α:Type}{t:Sem α}{Q Q':α->Shared->Prop}{A:Around}{s:Shared}(h:wpAny M A t Q E s)(hQ:∀a s,Q a s->Q' a s):wpAny M A t Q' E s:=JO h hQ λ_ _ x=>x
section
variable {X:Cx}
noncomputable def uQ(i:Nat):TE:=λσ H Q=>∃v,σ[i]?=some (some v)/\Q v H
noncomputable def tC(v:V):TE:=λ_ H Q=>Q v H
theorem EL{pos:Pos}(hN:X.N[i]?=some x)(hv:GS X.env.scope x)(hd:autoParam ((x ==("__debug__":Str))=false) ℜ1)(fH:autoParam ((x ==("__classdict__":Str))=false) ℜ1):PE X (.Name x pos) (uQ i):=by
 intro pins s σ H Q I h;obtain⟨v,e,h⟩:=h;obtain⟨m,hn,hl⟩:=I.loc;obtain⟨u,r,l⟩:=hl i x v hN e hv;have fin:EP X pins σ Q u s:=⟨v,H,I,r,h⟩;rcases l with ⟨hk,hm⟩|⟨hk,c,hc,hcell⟩
 ·exact wpAny_Name (wpAny_loadName_local I.ok.kind hk hn hm fin) hd
 ·rcases hk with hk|hk
  ·exact wpAny_Name (wpAny_loadName_cell I.ok.kind hk hc hcell fin) hd
  ·exact wpAny_Name (wpAny_loadName_free I.ok.kind hk hc hcell fin fH) hd
theorem xM{i j pos}:PE X (.Constant (.int i) j pos) (tC (.int i)):=λ_ _ _ H _ I h=>wpAny_Constant_int ⟨.int i,H,I.tok _,⟨_,rfl⟩,h⟩
theorem Ci{b j pos}:PE X (.Constant (.bool b) j pos) (tC (.bl b)):=λ_ _ _ H _ I h=>Constant_bool ⟨.bl b,H,I,rfl,h⟩
theorem xw{j pos}:PE X (.Constant .none j pos) (tC .aT):=λ_ _ _ H _ I h=>Constant_none ⟨.aT,H,I,rfl,h⟩
theorem xI{x j pos}:PE X (.Constant (.str x) j pos) (tC (.str x)):=λ_ _ _ H _ I h=>Calls.Constant_str ⟨.str x,H,I.tok _,⟨_,rfl⟩,h⟩
noncomputable def Gl(X:Cx)(x:Str):Prop:=X.env.kindOf x=some .globalImplicit
theorem jz{s:Shared}{pos:Pos}(I:Inv X pins σ H s)(hg:Gl X x)(hm:X.mg x=some u)(h:Q u s)
  (hd:autoParam ((x ==("__debug__":Str))=false) ℜ1):wpAny (model X.prog X.w) X.A (eval (.Name x pos) X.env) Q E s:=
 Nb I.ok.kind hg (Calls.loadGlobal_global (by rw[I.ok.glob];exact I.mod.glob.keeps I.bk) hm h) hd
theorem hW{s:Shared}{pos:Pos}(I:Inv X pins σ H s)(hg:Gl X x)(hm:X.mg x=none)(hv:bootBuiltins x=some u)(h:Q u s)
  (hn:autoParam (x≠"__name__") ℜ1) (hd:autoParam ((x ==("__debug__":Str))=false) ℜ1):wpAny (model X.prog X.w) X.A (eval (.Name x pos) X.env) Q E s:=by
 obtain⟨mb,h1,h2⟩:=I.mod.blt;exact Nb I.ok.kind hg (Calls.loadGlobal_builtin (by rw[I.ok.glob];exact I.mod.glob.keeps I.bk) hm (by rw[I.ok.blt];exact h1.keeps I.bk) ((h2 x hn).trans hv) h) hd
theorem tF{v:V}{pos:Pos}(hg:Gl X x)(hm:X.mg x=some u)(r:RelV v u)(hd:autoParam ((x ==("__debug__":Str))=false) ℜ1):PE X (.Name x pos) (tC v):=
 λ_ _ _ H _ I h=>jz I hg hm ⟨v,H,I,r,h⟩ hd
theorem zR{v:V}{pos:Pos}(hg:Gl X x)(hm:X.mg x=none)(hv:bootBuiltins x=some u)(r:RelV v u)(hn:autoParam (x≠"__name__") ℜ1)(hd:autoParam ((x ==("__debug__":Str))=false) ℜ1):PE X (.Name x pos) (tC v):=
 λ_ _ _ H _ I h=>hW I hg hm hv ⟨v,H,I,r,h⟩ hn hd
variable {a b:Expr} {ta tb:TE} {pos:Pos}
variable {tA tB':TT} {rest:List Expr}
noncomputable def ym(t u:TT):TT:=λσ H Q=>t σ H λc H1=>if c=true then u σ H1 Q else Q false H1
noncomputable def GW(t u:TT):TT:=λσ H Q=>t σ H λc H1=>if c=true then Q true H1 else u σ H1 Q
noncomputable def vO(t:TT):TT:=λσ H Q=>t σ H λc H1=>Q (!c) H1
theorem AQ(ha:PT X a tA):PW X (.BoolOp .And [a] pos) tA:=by
 intro wh pins s σ H Q I h;refine isTrue_and (bT (ha pins s σ H Q I h) λc s1 e=>?_)
 cases c with
 |true=>exact isTrue_and_nil e
 |false=>exact e
theorem EV(ha:PT X a tA):PW X (.BoolOp .Or [a] pos) tA:=by
 intro wh pins s σ H Q I h;refine isTrue_or (bT (ha pins s σ H Q I h) λc s1 e=>?_)
 cases c with
 |false=>exact isTrue_or_nil e
 |true=>exact e
theorem Ej(ha:PT X a tA)(hb:PW X (.BoolOp .And (b::rest) pos) tB'):PW X (.BoolOp .And (a::b::rest) pos) (ym tA tB'):=by
 intro wh pins s σ H Q I h;refine isTrue_and (bT (ha pins s σ H _ I h) λc s1 hq7=>?_);obtain⟨H1,I1,q1⟩:=hq7
 cases c with
 |true=>exact hb wh pins s1 σ H1 Q I1 q1
 |false=>exact⟨H1,I1,q1⟩
theorem Gw(ha:PT X a tA)(hb:PW X (.BoolOp .Or (b::rest) pos) tB'):PW X (.BoolOp .Or (a::b::rest) pos) (GW tA tB'):=by
 intro wh pins s σ H Q I h;refine isTrue_or (bT (ha pins s σ H _ I h) λc s1 hq8=>?_);obtain⟨H1,I1,q1⟩:=hq8
 cases c with
 |true=>exact⟨H1,I1,q1⟩
 |false=>exact hb wh pins s1 σ H1 Q I1 q1
theorem Ez(ha:PT X a tA):PT X (.UnaryOp .Not a pos) (vO tA):=by
 intro pins s σ H Q I h;exact isTrue_not (ha pins s σ H (λc H1=>Q (!c) H1) I h)
noncomputable def pX(ta tb:TE):TE:=λσ H Q=>ta σ H λx H1=>∃c,x=.bl c/\if c=true then tb σ H1 Q else Q (.bl false) H1
theorem Dp{op}{t:TE}(h:PE X a t):PE X (.BoolOp op [a] pos) t:=λpins s σ H Q I hw=>BoolOp_one (h pins s σ H Q I hw)
theorem Dg(ha:PE X a ta)(hb:PE X (.BoolOp .And (b::rest) pos) tb):PE X (.BoolOp .And (a::b::rest) pos) (pX ta tb):=by
 intro pins s σ H Q I h;refine BoolOp_and (bT (ha pins s σ H _ I h) λv s1 hq9=>?_);obtain⟨x,H1,I1,r1,q1⟩:=hq9;obtain⟨c,rfl,q1⟩:=q1;cases r1;refine Lq ?_
 cases c with
 |true=>exact hb pins s1 σ H1 Q I1 q1
 |false=>exact⟨.bl false,H1,I1,rfl,q1⟩
noncomputable def Gb(t:TT)(ta tb:TE):TE:=λσ H Q=>t σ H λc H1=>if c=true then ta σ H1 Q else tb σ H1 Q
theorem ze{c:Expr}(hc:PT X c tA)(ha:PE X a ta)(hb:PE X b tb):PE X (.IfExp c a b pos) (Gb tA ta tb):=by
 intro pins s σ H Q I h;refine wpAny_IfExp (bT (hc pins s σ H _ I h) λd s1 hq12=>?_);obtain⟨H1,I1,q1⟩:=hq12
 cases d with
 |true=>exact ha pins s1 σ H1 Q I1 q1
 |false=>exact hb pins s1 σ H1 Q I1 q1
end
noncomputable def ck(K:Og)(H:Hp)(a:Addr)(xs:List V):Prop:=
 Rd H a (.lst xs) \/
  ∃(o:Obj) (its:Array Value) (n:Nat),K.lookup a=some o/\o.cls=.type "list"/\o.dict=none/\o.data=.seq its n/\its.size<=sizeLine/\Vals xs its.toList
noncomputable def bu(K:Og)(H:Hp)(a:Addr)(xs:List V):Prop:=
 Rd H a (.tup xs) \/
  ∃(o:Obj) (its:Array Value) (n:Nat),K.lookup a=some o/\o.cls=.type "tuple"/\o.data=.seq its n/\its.size<=sizeLine/\Vals xs its.toList
noncomputable def HL:Value->Option V
 |.none=>some .aT
 |.bool b=>some (.bl b)
 |.int i _=>some (.int i)
 |.str x _=>some (.str x)
 |.bytes b _=>some (.qf b)
 |.float b _=>some (.EM b)
 |.ref a=>some (.ref a)
 |.type n=>some (.ty n)
 |_=>none
theorem RelV.abs{x:V}(r:RelV x u):HL u=some x:=by
 cases x with
 |aT=>cases r;rfl
 |bl _=>cases r;rfl
 |int _=>obtain⟨t,rfl⟩:=r;rfl
 |str _=>obtain⟨t,rfl⟩:=r;rfl
 |qf _=>obtain⟨t,rfl⟩:=r;rfl
 |EM _=>obtain⟨t,rfl⟩:=r;rfl
 |ref _=>cases r;rfl
 |ty _=>cases r;rfl
theorem RelV.inj{x y:V}(r:RelV x u)(q:RelV y u):x=y:=Option.some.inj (r.abs.symm.trans q.abs)
theorem Vals.inj:∀{xs ys:List V} {us:List Value},Vals xs us->Vals ys us->xs=ys
 |_,_,_,.nil,.nil=>rfl
 |_,_,_,.cons r t,.cons r' t'=>by rw[r.inj r',Vals.inj t t']
section
variable {X:Cx} {pins:List (Addr×Obj)} {σ:St} {H:Hp} {s:Shared} {a:Addr} {xs ys:List V}
theorem ck.of(h:H a=some (.lst xs)):ck K H a xs:=.inl (.inl h)
theorem bu.of(h:H a=some (.tup xs)):bu K H a xs:=.inl (.inl h)
theorem Inv.list(I:Inv X pins σ H s)(h:ck X.K H a xs):∃its:List Value,Vals xs its/\PlainL s.heap a its.toArray/\xs.length<=sizeLine:=by
 rcases h with h|⟨o,its,n,hk,hc,hd,hs,hz,r⟩
 ·obtain⟨z,its,n,r,e⟩:=h.ok I.bc;exact⟨its,r,⟨_,n,e,rfl,rfl,rfl⟩,z⟩
 ·refine⟨its.toList,r,⟨o,n,I.iu a o hk,hc,hd,by simpa using hs⟩,?_⟩
  have e:=r.length;simp only[J8] at e;lia
theorem Inv.tuple(I:Inv X pins σ H s)(h:bu X.K H a xs):∃its:List Value,Vals xs its/\IsTup s.heap a its.toArray/\xs.length<=sizeLine:=by
 rcases h with h|⟨o,its,n,hk,hc,hs,hz,r⟩
 ·obtain⟨z,its,r,p⟩:=h.ok I.bc;exact⟨its,r,p.to,z⟩
 ·refine⟨its.toList,r,⟨o,I.iu a o hk,hc,n,by simpa using hs⟩,?_⟩
  have e:=r.length;simp only[J8] at e;lia
theorem Inv.pW(I:Inv X pins σ H s)(h:ck X.K H a xs)(h':ck X.K H a ys):xs=ys:=by
 obtain⟨its,r,⟨o,n,e,_,_,d⟩,_⟩:=I.list h;obtain⟨its',r',⟨o',n',e',_,_,d'⟩,_⟩:=I.list h';rw[e] at e';cases e';rw[d] at d'
 injection d' with d1 _
 have:its=its':=by simpa using JH Array.toList d1
 subst this;exact r.inj r'
theorem Inv.iM(I:Inv X pins σ H s)(h:bu X.K H a xs)(h':bu X.K H a ys):xs=ys:=by
 obtain⟨its,r,⟨o,e,_,n,d⟩,_⟩:=I.tuple h;obtain⟨its',r',⟨o',e',_,n',d'⟩,_⟩:=I.tuple h';rw[e] at e';cases e';rw[d] at d'
 injection d' with d1 _
 have:its=its':=by simpa using JH Array.toList d1
 subst this;exact r.inj r'
end
abbrev Cx.kP(X:Cx)(E:Value->Shared->Prop):Cx:={X with xe:=E}
abbrev Cx.qd(X:Cx):Cx:=X.kP λ_ _=>False
theorem Cx.Ok.kP(ok:X.Ok)(E:Value->Shared->Prop):(X.kP E).Ok:=
 ⟨ok.mod,ok.kind,ok.glob,ok.blt,ok.above,ok.inj,ok.has,ok.GA,ok.hd,ok.frames,ok.Hu,ok.Im,ok.bs,ok.zD,ok.zx,ok.AA,ok.jm,ok.Ey,ok.tabs⟩
theorem Cx.Ok.fP(ok:(X.kP E).Ok):X.Ok:=
 ⟨ok.mod,ok.kind,ok.glob,ok.blt,ok.above,ok.inj,ok.has,ok.GA,ok.hd,ok.frames,ok.Hu,ok.Im,ok.bs,ok.zD,ok.zx,ok.AA,ok.jm,ok.Ey,ok.tabs⟩
section
variable {X:Cx} {pins:List (Addr×Obj)} {σ:St} {H:Hp} {s:Shared} {E:Value->Shared->Prop}
theorem Inv.kP(I:Inv X pins σ H s)(E:Value->Shared->Prop):Inv (X.kP E) pins σ H s:=⟨I.ok.kP E,I.os,I.bare,I.base,I.loc,I.cell,I.free,I.fD,I.pin,I.bc,I.len⟩
theorem Inv.fP(I:Inv (X.kP E) pins σ H s):Inv X pins σ H s:=⟨I.ok.fP,I.os,I.bare,I.base,I.loc,I.cell,I.free,I.fD,I.pin,I.bc,I.len⟩
theorem SP.fP{f:Flow}(h:SP (X.kP E) pins D f s'):SP X pins D f s':=by
 cases f with
 |next=>obtain⟨σ',H',I,q⟩:=h;exact⟨σ',H',I.fP,q⟩
 |brk=>obtain⟨σ',H',I,q⟩:=h;exact⟨σ',H',I.fP,q⟩
 |cont=>obtain⟨σ',H',I,q⟩:=h;exact⟨σ',H',I.fP,q⟩
 |ret u=>obtain⟨v,σ',H',I,r,q⟩:=h;exact⟨v,σ',H',I.fP,r,q⟩
theorem rN.qd{st:List Stmt}{t:TS}(h:rN X.qd st t):rN X st t:=λpins s σ H D I hw =>
 JO (h pins s σ H D (I.kP _) hw) (λ_ _ q=>q.fP) λ_ _ z=>False.elim z
end
section
variable {X:Cx} {st:Stmt} {rest:List Stmt} {t u:TS} {e:Expr} {te:TE} {pos:Pos}
noncomputable def p7:TS:=λD σ H=>D.nx σ H
noncomputable def uR(t u:TS):TS:=λD σ H=>t {D with nx:=u D} σ H
theorem A9:rN X [] p7:=λ_ _ σ H _ I h=>My ⟨σ,H,I,h⟩
theorem xJ(h1:PS X st t)(h2:rN X rest u):rN X (st::rest) (uR t u):=by
 intro pins s σ H D I h;refine wpAny_execs_cons (bT (h1 pins s σ H {D with nx:=u D} I h) λf s1 q=>?_)
 cases f with
 |next =>
  obtain⟨σ',H',I',q⟩:=q;exact h2 pins s1 σ' H' D I' q
 |ret v=>exact q
 |brk=>exact q
 |cont=>exact q
theorem BF(h1:PS X st t):rN X [st] t:=by
 intro pins s σ H D I h;refine wpAny_execs_cons (bT (h1 pins s σ H D I h) λf s1 q=>?_)
 cases f with
 |next=>exact My q
 |ret v=>exact q
 |brk=>exact q
 |cont=>exact q
theorem Inv.quiet{s:Shared}(I:Inv X pins σ H s):interactive X.env=false:=by simp[interactive,I.ok.kind]
noncomputable def ph(te:TE):TS:=λD σ H=>te σ H λ_ H1=>D.nx σ H1
theorem AO(he:PE X e te)(hs:autoParam (swapsWith e none pos.line X.env=pure false) ℜ0):PS X (.Expr e pos) (ph te):=by
 intro pins s σ H D I h;exact wpAny_Expr_any (bT (he pins s σ H _ I h) λv s1 ⟨x,H1,I1,r1,q1⟩=>⟨σ,H1,I1,q1⟩) I.quiet hs
noncomputable def yS(te:TE):TS:=λD σ H=>te σ H D.rt
theorem CN(he:PE X e te):PS X (.Return (some e) pos) (yS te):=by
 intro pins s σ H D I h;exact wpAny_Return_some (bT (he pins s σ H _ I h) λv s1 ⟨x,H1,I1,r1,q1⟩=>⟨x,σ,H1,I1,r1,q1⟩)
noncomputable def ng(c:TT)(t u:TS):TS:=λD σ H=>c σ H λb H1=>if b=true then t D σ H1 else u D σ H1
theorem Gj{c:Expr}{a b:List Stmt}{tc:TT}(hc:PT X c tc)(ha:rN X a t)(hb:rN X b u):PS X (.If c a b pos) (ng tc t u):=by
 intro pins s σ H D I h;refine wpAny_If (bT (hc pins s σ H _ I h) λd s1 hq13=>?_);obtain⟨H1,I1,q1⟩:=hq13
 cases d with
 |true=>exact ha pins s1 σ H1 D I1 q1
 |false=>exact hb pins s1 σ H1 D I1 q1
end
abbrev TG:=V->St->Hp->(St->Hp->Prop)->Prop
abbrev yc:=List V->St->Hp->(St->Hp->Prop)->Prop
noncomputable def PG(X:Cx)(target:Expr)(t:TG):Prop:=
 ∀(pins:List (Addr×Obj)) (s:Shared) (σ:St) (H:Hp) (v:V) (u:Value) (Q:St->Hp->Prop),Inv X pins σ H s->RelV v u->t v σ H Q ->
  wpAny (model X.prog X.w) X.A (assign target X.env u) (λ_ s'=>∃σ' H',Inv X pins σ' H' s'/\Q σ' H') X.xe s
noncomputable def Hf(X:Cx)(ts:List Expr)(t:yc):Prop:=
 ∀(pins:List (Addr×Obj)) (s:Shared) (σ:St) (H:Hp) (vs:List V) (us:List Value) (Q:St->Hp->Prop),Inv X pins σ H s->Vals vs us->t vs σ H Q ->
  wpAny (model X.prog X.w) X.A (assignInOrder ((assignEach ts X.env).map (·.2)) us) (λ_ s'=>∃σ' H',Inv X pins σ' H' s'/\Q σ' H') X.xe s
abbrev A6:=V->V->V->Hp->(Hp->Prop)->Prop
noncomputable def C4(X:Cx)(t:A6):Prop:=
 ∀(pins:List (Addr×Obj)) (s:Shared) (σ:St) (H:Hp) (o i v:V) (ov iv u:Value) (Q:Hp->Prop),Inv X pins σ H s->RelV o ov->RelV i iv->RelV v u->t o i v H Q ->
  wpAny (model X.prog X.w) X.A (setItem ov iv u) (λ_ s'=>∃H',Inv X pins σ H' s'/\Q H') X.xe s
section
variable {X:Cx} {pos:Pos}
noncomputable def bC(i:Nat):TG:=λv σ H Q=>Q (σ.set i (some v)) H
theorem Bv(hN:X.N.Nodup)(hi:X.N[i]?=some x)(hx:Loc X.env.scope x)(hf:autoParam (X.fn x=true\/X.env.scope.names.lookup x=some .local) ℜ2):PG X (.Name x pos) (bC i):=by
 intro pins s σ H v u Q I r h;exact wpAny_assign_Name (oM I hN hi hx r (λs' I'=>⟨_,H,I',h⟩) hf)
noncomputable def qr:yc:=λvs σ H Q=>vs=[]/\Q σ H
noncomputable def ij(t:TG)(u:yc):yc:=λvs σ H Q=>∃v r,vs=v::r/\t v σ H λσ' H'=>u r σ' H' Q
theorem AI:Hf X [] qr:=by
 intro pins s σ H vs us Q I r h;obtain⟨e,h⟩:=h;subst e;cases r;exact assignInOrder_nil ⟨σ,H,I,h⟩
theorem vN{t:TG}{u:yc}(h1:PG X e t)(h2:Hf X es u)
  (hs:autoParam ((assignEach (e::es) X.env).map (·.2)=assign e X.env::(assignEach es X.env).map (·.2)) ℜ0):Hf X (e::es) (ij t u):=by
 intro pins s σ H vs us Q I r h;obtain⟨v,vr,e1,h⟩:=h;subst e1
 cases r with
 |cons r rr =>
  rw[hs];refine assignInOrder_cons (bT (h1 pins s σ H _ _ _ I r h) λ_ s1 hq14=>?_);obtain⟨σ1,H1,I1,q1⟩:=hq14;exact h2 pins s1 σ1 H1 _ _ Q I1 rr q1
noncomputable def Ag(K:Og)(n:Nat)(t:yc):TG:=λv σ H Q=>∃a xs,v=.ref a/\bu K H a xs/\xs.length=n/\t xs σ H Q
theorem Es{t:yc}{n:Nat}(hc:X.calm=true)(h:Hf X es t)
  (hn:autoParam ((assignEach es X.env).length=n) ℜ0) (hst:autoParam ((assignEach es X.env).findIdx? (·.1)=none) ℜ0):PG X (.Tuple es k pos) (Ag X.K n t):=by
 intro pins s σ H v u Q I r hw;obtain⟨a,xs,e1,hq,hl,hw⟩:=hw;subst e1;cases r;obtain⟨its,rv,ht,hz⟩:=I.tuple hq;refine assign_Tuple_tuple (I.ok.hd hc) ht (by simp[hn,<- hl,rv.length]) hst λh' hx=>?_
 have I1:Inv X pins σ H {s with heap:=h'}:=I.kept (t':=s.toks) λb o e=>hx b o (Jr (Jh e)) e
 exact h pins _ σ H xs _ Q I1 (by simpa using rv) hw
noncomputable def xq(to ti:TE)(t:A6):TG:=λv σ H Q=>to σ H λo H1=>ti σ H1 λi H2=>t o i v H2 λH3=>Q σ H3
theorem EN{o i:Expr}{to ti:TE}{t:A6}(ho:PE X o to)(hi:PE X i ti)(hs:C4 X t)
  (ha:autoParam (∀v,assign (.Subscript o i pos) X.env v=(do
   let ov <- holding [v] (eval o X.env)
   let iv <- holding [v,ov] (eval i X.env)
   standAt pos
   holding [v,ov,iv] (setItem ov iv v)
   release [v,ov,iv] [])) ℜ3):PG X (.Subscript o i pos) (xq to ti t):=by
 intro pins s σ H v u Q I r h;rw[ha];refine IK (JN (bT (ho pins s σ H _ I h) λov s1 hq15=>?_));obtain⟨x,H1,I1,r1,q1⟩:=hq15;refine IK (JN (bT (hi pins s1 σ H1 _ I1 q1) λiv s2 hq16=>?_));obtain⟨y,H2,I2,r2,q2⟩:=hq16;refine IK (Nc (IK (JN (bT (hs pins s2 σ H2 x y v ov iv u _ I2 r1 r2 r q2) λ_ s3 hq17=>?_))));obtain⟨H3,I3,q3⟩:=hq17;exact wpAny_release ⟨σ,H3,I3,q3⟩
noncomputable def nA(te:TE)(g:TG):TS:=λD σ H=>te σ H λx H1=>g x σ H1 D.nx
theorem DB{te:TE}{g:TG}(he:PE X e te)(hg:PG X tg g)(hs:autoParam (swapsWithSole [tg] e pos.line X.env=pure false) ℜ0)(hw:autoParam (swappedStores [tg] e X.env=pure none) ℜ0)
  (h1:autoParam ((assignEach [tg] X.env).map (·.2)=[assign tg X.env]) ℜ0):PS X (.Assign [tg] e pos) (nA te g):=by
 intro pins s σ H D I h;refine wpAny_Assign_stores (bT (he pins s σ H _ I h) λv s1 hq18=>?_) hs hw;obtain⟨x,H1,I1,r1,q1⟩:=hq18;rw[h1];exact bT (hg pins s1 σ H1 x v _ I1 r1 q1) λ_ s2 q=>q
theorem Em{te:TE}{pos':Pos}(hN:X.N.Nodup)(hi:X.N[i]?=some x)(hx:Loc X.env.scope x)(he:PE X e te)(hs:autoParam (swapsWith e (some (.Name x pos')) pos.line X.env=pure false) ℜ0)(hf:autoParam (X.fn x=true\/X.env.scope.names.lookup x=some .local) ℜ2):
  PS X (.Assign [.Name x pos'] e pos) (nA te (bC i)):=by
 intro pins s σ H D I h;refine wpAny_Assign_Name (bT (he pins s σ H _ I h) λv s1 hq19=>?_) hs;obtain⟨y,H1,I1,r1,q1⟩:=hq19;exact oM I1 hN hi hx r1 (λs2 I2=>⟨_,H1,I2,q1⟩) hf
end
section
variable {X:Cx} {pos:Pos}
noncomputable def zf(c:TT)(tb:TS):TS:=λD σ H=>∃W:Nat->St->Hp->Prop,(∃m,W m σ H)/\∀m σ H,W m σ H ->
 c σ H λb H1=>if b=true then ∃N:St->Hp->Prop,(∀σ' H',N σ' H'->∃m',m'<m/\W m' σ' H')/\tb {D with nx:=N,ct:=N,bk:=D.nx} σ H1 else D.nx σ H1
theorem wb{c:Expr}{tc:TT}(hp:PassesOwn (model X.prog X.w) X.A X.env X.xe)(hc:PT X c tc)(hb:rN X body tb):PS X (.While c body [] pos) (zf tc tb):=by
 intro pins s σ H D I h;obtain⟨W,⟨m0,w0⟩,turn⟩:=h;refine wpAny_While (codeAny_whileLoop (λn s'=>∃σ' H',Inv X pins σ' H' s'/\W n σ' H') ?_ m0 ⟨σ,H,I,w0⟩);rintro n s1 ⟨σ1,H1,I1,w1⟩;refine K9 hp (bT (hc pins s1 σ1 H1 _ I1 (turn n σ1 H1 w1)) λb s2 hq28=>?_);obtain⟨H2,I2,q2⟩:=hq28
 cases b with
 |true =>
  obtain⟨N,hN,q2⟩:=q2;rw[IW rfl];refine K9 hp (bT (hb pins s2 σ1 H2 _ I2 q2) λf s3 q3=>?_)
  cases f with
  |next =>
   obtain⟨σ3,H3,I3,n3⟩:=q3;obtain⟨m',hm,w3⟩:=hN σ3 H3 n3;exact⟨m',hm,σ3,H3,I3,w3⟩
  |cont =>
   obtain⟨σ3,H3,I3,n3⟩:=q3;obtain⟨m',hm,w3⟩:=hN σ3 H3 n3;exact⟨m',hm,σ3,H3,I3,w3⟩
  |brk=>exact q3
  |ret v=>exact q3
 |false =>
  rw[IT Jb];exact My ⟨σ1,H2,I2,q2⟩
end
structure It where
 go:Nat->Hp->Prop
 BX:Nat->Hp->V->Hp->Prop
 stop:Nat->Hp->Prop
noncomputable def la(X:Cx)(pins:List (Addr×Obj))(H:Hp)(b:Addr):Prop:=
 H b=none/\b≠X.env.locals/\b∉X.fs/\(b∈X.ex\/X.s₀.heap.objs.size<=b)/\(∀x c,X.env.cells.lookup x=some c->c≠b)/\∀p∈X.pn++pins,p.1≠b
theorem Inv.rL{H':Hp}{s:Shared}(I:Inv X pins σ H s)(hb:s.heap.objs.size<=b)(hn:H' b=none):la X pins H' b:=by
 refine⟨hn,Kv (Ju I.lt hb),I.Gd hb,.inr (IY I.sz hb),λx c e z=>?_,λp hp z=>?_⟩
 ·obtain⟨v,q⟩:=I.cell x c e;exact absurd (Ju q.lt (by rw[z];exact hb)) (Kf _)
 ·exact absurd (Ju (Jh (I.pin p hp).1) (by rw[z];exact hb)) (Kf _)
structure Turn (P:Program) (w:World) (K:Og) (tg:Expr) (J:It) (fp:List Addr) (it:Addr) (tn:Nat->Heap->Prop):Prop where
 mem:it∈fp
 obj:∀i h,tn i h->∀b∈fp,∃o,h.get? b=some o/\∀v,o.data≠.cell v
 keep:∀i h h',tn i h->(∀b∈fp,∀o,h.get? b=some o->h'.get? b=some o)->tn i h'
 item:∀(X:Cx),X.prog=P->X.w=w->X.K=K->X.calm=true->∀(i:Nat) (pins:List (Addr×Obj)) (s:Shared) (σ:St) (H:Hp) (E:Value->Shared->Prop),Inv X pins σ H s->(∀b∈fp,la X pins H b)->tn i s.heap->J.go i H ->
  wpAny (model P w) X.A (pyNext (.ref it)) (λr s1=>∃u,r=some u /\
   wpAny (model P w) X.A (letOwnedTupleGo tg (.ref it) u) (λ_ s2=>∃x H',Inv X pins σ H' s2/\RelV x u/\J.BX i H x H'/\tn (i+1) s2.heap/\∀b∈fp,H' b=none) E s1) E s
 done:∀(X:Cx),X.prog=P->X.w=w->X.K=K->X.calm=true->∀(i:Nat) (pins:List (Addr×Obj)) (s:Shared) (σ:St) (H:Hp) (E:Value->Shared->Prop),Inv X pins σ H s->(∀b∈fp,la X pins H b)->tn i s.heap->J.stop i H ->
  wpAny (model P w) X.A (pyNext (.ref it)) (λr s1=>r=none/\Inv X pins σ H s1) E s
 self:∀(A:Around) (i:Nat) (s:Shared) (Q:Value->Shared->Prop) (E:Value->Shared->Prop),tn i s.heap->Q (.ref it) s->wpAny (model P w) A (pyIter (.ref it)) Q E s
abbrev TI:=St->Hp->(It->Hp->Prop)->Prop
noncomputable def HB(X:Cx)(pins:List (Addr×Obj))(σ:St)(tg:Expr)(R:It->Hp->Prop)(itv:Value)(s2:Shared):Prop:=
 ∃(it:Addr) (fp:List Addr) (tn:Nat->Heap->Prop) (J:It) (H':Hp),itv=.ref it/\Inv X pins σ H' s2/\Turn X.prog X.w X.K tg J fp it tn/\tn 0 s2.heap/\(∀b∈fp,la X pins H' b)/\R J H'
noncomputable def PI(X:Cx)(tg iter:Expr)(wi:TI):Prop:=
 ∀(pins:List (Addr×Obj)) (s:Shared) (σ:St) (H:Hp) (R:It->Hp->Prop),Inv X pins σ H s->wi σ H R ->
  wpAny (model X.prog X.w) X.A (eval iter X.env) (λv s1=>wpAny (model X.prog X.w) X.A (pyIter v) (HB X pins σ tg R) X.xe s1) X.xe s
theorem v_{A:Around}{s:Shared}{it:Addr}{o:Obj}{n:String}{vs:Array Value}{Q:Unit->Shared->Prop}(ho:s.heap.get? it=some o)(hc:o.cls=.type n)(hd:o.data=.fields vs)
    (hn:["enumerate","zip","dict_itemiterator","dict_reverseitemiterator","odict_iterator","itertools.zip_longest","itertools.pairwise"].contains n=false) (hQ:Q () s):wpAny M A (letOwnedTupleGo tg (.ref it) u) Q E s:=by
  unfold letOwnedTupleGo
  cases tg<;>first
    |exact Ja hQ
    | (cases u<;>first
        |exact Ja hQ
        | (refine IK (wpAny_load ho ?_)
           rw[hc,hd];show wpAny M A (if (["enumerate","zip","dict_itemiterator","dict_reverseitemiterator","odict_iterator","itertools.zip_longest","itertools.pairwise"].contains n && vs[0]? == some (rawInt _))=true then _ else _) Q E s
           rw[IT (by intro h;rw[hn,MP] at h;cases h)]
           exact Ja hQ))
noncomputable def ye(K:Og)(a:Addr):It:=
 ⟨λi H=>∃xs x,ck K H a xs/\xs[i]?=some x,λi H x H'=>H'=H/\∀xs,ck K H a xs->xs[i]?=some x,λi H=>∃xs,ck K H a xs/\xs.length<=i⟩
noncomputable def sP(K:Og)(a:Addr):It:=
 ⟨λi H=>∃xs x,bu K H a xs/\xs[i]?=some x,λi H x H'=>H'=H/\∀xs,bu K H a xs->xs[i]?=some x,λi H=>∃xs,bu K H a xs/\xs.length<=i⟩
noncomputable def Bg(lo:Int)(n:Nat):It:=⟨λi _=>i<n,λi H x H'=>H'=H/\x=.int (lo+i),λi _=>n<=i⟩
theorem lB(a it:Addr):Turn P w K tg (ye K a) [it] it (λi h=>h.IsListIter it a i) where
 mem:=by simp
 obj:=λi h st b hb=>by
  have e:b=it:=by simpa using hb
  subst e;obtain⟨o,e,c,d⟩:=st;exact⟨o,e,λv z=>by rw[d] at z;cases z⟩
 keep:=λi h h' st k=>st.at λo e=>k it (by simp) o e
 item:=by
  intro X hP hw hK hc i pins s σ H E I hf st hg;subst hP hw hK;obtain⟨xs,x,hq,hx⟩:=hg;obtain⟨its,rv,p,hz⟩:=I.list hq;obtain⟨u,hu,ru⟩:=rv.get hx;obtain⟨f0,f1,f2,f3,f4,f5⟩:=hf it (by simp)
  refine ND st p.isList (x:=u) (by simpa using hu) λh' st' sb=>?_
  have I1:Inv X pins σ H {s with heap:=h'}:=I.turned (t':=s.toks) (λb o hb e=>(sb.2 b hb).trans e) f0 f1 f3 f4 f5
  obtain⟨o,e,c,d⟩:=id st';exact⟨u,rfl,v_ (s:={s with heap:=h'}) e c d (by decide) ⟨x,H,I1,ru,⟨rfl,λys hy=>by rw[I.pW hy hq];exact hx⟩,st',λb hb=>(hf b hb).1⟩⟩
 done:=by
  intro X hP hw hK hc i pins s σ H E I hf st hg;subst hP hw hK;obtain⟨xs,hq,hx⟩:=hg;obtain⟨its,rv,p,hz⟩:=I.list hq;obtain⟨f0,f1,f2,f3,f4,f5⟩:=hf it (by simp)
  have hl:=rv.length;exact wpAny_pyNext_list_end (I.ok.hd hc) st p.isList (by simp;lia) λh' eb=>⟨rfl,I.turned (t':=s.toks) (λb o hb e=>eb b o hb e) f0 f1 f3 f4 f5⟩
 self:=λ_ _ _ _ _ st h=>wpAny_pyIter_listiter st h
theorem jU(a it:Addr):Turn P w K tg (sP K a) [it] it (λi h=>h.IsTupleIter it a i) where
 mem:=by simp
 obj:=λi h st b hb=>by
  have e:b=it:=by simpa using hb
  subst e;obtain⟨o,e,c,d⟩:=st;exact⟨o,e,λv z=>by rw[d] at z;cases z⟩
 keep:=λi h h' st k=>st.at λo e=>k it (by simp) o e
 item:=by
  intro X hP hw hK hc i pins s σ H E I hf st hg;subst hP hw hK;obtain⟨xs,x,hq,hx⟩:=hg;obtain⟨its,rv,p,hz⟩:=I.tuple hq;obtain⟨u,hu,ru⟩:=rv.get hx;obtain⟨f0,f1,f2,f3,f4,f5⟩:=hf it (by simp)
  refine wpAny_pyNext_tuple_item st (show s.heap.IsTuple a its.toArray from p) (x:=u) (by simpa using hu) λh' st' sb=>?_
  have I1:Inv X pins σ H {s with heap:=h'}:=I.turned (t':=s.toks) (λb o hb e=>(sb.2 b hb).trans e) f0 f1 f3 f4 f5
  obtain⟨o,e,c,d⟩:=id st';exact⟨u,rfl,v_ (s:={s with heap:=h'}) e c d (by decide) ⟨x,H,I1,ru,⟨rfl,λys hy=>by rw[I.iM hy hq];exact hx⟩,st',λb hb=>(hf b hb).1⟩⟩
 done:=by
  intro X hP hw hK hc i pins s σ H E I hf st hg;subst hP hw hK;obtain⟨xs,hq,hx⟩:=hg;obtain⟨its,rv,p,hz⟩:=I.tuple hq;obtain⟨f0,f1,f2,f3,f4,f5⟩:=hf it (by simp)
  have hl:=rv.length;exact wpAny_pyNext_tuple_end (I.ok.hd hc) st (show s.heap.IsTuple a its.toArray from p) (by simp;lia) λh' eb=>⟨rfl,I.turned (t':=s.toks) (λb o hb e=>eb b o hb e) f0 f1 f3 f4 f5⟩
 self:=λ_ _ _ _ _ st h=>wpAny_pyIter_tupleiter st h
theorem qX{w:World}(it:Addr)(lo:Int)(n:Nat):Turn P w K tg (Bg lo n) [it] it (λi h=>IsRangeIter h it (lo+(i:Nat)*1) ((n:Int)-(i:Nat)) 1) where
 mem:=by simp
 obj:=λi h st b hb=>by
  have e:b=it:=by simpa using hb
  subst e;exact⟨_,st,λv z=>by
   have z':Data.fields _=Data.cell v:=z
   cases z'⟩
 keep:=λi h h' st k=>k it (by simp) _ st
 item:=by
  intro X hP hw hK hc i pins s σ H E I hf st hg;subst hP hw hK;obtain⟨f0,f1,f2,f3,f4,f5⟩:=hf it (by simp)
  have W:=Walks.range (prog:=X.prog) (w:=X.w) (I.ok.hd hc) it lo 1 n;refine W.item i s _ _ hg st λv h' tk hv st' kk=>?_;obtain⟨t,rfl⟩:=hv;have I1:Inv X pins σ H {s with heap:=h',toks:=tk}:=I.turned (λb o hb e=>kk b o (by simpa using hb) e) f0 f1 f3 f4 f5
  refine⟨_,rfl,v_ (s:={s with heap:=h',toks:=tk}) (n:="range_iterator") st' rfl rfl (by decide) ⟨.int (lo+i),H,I1,⟨t,?_⟩,⟨rfl,rfl⟩,st',λb hb=>(hf b hb).1⟩⟩
  rw[Int.mul_one]
 done:=by
  intro X hP hw hK hc i pins s σ H E I hf st hg;subst hP hw hK;obtain⟨f0,f1,f2,f3,f4,f5⟩:=hf it (by simp)
  exact wpAny_pyNext_range_end (I.ok.hd hc) st (by have:n<=i:=hg;lia) λh' eb=>⟨rfl,I.turned (t':=s.toks) (λb o hb e=>eb b o hb e) f0 f1 f3 f4 f5⟩
 self:=λ_ _ _ _ _ st h=>wpAny_pyIter_rangeiter st h
section
variable {X:Cx} {tg:Expr}
theorem vI{s:Shared}{R:It->Hp->Prop}{lo hi:Int}{t u v:Tok}{tk:Nat}(I:Inv X pins σ H s)(h1:-(2^62)<=lo)(h2:lo<2^62)(h3:-(2^62)<=hi)(h4:hi<2^62)
  (q:R (Bg lo (hi-lo).toNat) H):wpAny (model X.prog X.w) X.A (pyIter (.ref s.heap.objs.size)) (HB X pins σ tg R) E {s with heap:=s.heap.push {cls:=.type "range",data:=.fields #[.int lo t,.int hi u,.int 1 v]},toks:=tk}:=by
 refine wpAny_pyIter_range (IsRange.new ..) (small_one h1 h2 h3 h4) ?_;have I1:Inv X pins σ H {s with heap:=s.heap.push {cls:=.type "range",data:=.fields #[.int lo t,.int hi u,.int 1 v]},toks:=tk}:=I.kept λb o e=>IM _ e
 refine⟨(s.heap.push {cls:=.type "range",data:=.fields #[.int lo t,.int hi u,.int 1 v]}).objs.size,[(s.heap.push {cls:=.type "range",data:=.fields #[.int lo t,.int hi u,.int 1 v]}).objs.size],_,_,H,rfl,
  I1.kept (t':=tk) λb o e=>IM _ e,qX _ lo (hi-lo).toNat,?_,λb hb=>?_,q⟩
 ·have e1:lo+((0:Nat):Int)*1=lo:=by simp
  have e2:(((hi-lo).toNat:Nat):Int)-((0:Nat):Int)=Builtin.Range.rangeSize lo hi 1:=by rw[rangeSize_one];split<;>lia
  show IsRangeIter _ _ (lo+((0:Nat):Int)*1) ((((hi-lo).toNat:Nat):Int)-((0:Nat):Int)) 1;rw[e1,e2];exact Jf _ rfl
 ·have e:b=(s.heap.push {cls:=.type "range",data:=.fields #[.int lo t,.int hi u,.int 1 v]}).objs.size:=by simpa using hb
  subst e;exact I1.rL (IU _) (I1.bc.fresh (IU _))
noncomputable def m4(ta:TA):TI:=λσ H R=>ta σ H λvs H1=>∃j:Int,vs=[.int j]/\-(2^62)<=j/\j<2^62/\R (Bg 0 j.toNat) H1
theorem vg{a:Expr}{ta:TA}{p pos:Pos}(hg:Gl X "range")(hm:X.mg "range"=none)(ha:PA X [a] ta)(hs:autoParam (starEach [a] X.env=[(false,eval a X.env)]) ℜ0):PI X tg (.Call (.Name "range" p) [a] [] pos) (m4 ta):=by
 intro pins s σ H R I h;refine Call_ (hW I hg hm boot_range (K4 (bT (ha pos pins s σ H _ I h) λus s1 hq31=>?_) hs rfl));obtain⟨vs,H1,I1,r1,q1⟩:=hq31;obtain⟨j,e,q1,q2,q⟩:=q1;subst e
 cases r1 with
 |cons r rr =>
  cases rr;obtain⟨t,rfl⟩:=r;exact call_range_1 (vI I1 (by lia) (by lia) q1 q2 (by simpa using q))
noncomputable def CP(wi:TI)(g:TG)(tb:TS):TS:=λD σ H=>wi σ H λJ H1=>∃W:Nat->Nat->St->Hp->Prop,(∃m,W 0 m σ H1)/\∀i m σ H,W i m σ H ->
 (J.stop i H/\D.nx σ H)\/(J.go i H/\∃N:St->Hp->Prop,(∀σ' H',N σ' H'->∃m',m'<m/\W (i+1) m' σ' H')/\∀x H',J.BX i H x H'->g x σ H' λσ2 H2=>tb {D with nx:=N,ct:=N,bk:=D.nx} σ2 H2)
noncomputable def iW(fp:List Addr)(h:Heap):List (Addr×Obj):=fp.filterMap λb=>(h.get? b).map λo=>(b,o)
theorem d_{o:Obj}(hb:b∈fp)(e:h.get? b=some o):(b,o)∈iW fp h:=LL.mpr ⟨b,hb,by rw[e];rfl⟩
theorem u_{p:Addr×Obj}(hp:p∈iW fp h):p.1∈fp/\h.get? p.1=some p.2:=by
 obtain⟨b,hb,e⟩:=LL.mp hp
 cases q:h.get? b with
 |none=>rw[q] at e;cases e
 |some o =>
  rw[q] at e;have e':(b,o)=p:=Option.some.inj e;subst e';exact⟨hb,q⟩
theorem Inv.pinned{s:Shared}(I:Inv X pins σ H s)(hf:∀b∈fp,la X pins H b)(ho:∀b∈fp,∃o,s.heap.get? b=some o/\∀v,o.data≠.cell v):Inv X (pins++iW fp s.heap) σ H s:=
 I.m9 λp hp=>(JG.mp hp).elim (λz=>I.pin p (Jo _ z)) λz=>by
  obtain⟨hb,e⟩:=u_ z;obtain⟨f0,f1,f2,_⟩:=hf p.1 hb;obtain⟨o,e',d⟩:=ho p.1 hb;rw[e] at e';cases e';exact⟨e,f0,f1,f2,d⟩
theorem Inv.fR{pl:List (Addr×Obj)}{s:Shared}(I:Inv X (pins++pl) σ H s):Inv X pins σ H s:=I.m9 λp hp=>I.pin p (Jo _ (Ku _ hp))
theorem DS{iter:Expr}{wi:TI}{g:TG}{pos:Pos}(hp:PassesOwn (model X.prog X.w) X.A X.env X.xe)(hc:X.calm=true)(hi:PI X tg iter wi)(hg:PG X tg g)(hb:rN X body tb)
  (hs:autoParam (∀x,foldedSetIterable iter X.env x=pure x) ℜ3):PS X (.For tg iter body [] pos) (CP wi g tb):=by
 intro pins s σ H D I h;refine wpAny_For (bT (hi pins s σ H _ I h) λv s1 h1=>bT h1 λitv s2 h2=>?_) hs;obtain⟨it,fp,tn,J,H2,e,I2,T,st2,f2,W,⟨m0,w0⟩,turn⟩:=h2;subst e;have stat:∀{H':Hp},(∀b∈fp,H' b=none)->∀b∈fp,la X pins H' b:=λhn b hb=>⟨hn b hb,(f2 b hb).2⟩;refine codeAny_forLoop_any (λn s'=>∃i σ' H',Inv X pins σ' H' s'/\tn i s'.heap/\(∀b∈fp,H' b=none)/\W i n σ' H') ?_ m0 ⟨0,σ,H2,I2,st2,λb hb=>(f2 b hb).1,w0⟩;rintro n s3 ⟨i,σ3,H3,I3,st3,fr3,w3⟩;rcases turn i n σ3 H3 w3 with ⟨stop,qn⟩|⟨go,N,hN,step⟩
 ·refine K9 hp (bT (T.done X rfl rfl rfl hc i pins s3 σ3 H3 X.xe I3 (stat fr3) st3 stop) λr s4 hq33=>?_);obtain⟨hr,I4⟩:=hq33;subst hr;exact My ⟨σ3,H3,I4,qn⟩
 ·refine K9 hp (bT (T.item X rfl rfl rfl hc i pins s3 σ3 H3 X.xe I3 (stat fr3) st3 go) λr s4 hq34=>?_);obtain⟨u,hr,h4⟩:=hq34;subst hr;refine K9 hp (bT h4 λ_ s5 hq35=>?_);obtain⟨x,H5,I5,r5,y5,st5,fr5⟩:=hq35;have I5':=I5.pinned (stat fr5) (T.obj _ _ st5);refine K9 hp (bT (hg _ s5 σ3 H5 x u _ I5' r5 (step x H5 y5)) λ_ s6 hq36=>?_);obtain⟨σ6,H6,I6,q6⟩:=hq36;refine K9 hp (bT (hb _ s6 σ6 H6 _ I6 q6) λf s7 q7=>?_);have again:∀{σ7:St} {H7:Hp},Inv X (pins++iW fp s5.heap) σ7 H7 s7->N σ7 H7->∃m,m<n/\∃i σ' H',Inv X pins σ' H' s7/\tn i s7.heap/\(∀b∈fp,H' b=none)/\W i m σ' H':=λ{σ7 H7} I7 n7=>by
   obtain⟨m',hm,w7⟩:=hN σ7 H7 n7;refine⟨m',hm,i+1,σ7,H7,I7.fR,T.keep _ _ _ st5 λb hb o e=>(I7.pin (b,o) (Jo _ (Jo _ (d_ hb e)))).1,λb hb=>?_,w7⟩;obtain⟨o,e,d⟩:=T.obj _ _ st5 b hb;exact (I7.pin (b,o) (Jo _ (Jo _ (d_ hb e)))).2.1
  cases f with
  |next=>obtain⟨σ7,H7,I7,n7⟩:=q7;exact again I7 n7
  |cont=>obtain⟨σ7,H7,I7,n7⟩:=q7;exact again I7 n7
  |brk=>obtain⟨σ7,H7,I7,q7⟩:=q7;exact⟨σ7,H7,I7.fR,q7⟩
  |ret v=>obtain⟨x7,σ7,H7,I7,r7,q7⟩:=q7;exact⟨x7,σ7,H7,I7.fR,r7,q7⟩
end
theorem yq{g:TG}(Pv:Nat->St->Hp->Prop)(h0:Pv 0 σ H)(hl:∀i σ H,i<=xs.length->Pv i σ H->ck K H a xs)
  (hs:∀i x σ H,xs[i]?=some x->Pv i σ H->g x σ H λσ2 H2=>tb {D with nx:=Pv (i+1),ct:=Pv (i+1),bk:=D.nx} σ2 H2) (hd:∀σ H,Pv xs.length σ H->D.nx σ H) :
  ∃W:Nat->Nat->St->Hp->Prop,(∃m,W 0 m σ H)/\∀i m σ H,W i m σ H ->
   ((ye K a).stop i H/\D.nx σ H)\/((ye K a).go i H/\∃N:St->Hp->Prop,(∀σ' H',N σ' H'->∃m',m'<m/\W (i+1) m' σ' H')/\∀x H',(ye K a).BX i H x H'->g x σ H' λσ2 H2=>tb {D with nx:=N,ct:=N,bk:=D.nx} σ2 H2):=by
 refine⟨λi m σ H=>m=xs.length-i/\i<=xs.length/\Pv i σ H,⟨xs.length,by simp,Jj _,h0⟩,?_⟩
 rintro i m σ H ⟨rfl,hi,p⟩;have q:=hl i σ H hi p;by_cases hlt:i<xs.length
 ·refine .inr ⟨⟨xs,xs[i],q,by simp[hlt]⟩,Pv (i+1),λσ' H' p'=>⟨xs.length-(i+1),by lia,rfl,hlt,p'⟩,λx H' y=>?_⟩
  obtain⟨e,y⟩:=y;subst e;exact hs i x σ _ (y xs q) p
 ·have e:i=xs.length:=by lia
  subst e;exact .inl ⟨⟨xs,q,IU _⟩,hd σ H p⟩
theorem Av{g:TG}(Pv:Nat->St->Hp->Prop)(h0:Pv 0 σ H)(hl:∀i σ H,i<=xs.length->Pv i σ H->bu K H a xs)
  (hs:∀i x σ H,xs[i]?=some x->Pv i σ H->g x σ H λσ2 H2=>tb {D with nx:=Pv (i+1),ct:=Pv (i+1),bk:=D.nx} σ2 H2) (hd:∀σ H,Pv xs.length σ H->D.nx σ H) :
  ∃W:Nat->Nat->St->Hp->Prop,(∃m,W 0 m σ H)/\∀i m σ H,W i m σ H ->
   ((sP K a).stop i H/\D.nx σ H)\/((sP K a).go i H/\∃N:St->Hp->Prop,(∀σ' H',N σ' H'->∃m',m'<m/\W (i+1) m' σ' H')/\∀x H',(sP K a).BX i H x H'->g x σ H' λσ2 H2=>tb {D with nx:=N,ct:=N,bk:=D.nx} σ2 H2):=by
 refine⟨λi m σ H=>m=xs.length-i/\i<=xs.length/\Pv i σ H,⟨xs.length,by simp,Jj _,h0⟩,?_⟩
 rintro i m σ H ⟨rfl,hi,p⟩;have q:=hl i σ H hi p;by_cases hlt:i<xs.length
 ·refine .inr ⟨⟨xs,xs[i],q,by simp[hlt]⟩,Pv (i+1),λσ' H' p'=>⟨xs.length-(i+1),by lia,rfl,hlt,p'⟩,λx H' y=>?_⟩
  obtain⟨e,y⟩:=y;subst e;exact hs i x σ _ (y xs q) p
 ·have e:i=xs.length:=by lia
  subst e;exact .inl ⟨⟨xs,q,IU _⟩,hd σ H p⟩
theorem uF{lo:Int}{n:Nat}{g:TG}(Pv:Nat->St->Hp->Prop)(h0:Pv 0 σ H)
  (hs:∀i σ H,i<n->Pv i σ H->g (.int (lo+i)) σ H λσ2 H2=>tb {D with nx:=Pv (i+1),ct:=Pv (i+1),bk:=D.nx} σ2 H2) (hd:∀σ H,Pv n σ H->D.nx σ H) :
  ∃W:Nat->Nat->St->Hp->Prop,(∃m,W 0 m σ H)/\∀i m σ H,W i m σ H ->
   ((Bg lo n).stop i H/\D.nx σ H)\/((Bg lo n).go i H/\∃N:St->Hp->Prop,(∀σ' H',N σ' H'->∃m',m'<m/\W (i+1) m' σ' H')/\∀x H',(Bg lo n).BX i H x H'->g x σ H' λσ2 H2=>tb {D with nx:=N,ct:=N,bk:=D.nx} σ2 H2):=by
 refine⟨λi m σ H=>m=n-i/\i<=n/\Pv i σ H,⟨n,by simp,Jj _,h0⟩,?_⟩
 rintro i m σ H ⟨rfl,hi,p⟩;by_cases hlt:i<n
 ·refine .inr ⟨hlt,Pv (i+1),λσ' H' p'=>⟨n-(i+1),by lia,rfl,hlt,p'⟩,λx H' y=>?_⟩
  obtain⟨e,y⟩:=y;subst e y;exact hs i σ _ hlt p
 ·have e:i=n:=by lia
  subst e;exact .inl ⟨IU _,hd σ H p⟩
abbrev R2:=V->V->Hp->VK->Prop
variable{r:R2}
noncomputable def cI(X:Cx)(f:Value->Value->Sem Value)(r:R2):Prop:=
 ∀(pins:List (Addr×Obj)) (s:Shared) (σ:St) (H:Hp) (x y:V) (v u:Value) (Q:VK),Inv X pins σ H s->RelV x v->RelV y u->r x y H Q ->
  wpAny (model X.prog X.w) X.A (f v u) (EP X pins σ Q) X.xe s
noncomputable def Hn(X:Cx)(f:Value->Sem Value)(r:V->Hp->VK->Prop):Prop:=
 ∀(pins:List (Addr×Obj)) (s:Shared) (σ:St) (H:Hp) (x:V) (v:Value) (Q:VK),Inv X pins σ H s->RelV x v->r x H Q ->
  wpAny (model X.prog X.w) X.A (f v) (EP X pins σ Q) X.xe s
noncomputable def bD(X:Cx)(f:Value)(r:List V->Hp->VK->Prop):Prop:=
 ∀(pins:List (Addr×Obj)) (s:Shared) (σ:St) (H:Hp) (xs:List V) (us:List Value) (Q:VK),Inv X pins σ H s->Vals xs us->r xs H Q ->
  wpAny (model X.prog X.w) X.A (call f us) (EP X pins σ Q) X.xe s
noncomputable def HE(X:Cx)(r:V->Hp->(Bool->Hp->Prop)->Prop):Prop:=
 ∀(pins:List (Addr×Obj)) (s:Shared) (σ:St) (H:Hp) (x:V) (v:Value) (Q:Bool->Hp->Prop),Inv X pins σ H s->RelV x v->r x H Q ->
  wpAny (model X.prog X.w) X.A (truthy v) (TP X pins σ Q) X.xe s
noncomputable def xO(r:R2)(ta tb:TE):TE:=λσ H Q=>ta σ H λx H1=>tb σ H1 λy H2=>r x y H2 Q
noncomputable def FG(r:V->Hp->VK->Prop)(ta:TE):TE:=λσ H Q=>ta σ H λx H1=>r x H1 Q
noncomputable def rI(C:Int->Int->Prop)(g:Int->Int->V):R2:=λx y H Q=>∃i j,x=.int i/\y=.int j/\C i j/\Q (g i j) H
noncomputable def vb(g:Int->Int->V):R2:=λx y H Q=>∃i j,x=.int i/\y=.int j/\Q (g i j) H
noncomputable def rU(g:Int->V):V->Hp->VK->Prop:=λx H Q=>∃i,x=.int i/\Q (g i) H
section
variable {X:Cx} {a b c:Expr} {ta tb tc:TE} {pos:Pos}
theorem EU(ha:PE X a ta)(hb:PE X b tb){s:Shared}{R:V->V->Hp->Prop}(I:Inv X pins σ H s)
  (h:ta σ H λx H1=>tb σ H1 λy H2=>R x y H2)  
  (hf:∀v u s2 x y H2,Inv X pins σ H2 s2->RelV x v->RelV y u->R x y H2->wpAny (model X.prog X.w) X.A (f v u) Q X.xe s2) :
  wpAny (model X.prog X.w) X.A (eval a X.env) (λv s₁=>wpAny (model X.prog X.w) X.A (eval b X.env) (λu s₂=>wpAny (model X.prog X.w) X.A (f v u) Q X.xe s₂) X.xe s₁) X.xe s:=by
 refine bT (ha pins s σ H _ I h) λv s1 hq37=>?_;obtain⟨x,H1,I1,r1,q1⟩:=hq37;refine bT (hb pins s1 σ H1 _ I1 q1) λu s2 hq38=>?_;obtain⟨y,H2,I2,r2,q2⟩:=hq38;exact hf v u s2 x y H2 I2 r1 r2 q2
theorem Fq{op:Operator}(ho:cI X (binaryOp op) r)(ha:PE X a ta)(hb:PE X b tb):PE X (.BinOp a op b pos) (xO r ta tb):=by
 intro pins s σ H Q I h;exact wpAny_BinOp (EU ha hb I h λv u s2 x y H2 I2 rx ry q=>ho pins s2 σ H2 x y v u Q I2 rx ry q)
theorem GQ{op:UnaryOp}{r:V->Hp->VK->Prop}(ho:Hn X (unaryOp op) r)(ha:PE X a ta):PE X (.UnaryOp op a pos) (FG r ta):=by
 intro pins s σ H Q I h;exact UnaryOp_ (bT (ha pins s σ H _ I h) λv s1 ⟨x,H1,I1,r1,q1⟩=>ho pins s1 σ H1 x v Q I1 r1 q1)
theorem Fo{C:Int->Int->Prop}
  (rule:∀(i j:Int) (t u:Tok) (s:Shared) (Q:Value->Shared->Prop) (E:Value->Shared->Prop),C i j->Q (.int (g i j) s.toks) {s with toks:=s.toks+1}->wpAny (model X.prog X.w) X.A (f (.int i t) (.int j u)) Q E s) :
  cI X f (rI C λi j=>.int (g i j)):=by
 intro pins s σ H x y v u Q I rx ry h;obtain⟨i,j,rfl,rfl,hc,q⟩:=h;obtain⟨t,rfl⟩:=rx;obtain⟨t',rfl⟩:=ry;exact rule i j t t' s _ _ hc ⟨.int (g i j),H,I.tok _,⟨_,rfl⟩,q⟩
theorem Fj
  (rule:∀(i j:Int) (t u:Tok) (s:Shared) (Q:Value->Shared->Prop) (E:Value->Shared->Prop),Q (.int (g i j) s.toks) {s with toks:=s.toks+1}->wpAny (model X.prog X.w) X.A (f (.int i t) (.int j u)) Q E s) :
  cI X f (vb λi j=>.int (g i j)):=by
 intro pins s σ H x y v u Q I rx ry h;obtain⟨i,j,rfl,rfl,q⟩:=h;obtain⟨t,rfl⟩:=rx;obtain⟨t',rfl⟩:=ry;exact rule i j t t' s _ _ ⟨.int (g i j),H,I.tok _,⟨_,rfl⟩,q⟩
theorem A1{g:Int->Int->Bool}
  (rule:∀(i j:Int) (t u:Tok) (s:Shared) (Q:Value->Shared->Prop) (E:Value->Shared->Prop),Q (.bool (g i j)) s->wpAny (model X.prog X.w) X.A (f (.int i t) (.int j u)) Q E s) :
  cI X f (vb λi j=>.bl (g i j)):=by
 intro pins s σ H x y v u Q I rx ry h;obtain⟨i,j,rfl,rfl,q⟩:=h;obtain⟨t,rfl⟩:=rx;obtain⟨t',rfl⟩:=ry;exact rule i j t t' s _ _ ⟨.bl (g i j),H,I,rfl,q⟩
noncomputable def Hz(i j:Int):Prop:=0<j/\j<1073741824
noncomputable def vh(i j:Int):Prop:=0<=j/\j<=1000000/\i.natAbs<2^64
noncomputable def u7(i j:Int):Prop:=(-(2^64)<i/\i<2^64)\/(-(2^64)<j/\j<2^64)
theorem u7.ok{i j:Int}(h:u7 i j):IntMulOk i j:=by
 rcases h with ⟨h1,h2⟩|⟨h1,h2⟩
 ·exact .of_left (intBits_le_64 h1 h2)
 ·exact .of_right (intBits_le_64 h1 h2)
theorem zk:cI X (binaryOp .Add) (vb λi j=>.int (i+j)):=Fj λ_ _ _ _ _ _ _ q=>add_int q
theorem bX:cI X (binaryOp .Sub) (vb λi j=>.int (i-j)):=Fj λ_ _ _ _ _ _ _ q=>sub_int q
theorem Dq:cI X (binaryOp .Mult) (rI u7 λi j=>.int (i*j)):=Fo λ_ _ _ _ _ _ _ hc q=>mul_int q hc.ok
theorem nO:cI X (binaryOp .FloorDiv) (rI Hz λi j=>.int (i / j)):=Fo λi j _ _ _ _ _ hc q=>by
 have h1:(0:Int)<j:=hc.1;have h2:j<1073741824:=hc.2;exact floordiv_int (by lia) (by rw[Int.fdiv_eq_ediv_of_nonneg i (by lia)];exact q) (.inl (PyProof.noPylong_small (by lia)))
theorem cA:cI X (binaryOp .Mod) (rI (λ_ j=>0<j) λi j=>.int (i % j)):=Fo λi j _ _ _ _ _ hc q=>by
 have h1:(0:Int)<j:=hc;exact mod_int' (by lia) (by rw[Int.fmod_eq_emod_of_nonneg i (by lia)];exact q)
theorem rM:cI X (binaryOp .Pow) (rI vh λi j=>.int (i^j.toNat)):=Fo λ_ _ _ _ _ _ _ hc q=>pow_int_small hc.1 hc.2.1 hc.2.2 q
theorem CV:cI X (binaryOp .LShift) (rI vh λi j=>.int (i*2^j.toNat)):=Fo λ_ _ _ _ _ _ _ hc q=>lshift_int_small hc.1 hc.2.1 hc.2.2 q
theorem IC{f:Value->Sem Value}{g:Int->Int}
  (rule:∀(i:Int) (t:Tok) (s:Shared) (Q:Value->Shared->Prop) (E:Value->Shared->Prop),Q (.int (g i) s.toks) {s with toks:=s.toks+1}->wpAny (model X.prog X.w) X.A (f (.int i t)) Q E s) :
  Hn X f (rU λi=>.int (g i)):=by
 intro pins s σ H x v Q I rx h;obtain⟨i,rfl,q⟩:=h;obtain⟨t,rfl⟩:=rx;exact rule i t s _ _ ⟨.int (g i),H,I.tok _,⟨_,rfl⟩,q⟩
theorem fK:Hn X (unaryOp .USub) (rU λi=>.int (-i)):=IC λ_ _ _ _ _ q=>neg_int q
end
noncomputable def Hh:V->V->Bool
 |.aT,.aT=>true|.aT,.int _=>true|.int _,.aT=>true|.aT,.bl _=>true|.bl _,.aT=>true|.aT,.str _=>true|.str _,.aT=>true
 |.int _,.int _=>true|.bl _,.bl _=>true|.str _,.str _=>true|.qf _,.qf _=>true
 |.int _,.str _=>true|.str _,.int _=>true|.bl _,.str _=>true|.str _,.bl _=>true
 |_,_=>false
noncomputable def BR:R2:=λx y H Q=>Hh x y=true/\Q (.bl (decide (x=y))) H
noncomputable def GV:R2:=λx y H Q=>Hh x y=true/\Q (.bl (!decide (x=y))) H
theorem tZ{i j:Int}:decide (V.int i=V.int j)=(i == j):=by
 rw[Lf];simp
theorem zl{i j:Bool}:decide (V.bl i=V.bl j)=(i == j):=by
 rw[Lf];simp
theorem uh{i j:Str}:decide (V.str i=V.str j)=(i == j):=by
 rw[Lf];simp
theorem sf{i j:Array UInt8}:decide (V.qf i=V.qf j)=(i.toList == j.toList):=by
 rw[Lf];cases i;cases j;simp
section
variable {X:Cx} {a b c:Expr} {ta tb tc:TE} {pos:Pos}
theorem aZ{s:Shared}{Q:VK}{k k':Bool}(I:Inv X pins σ H s)(q:Q (.bl k) H)(e:k=k'):EP X pins σ Q (.bool k') s:=by
 subst e;exact⟨.bl k,H,I,rfl,q⟩
theorem Cb:cI X (compareOp .Eq) BR:=by
 intro pins s σ H x y v u Q I rx ry h;obtain⟨hs,q⟩:=h
 cases x with
 |aT =>
  cases rx
  cases y with
  |aT=>cases ry;exact PySem.EqNone.eq_none_none (aZ I q (by simp))
  |bl j=>cases ry;exact PySem.EqNone.eq_none_bool (aZ I q (by simp))
  |int j=>obtain⟨t',rfl⟩:=ry;exact PySem.EqNone.eq_none_int (aZ I q (by simp))
  |str j=>obtain⟨t',rfl⟩:=ry;exact PySem.EqNone.eq_none_str (aZ I q (by simp))
  |_=>exact absurd (show false=true from hs) Jb
 |bl i =>
  cases rx
  cases y with
  |aT=>cases ry;exact PySem.EqNone.eq_bool_none (aZ I q (by simp))
  |bl j=>cases ry;exact eq_bool (aZ I q zl)
  |str j=>obtain⟨t',rfl⟩:=ry;exact PySem.EqMixed.eq_bool_str (aZ I q (by simp))
  |_=>exact absurd (show false=true from hs) Jb
 |int i =>
  obtain⟨t,rfl⟩:=rx
  cases y with
  |aT=>cases ry;exact PySem.EqNone.eq_int_none (aZ I q (by simp))
  |int j=>obtain⟨t',rfl⟩:=ry;exact eq_int (aZ I q tZ)
  |str j=>obtain⟨t',rfl⟩:=ry;exact PySem.EqMixed.eq_int_str (aZ I q (by simp))
  |_=>exact absurd (show false=true from hs) Jb
 |str i =>
  obtain⟨t,rfl⟩:=rx
  cases y with
  |aT=>cases ry;exact PySem.EqNone.eq_str_none (aZ I q (by simp))
  |bl j=>cases ry;exact PySem.EqMixed.eq_str_bool (aZ I q (by simp))
  |int j=>obtain⟨t',rfl⟩:=ry;exact PySem.EqMixed.eq_str_int (aZ I q (by simp))
  |str j=>obtain⟨t',rfl⟩:=ry;exact eq_str (aZ I q uh)
  |_=>exact absurd (show false=true from hs) Jb
 |qf i =>
  obtain⟨t,rfl⟩:=rx
  cases y with
  |qf j=>obtain⟨t',rfl⟩:=ry;exact PySem.W.eq_bytes (aZ I q sf)
  |_=>exact absurd (show false=true from hs) Jb
 |_=>cases y<;>exact absurd (show false=true from hs) Jb
theorem Co:cI X (compareOp .NotEq) GV:=by
 intro pins s σ H x y v u Q I rx ry h;obtain⟨hs,q⟩:=h
 cases x with
 |aT =>
  cases rx
  cases y with
  |aT=>cases ry;exact PySem.EqNone.ne_none_none (aZ I q (by simp))
  |bl j=>cases ry;exact PySem.EqNone.ne_none_bool (aZ I q (by simp))
  |int j=>obtain⟨t',rfl⟩:=ry;exact PySem.EqNone.ne_none_int (aZ I q (by simp))
  |str j=>obtain⟨t',rfl⟩:=ry;exact PySem.EqNone.ne_none_str (aZ I q (by simp))
  |_=>exact absurd (show false=true from hs) Jb
 |bl i =>
  cases rx
  cases y with
  |aT=>cases ry;exact PySem.EqNone.ne_bool_none (aZ I q (by simp))
  |bl j=>cases ry;exact ne_bool (aZ I q (JH not zl))
  |str j=>obtain⟨t',rfl⟩:=ry;exact PySem.EqMixed.ne_bool_str (aZ I q (by simp))
  |_=>exact absurd (show false=true from hs) Jb
 |int i =>
  obtain⟨t,rfl⟩:=rx
  cases y with
  |aT=>cases ry;exact PySem.EqNone.ne_int_none (aZ I q (by simp))
  |int j=>obtain⟨t',rfl⟩:=ry;exact ne_int (aZ I q (JH not tZ))
  |str j=>obtain⟨t',rfl⟩:=ry;exact PySem.EqMixed.ne_int_str (aZ I q (by simp))
  |_=>exact absurd (show false=true from hs) Jb
 |str i =>
  obtain⟨t,rfl⟩:=rx
  cases y with
  |aT=>cases ry;exact PySem.EqNone.ne_str_none (aZ I q (by simp))
  |bl j=>cases ry;exact PySem.EqMixed.ne_str_bool (aZ I q (by simp))
  |int j=>obtain⟨t',rfl⟩:=ry;exact PySem.EqMixed.ne_str_int (aZ I q (by simp))
  |str j=>obtain⟨t',rfl⟩:=ry;exact ne_str (aZ I q (JH not uh))
  |_=>exact absurd (show false=true from hs) Jb
 |qf i =>
  obtain⟨t,rfl⟩:=rx
  cases y with
  |qf j=>obtain⟨t',rfl⟩:=ry;exact PySem.W.ne_bytes (aZ I q (JH not sf))
  |_=>exact absurd (show false=true from hs) Jb
 |_=>cases y<;>exact absurd (show false=true from hs) Jb
theorem mh:cI X (compareOp .Lt) (vb λi j=>.bl (decide (i<j))):=A1 λ_ _ _ _ _ _ _ q=>lt_int q
theorem Cf:cI X (compareOp .LtE) (vb λi j=>.bl (decide (i<=j))):=A1 λ_ _ _ _ _ _ _ q=>le_int q
theorem wR:cI X (compareOp .Gt) (vb λi j=>.bl (decide (j<i))):=A1 λ_ _ _ _ _ _ _ q=>gt_int q
theorem wq:cI X (compareOp .GtE) (vb λi j=>.bl (decide (j<=i))):=A1 λ_ _ _ _ _ _ _ q=>ge_int q
theorem vj:cI X (compareOp .In) (λx y H Q=>∃i j,x=.str i/\y=.str j/\Q (.bl (!(Builtin.Str.occurrences j i 0 j.length 1).isEmpty)) H):=by
 intro pins s σ H x y v u Q I rx ry h;obtain⟨i,j,rfl,rfl,q⟩:=h;obtain⟨t,rfl⟩:=rx;obtain⟨t',rfl⟩:=ry;exact in_str (aZ I q rfl)
theorem fu:cI X (compareOp .Is) (λx y H Q=>y=.aT/\Q (.bl (decide (x=.aT))) H):=by
 intro pins s σ H x y v u Q I rx ry h;obtain⟨rfl,q⟩:=h;cases ry;refine is_none_gen (aZ I q ?_)
 cases x<;>first
  | (cases rx;rfl)
  | (obtain⟨t,rfl⟩:=rx;rfl)
theorem jv:cI X (compareOp .IsNot) (λx y H Q=>y=.aT/\Q (.bl (!decide (x=.aT))) H):=by
 intro pins s σ H x y v u Q I rx ry h;obtain⟨rfl,q⟩:=h;cases ry;refine isnot_none_gen (aZ I q ?_)
 cases x<;>first
  | (cases rx;rfl)
  | (obtain⟨t,rfl⟩:=rx;rfl)
theorem cI.or{r':R2}(h:cI X f r)(h':cI X f r'):cI X f (λx y H Q=>r x y H Q\/r' x y H Q):=by
 intro pins s σ H x y v u Q I rx ry q;rcases q with q|q
 ·exact h pins s σ H x y v u Q I rx ry q
 ·exact h' pins s σ H x y v u Q I rx ry q
theorem Ax{op:CmpOp}(ho:cI X (compareOp op) r)(ha:PE X a ta)(hb:PE X b tb)(hm:behindInMarks op b=false):PE X (.Compare a [op] [b] pos) (xO r ta tb):=by
 intro pins s σ H Q I h;exact wpAny_Compare1 (EU ha hb I h λv u s2 x y H2 I2 rx ry q=>ho pins s2 σ H2 x y v u Q I2 rx ry q) hm
noncomputable def kH(t:TE):TT:=λσ H Q=>t σ H λx H'=>∃k,x=.bl k/\Q k H'
theorem AX{op:CmpOp}(ho:cI X (compareOp op) r)(ha:PE X a ta)(hb:PE X b tb)(hm:behindInMarks op b=false):PT X (.Compare a [op] [b] pos) (kH (xO r ta tb)):=by
 intro pins s σ H Q I h;refine wpAny_isTrue_Compare1 (bT (ha pins s σ H _ I h) λv s1 ⟨x,H1,I1,r1,q1⟩=>bT (hb pins s1 σ H1 _ I1 q1) λu s2 ⟨y,H2,I2,r2,q2⟩=>
  bT (ho pins s2 σ H2 x y v u _ I2 r1 r2 q2) λc s3 ⟨z,H3,I3,r3,k,e,q3⟩=>?_) hm
 subst e;cases r3;exact Lq ⟨H3,I3,q3⟩
noncomputable def kl(r r':R2)(ta tb tc:TE):TE:=λσ H Q=>ta σ H λx H1=>tb σ H1 λy H2=>r x y H2 λz H3=>∃k,z=.bl k /\
 (if k=true then tc σ H3 λw' H4=>r' y w' H4 Q else Q (.bl false) H3)
theorem vM{op op':CmpOp}{r':R2}(ho:cI X (compareOp op) r)(ho':cI X (compareOp op') r')(ha:PE X a ta)(hb:PE X b tb)(hc:PE X c tc)
  (hm:autoParam (lastMarks [op,op'] [b,c]=false) ℜ5):PT X (.Compare a [op,op'] [b,c] pos) (kH (kl r r' ta tb tc)):=by
 intro pins s σ H Q I h;refine isTrue_chain (bT (ha pins s σ H _ I h) λv s1 ⟨x,H1,I1,r1,q1⟩=>test_link (bT (hb pins s1 σ H1 _ I1 q1) λu s2 ⟨y,H2,I2,r2,q2⟩=>
  bT (ho pins s2 σ H2 x y v u _ I2 r1 r2 q2) λd s3 ⟨z,H3,I3,r3,k,e,q3⟩=>?_)) hm
 subst e;cases r3;refine Lq ?_
 cases k with
 |false =>
  obtain⟨k',e',q'⟩:=q3;cases e';exact ite_ff ⟨H3,I3,q'⟩
 |true =>
  refine ite_tt (test_last (bT (hc pins s3 σ H3 _ I3 q3) λw' s4 ⟨z',H4,I4,r4,q4⟩=>bT (ho' pins s4 σ H4 y z' u w' _ I4 r2 r4 q4) λd' s5 hq39=>?_));obtain⟨z2,H5,I5,r5,k2,e2,q5⟩:=hq39;subst e2;cases r5;exact Lq ⟨H5,I5,q5⟩
noncomputable def yO(K:Og)(x:V)(H:Hp)(k:Bool):Prop:=
 match x with
 |.aT=>k=false
 |.bl b=>k=b
 |.int i=>k=(i != 0)
 |.str y=>y.length<=sizeLine/\k=((y.length:Int) != 0)
 |.qf y=>y.size<=sizeLine/\k=((y.size:Int) != 0)
 |.ref p=>(∃xs,ck K H p xs/\k=!xs.isEmpty)\/(∃xs,bu K H p xs/\k=!xs.isEmpty)\/∃kvs,H p=some (.dK kvs)/\k=!kvs.isEmpty
 |_=>False
theorem rE{κ:Type}{kvs:List (κ×V)}{vs:List (κ×Value)}(r:KV kvs vs):(!vs.isEmpty)=!kvs.isEmpty:=by
 cases r<;>rfl
theorem jR{its:List Value}(r:Vals xs its):(!its.toArray.isEmpty)=!xs.isEmpty:=by
 cases r<;>simp
theorem iZ:(sizeLine:Nat)<2^63:=by rw[Kg];decide
theorem E9:HE X (λx H Q=>∃k,yO X.K x H k/\Q k H):=by
 intro pins s σ H x v Q I rx h;obtain⟨k,e,q⟩:=h;have hl:=iZ;have hs:sizeLine=16777216:=Kg
 cases x with
 |aT =>
  cases rx;have e':k=false:=e;subst e';exact truthy_none ⟨H,I,q⟩
 |bl b =>
  cases rx;have e':k=b:=e;subst e';exact Lq ⟨H,I,q⟩
 |int i =>
  obtain⟨t,rfl⟩:=rx;have e':k=(i != 0):=e;subst e';exact PySem.P.truthy_int ⟨H,I,q⟩
 |str y =>
  obtain⟨t,rfl⟩:=rx;obtain⟨hy,e'⟩:y.length<=sizeLine/\k=((y.length:Int) != 0):=e;subst e';exact PySem.P.truthy_str (by lia) ⟨H,I.tok _,q⟩
 |qf y =>
  obtain⟨t,rfl⟩:=rx;obtain⟨hy,e'⟩:y.size<=sizeLine/\k=((y.size:Int) != 0):=e;subst e';exact PySem.W.truthy_bytes (by lia) ⟨H,I.tok _,q⟩
 |ref p =>
  cases rx;have e':(∃xs,ck X.K H p xs/\k=!xs.isEmpty)\/(∃xs,bu X.K H p xs/\k=!xs.isEmpty)\/∃kvs,H p=some (.dK kvs)/\k=!kvs.isEmpty:=e;rcases e' with ⟨xs,hx,e'⟩|⟨xs,hx,e'⟩|⟨kvs,hx,e'⟩
  ·subst e';obtain⟨its,r,pl,hz⟩:=I.list hx;have hlen:=r.length;exact wpAny_truthy_list pl.isList (by simp only[IS];lia) ⟨H,I.tok _,by rw[jR r];exact q⟩
  ·subst e';obtain⟨its,r,pl,hz⟩:=I.tuple hx;have hlen:=r.length;exact truthy_tuple pl (by simp only[IS];lia) ⟨H,I.tok _,by rw[jR r];exact q⟩
  ·subst e';obtain⟨hz,hS,vs,r,m⟩:kvs.length<=sizeLine/\(p == sysModules)=false/\∃vs,KV kvs vs/\s.heap.DictOf (bZ X.prog X.w) p vs:=I.bc p _ hx;have hlen:kvs.length=vs.length:=Paired.length r;exact wpAny_truthy_dict hS m (by lia) ⟨H,I.tok _,by rw[rE r];exact q⟩
 |_=>exact (show False from e).elim
theorem zi(ha:PE X a ta)(he:∀whole,isTrue a X.env whole=(do let v <- whole;standAt a.pos;holding [v] (truthy v))):
  PT X a (λσ H Q=>ta σ H λx H'=>∃k,yO X.K x H' k/\Q k H'):=by
 intro pins s σ H Q I h;exact isTrue_plain (bT (ha pins s σ H _ I h) λv s1 ⟨x,H1,I1,r1,q1⟩=>E9 pins s1 σ H1 x v Q I1 r1 q1) (he _)
theorem jD:cI X (binaryOp .Add) (λx y H Q=>∃i j,x=.str i/\y=.str j/\i.length+j.length<=sizeLine/\Q (.str (i++j)) H):=by
 intro pins s σ H x y v u Q I rx ry h;obtain⟨i,j,rfl,rfl,hz,q⟩:=h;obtain⟨t,rfl⟩:=rx;obtain⟨t',rfl⟩:=ry;exact add_str (λt' tk=>⟨.str (i++j),H,I.tok _,⟨_,rfl⟩,q⟩) hz
theorem vals1{x:V}(r:Vals [x] us):∃u,us=[u]/\RelV x u:=by
 cases r with
 |cons r1 r2=>cases r2;exact⟨_,rfl,r1⟩
theorem vals2{x y:V}(r:Vals [x,y] us):∃u w',us=[u,w']/\RelV x u/\RelV y w':=by
 cases r with
 |cons r1 r2 =>
  cases r2 with
  |cons r3 r4=>cases r4;exact⟨_,_,rfl,r1,r3⟩
theorem yK:bD X (.builtin "abs") (λxs H Q=>∃i,xs=[.int i]/\Q (.int (if i<0 then -i else i)) H):=by
 intro pins s σ H xs us Q I r h;obtain⟨i,rfl,q⟩:=h;obtain⟨u,rfl,t,rfl⟩:=vals1 r;exact call_abs_int λu tk=>⟨.int (if i<0 then -i else i),H,I.tok _,⟨_,rfl⟩,q⟩
theorem vo(hc:X.calm=true):bD X (.builtin "max") (λxs H Q=>∃i j,xs=[.int i,.int j]/\Q (.int (if j > i then j else i)) H):=by
 intro pins s σ H xs us Q I r h;obtain⟨i,j,rfl,q⟩:=h;obtain⟨u,w',rfl,⟨t,rfl⟩,⟨t',rfl⟩⟩:=vals2 r;refine max_two_ints (I.ok.hd hc) λh' tk k=>⟨_,H,I.kept k,?_,q⟩;by_cases hj:j > i
 ·rw[IW hj,IW hj];exact⟨_,rfl⟩
 ·rw[IT hj,IT hj];exact⟨_,rfl⟩
theorem vt(hc:X.calm=true):bD X (.builtin "min") (λxs H Q=>∃i j,xs=[.int i,.int j]/\Q (.int (if j<i then j else i)) H):=by
 intro pins s σ H xs us Q I r h;obtain⟨i,j,rfl,q⟩:=h;obtain⟨u,w',rfl,⟨t,rfl⟩,⟨t',rfl⟩⟩:=vals2 r;refine min_two_ints (I.ok.hd hc) λh' tk k=>⟨_,H,I.kept k,?_,q⟩;by_cases hj:j<i
 ·rw[IW hj,IW hj];exact⟨_,rfl⟩
 ·rw[IT hj,IT hj];exact⟨_,rfl⟩
theorem lq:bD X (.type "int") (λxs H Q=>(∃i,xs=[.int i]/\Q (.int i) H)\/∃k,xs=[.bl k]/\Q (.int (if k then 1 else 0)) H):=by
 intro pins s σ H xs us Q I r h;rcases h with ⟨i,rfl,q⟩|⟨k,rfl,q⟩
 ·obtain⟨u,rfl,t,rfl⟩:=vals1 r;exact call_int_int ⟨.int i,H,I,⟨_,rfl⟩,q⟩
 ·obtain⟨u,rfl,r1⟩:=vals1 r;cases r1;exact call_int_bool ⟨.int (if k then 1 else 0),H,I.tok _,⟨_,rfl⟩,q⟩
noncomputable def Gi(K:Og)(x:V)(H:Hp)(n:Nat):Prop:=
 match x with
 |.str y=>y.length<=sizeLine/\n=y.length
 |.qf y=>y.size<=sizeLine/\n=y.size
 |.ref p=>(∃xs,ck K H p xs/\n=xs.length)\/∃xs,bu K H p xs/\n=xs.length
 |_=>False
theorem ik:bD X (.builtin "len") (λxs H Q=>∃x n,xs=[x]/\Gi X.K x H n/\Q (.int n) H):=by
 intro pins s σ H xs us Q I r h;obtain⟨x,n,rfl,e,q⟩:=h;obtain⟨u,rfl,rx⟩:=vals1 r;have hl:=iZ;have hs:sizeLine=16777216:=Kg
 cases x with
 |str y =>
  obtain⟨t,rfl⟩:=rx;obtain⟨hy,e'⟩:y.length<=sizeLine/\n=y.length:=e;subst e';exact len_str (by lia) ⟨.int _,H,I.tok _,⟨_,rfl⟩,q⟩
 |qf y =>
  obtain⟨t,rfl⟩:=rx;obtain⟨hy,e'⟩:y.size<=sizeLine/\n=y.size:=e;subst e';exact PySem.W.len_bytes (by lia) ⟨.int _,H,I.tok _,⟨_,rfl⟩,q⟩
 |ref p =>
  cases rx;have e':(∃xs,ck X.K H p xs/\n=xs.length)\/∃xs,bu X.K H p xs/\n=xs.length:=e;rcases e' with ⟨xs,hx,e'⟩|⟨xs,hx,e'⟩
  ·subst e';obtain⟨its,r',pl,hz⟩:=I.list hx;have hlen:=r'.length;exact Calls.call_len_list pl.isList (by simp only[IS];lia) ⟨.int xs.length,H,I.tok _,⟨_,by simp only[IS];rw[hlen]⟩,q⟩
  ·subst e';obtain⟨its,r',pl,hz⟩:=I.tuple hx;have hlen:=r'.length;exact len_tuple pl (by simp only[IS];lia) ⟨.int xs.length,H,I.tok _,⟨_,by simp only[IS];rw[hlen]⟩,q⟩
 |_=>exact (show False from e).elim
end
structure rA (h:Heap) (x dx C:Addr) (mA:Str->Option Value):Prop where
 obj:h.get? x=some (PySem.W.instObj C dx)
 ns:h.Ns1 dx mA
 ne:dx≠x
theorem uU{dx:Addr}(n:h.Ns1 dx mA):∃od,h.get? dx=some od/\∀name,PySem.W.lookIn name od=some (mA name):=by
 obtain⟨o,es,ep,ho,hd,hk,_,hm⟩:=n;refine⟨o,ho,λname=>?_⟩;have e:=hm name;unfold nsFind findBy at e;rw[<- Array.find?_toList] at e;unfold PySem.W.lookIn;rw[hd];dsimp only;split
 ·rename_i y q;rw[q] at e;exact JH some e
 ·rename_i q;rw[q] at e;have a:es.toList.any (·.refKey)=false:=by
   rw[List.any_eq_false];intro y hy;obtain⟨z,t,hkey⟩:=hk y (Array.mem_toList_iff.mp hy);simp[DictEntry.refKey,hkey]
  have a':¬ es.toList.any (·.refKey)=true:=by rw[a];exact Jb
  rw[IT a'];exact JH some e
theorem rA.look{x dx:Addr}(I:rA h x dx C mA):∃od,PySem.W.InstAt h x (PySem.W.instObj C dx) C (some od)/\∀name,PySem.W.lookIn name od=some (mA name):=
 let ⟨od,ho,hl⟩:=uU I.ns
 ⟨od,⟨I.obj,rfl,rfl,ho⟩,hl⟩
section
variable {prog:Program} {w:World} {A:Around} {E:Value->Shared->Prop} {s:Shared} {K:Og} {x dx C f:Addr} {mA:Str->Option Value} {name:Str} {v:Value}
theorem get_map{expr:Bool}(X:K.In s.heap)(I:rA s.heap x dx C mA)(hg:PySem.W.plainGet K C name=true)(hh:PySem.W.hasDictIn K C=true)
  (ha:PySem.W.findIn K (.ref C) name=some none) (hv:mA name=some v) (hv':PySem.W.handedIn v=true) (h:Q v {s with toks:=s.toks+1}) :
  wpAny (model prog w) A (getAttr (.ref x) name expr) Q E s:=by
 obtain⟨od,J,hl⟩:=I.look;exact PySem.W.get_value X J (PySem.W.plainGet_of hg).1 (PySem.W.findObj_own hh ha rfl (by rw[hl,hv])) hv' h
theorem xQ{Q:Value×List Value->Shared->Prop}(X:K.In s.heap)(I:rA s.heap x dx C mA)(hg:PySem.W.plainGet K C name=true)
  (hf:PySem.W.findIn K (.ref C) name=some (some (.ref f))) (ht:PySem.W.isFn K (.ref f)=true) (hv:mA name=none) (h:Q (.ref f,[.ref x]) s) :
  wpAny (model prog w) A (getMethod (.ref x) name pl) Q E s:=by
 obtain⟨od,J,hl⟩:=I.look;exact PySem.W.method_fn X J (PySem.W.plainGet_of hg).1 (PySem.W.plainGet_of hg).2 hf (L5.mp ht) (by show (PySem.W.lookIn name od).map (·.isSome)=some false;rw[hl,hv];rfl) h
theorem AB{ns:List Str}{Q:Unit->Shared->Prop}(X:K.In s.heap)(I:rA s.heap x dx C mA)
  (hs:PySem.W.findIn K (.ref C) "__setattr__"=some (some (.builtin "object.__setattr__"))) (hp:PySem.W.plainOver K C=true) (ht:PySem.W.takerIn K C name=some none) (hh:PySem.W.hasDictIn K C=true)
  (hw:PySem.Within mA ns) (hsz:ns.length<=sizeLine)
  (h:∀h',rA h' x dx C (λy=>if y=name then some v else mA y)->Heap.SameBut dx s.heap h'->Q () {s with heap:=h',toks:=s.toks+2}) :
  wpAny (model prog w) A (setAttr (.ref x) name v) Q E s:=by
 obtain⟨od,J,hl⟩:=I.look;refine PySem.W.set_plain X J hs (PySem.W.osa_open (s:={s with toks:=s.toks+1}) (r:=none) X J hp ht λb=>?_)
 obtain⟨cd,hc,hd'⟩:=PySem.W.any_some hh;have hx:s.heap.get? x=some ⟨.ref C,some dx,.plain,#[]⟩:=I.obj;refine IK (Ja (IK (IK (wpAny_loadPart hx (IK (PySem.W.Looks.here (s:={s with toks:=s.toks+1}) (PySem.W.looks_clsIn X hc) ?_))))))
 rw[hd'];refine Ja (a:=some dx) (IK (Ja (IK ?_)));refine wpAny_nsSet1 (s:={s with toks:=s.toks+1}) I.ns λh' hn2 hs2=>?_
 obtain⟨oD,esD,epD,hoD,hdD,hcD⟩:=hn2.count (PySem.Within.cons name v hw);refine IK (wpAny_lookBehind hoD (by rw[hdD];exact pastItsLine_dict (IY hcD (by rw[Jd];lia))) ?_)
 exact Ja (h _ ⟨(hs2.2 _ (Kp I.ne)).trans I.obj,hn2,I.ne⟩ hs2)
theorem wO{R:Result->Shared->Prop}{vs:List Value}(X:K.In s.heap)(hm:PySem.W.makesIn K C=true)
  (hi:PySem.W.findIn K (.ref C) "__init__"=some (some (.ref f))) (hf:PySem.W.typeIn K (.ref f)=some (.type "function"))
  (h:codeAny (model prog w) (A.under (.builtin "type.__call__" ⟨.ref C::vs,kw⟩)) (.call (.ref f) ⟨.ref (s.heap.objs.size+1)::vs,kw⟩) (PySem.W.InitBack (s.heap.objs.size+1) R)
   {s with heap:=(s.heap.push PySem.W.emptyDict).push (PySem.W.instObj C s.heap.objs.size)}) :
  codeAny (model prog w) A (.call (.ref C) ⟨vs,kw⟩) R s:=by
 obtain⟨hh,g,d,t,os⟩:=s;exact PySem.W.make_core (PySem.W.makes_of X hm) (PySem.W.looks_findIn X hi) (λself=>PySem.W.bind_fn X self hf) (.inl rfl) h
end
noncomputable def d8(f:Str)(v:V):List (Str×V)->List (Str×V)
 |[]=>[(f,v)]
 | (g,x)::r=>if g=f then (g,v)::r else (g,x)::d8 f v r
theorem jk(f g:Str)(v:V):∀fs:List (Str×V),(d8 f v fs).lookup g=if g=f then some v else fs.lookup g
 |[]=>by
  show List.lookup g [(f,v)]=_;by_cases h:g=f
  ·have hb:(g == f)=true:=L5.mpr h;simp only[List.lookup,hb,IW h]
  ·have hb:(g == f)=false:=Jv.mpr h;simp only[List.lookup,hb,IT h]
 | (k,x)::r=>by
  have ih:=jk f g v r;rw[show d8 f v ((k,x)::r)=(if k=f then (k,v)::r else (k,x)::d8 f v r) from rfl]
  by_cases hk:k=f
  ·rw[IW hk];by_cases h:g=k
   ·have hb:(g == k)=true:=L5.mpr h;simp only[List.lookup,hb,IW (h.trans hk)]
   ·have hb:(g == k)=false:=Jv.mpr h;simp only[List.lookup,hb,IT (λe:g=f=>h (e.trans hk.symm))]
  ·rw[IT hk];by_cases h:g=k
   ·have hb:(g == k)=true:=L5.mpr h;simp only[List.lookup,hb,IT (λe:g=f=>hk (h.symm.trans e))]
   ·have hb:(g == k)=false:=Jv.mpr h;simp only[List.lookup,hb];exact ih
theorem iR(f:Str)(v:V):∀fs:List (Str×V),f∈(d8 f v fs).map (·.1)/\∀g,g∈fs.map (·.1)->g∈(d8 f v fs).map (·.1)
 |[]=>⟨by simp[d8],λg h=>by simp at h⟩
 | (k,x)::r=>by
  obtain⟨i1,i2⟩:=iR f v r;rw[show d8 f v ((k,x)::r)=(if k=f then (k,v)::r else (k,x)::d8 f v r) from rfl]
  by_cases hk:k=f
  ·rw[IW hk];subst hk;exact⟨by simp,λg h=>by simpa using h⟩
  ·rw[IT hk];refine⟨?_,λg h=>?_⟩
   ·rw[Jy];exact IV _ i1
   ·rw[Jy] at h ⊢;rcases IX.mp h with e|e
    ·exact IX.mpr (.inl e)
    ·exact IV _ (i2 g e)
theorem jc(f:Str)(v:V):∀fs:List (Str×V),(d8 f v fs).length<=fs.length+1
 |[]=>by simp[d8]
 | (k,x)::r=>by
  have ih:=jc f v r;rw[show d8 f v ((k,x)::r)=(if k=f then (k,v)::r else (k,x)::d8 f v r) from rfl]
  by_cases hk:k=f
  ·rw[IW hk,Jd,Jd];lia
  ·rw[IT hk,Jd,Jd];lia
theorem gH.some_of{v:V}{o:Option Value}(r:gH (some v) o):∃u,o=some u/\RelV v u:=by
 cases o with
 |none=>exact (show False from r).elim
 |some u=>exact⟨u,rfl,r⟩
theorem gH.none_of{o:Option Value}(r:gH none o):o=none:=by
 cases o with
 |none=>rfl
 |some u=>exact (show False from r).elim
theorem vc{v:V}(r:RelV v u):PySem.W.handedIn u=true:=by
 cases v with
 |aT=>cases (show u=Value.none from r);rfl
 |bl b=>cases (show u=Value.bool b from r);rfl
 |int i=>obtain⟨t,e⟩:=(show ∃t,u=Value.int i t from r);cases e;rfl
 |str x=>obtain⟨t,e⟩:=(show ∃t,u=Value.str x t from r);cases e;rfl
 |qf b=>obtain⟨t,e⟩:=(show ∃t,u=Value.bytes b t from r);cases e;rfl
 |EM b=>obtain⟨t,e⟩:=(show ∃t,u=Value.float b t from r);cases e;rfl
 |ref a=>cases (show u=Value.ref a from r);rfl
 |ty n=>cases (show u=Value.type n from r);rfl
section
variable {P:Program} {w:World} {H H':Hp} {h h':Heap} {a C dx:Addr} {fs fs':List (Str×V)}
theorem j3(bc:ia P w H h)(e:H a=some (.ins C dx fs)):∃mA,rA h a dx C mA/\(∀f,gH (fs.lookup f) (mA f))/\PySem.Within mA (fs.map (·.1))/\fs.length<=1000/\H dx=some (.own a):=by
 obtain⟨d,z,ne,ob,mA,n,r,q⟩:=(show b6 P w H h a (.ins C dx fs) from bc a _ e);exact⟨mA,⟨ob,n,ne⟩,r,q,z,d⟩
end
structure kM (K:Og) (C:Addr):Prop where
 pg:PySem.W.plainGet K C Str.empty=true
 hd:PySem.W.hasDictIn K C=true
 po:PySem.W.plainOver K C=true
 sa:PySem.W.findIn K (.ref C) "__setattr__"=some (some (.builtin "object.__setattr__"))
theorem kM.get(c:kM K C)(f:Str):PySem.W.plainGet K C f=true:=c.pg
noncomputable def bF(K:Og)(C:Addr)(f:Str):Prop:=PySem.W.findIn K (.ref C) f=some none
theorem bF.FP{f:Str}(n:bF K C f):PySem.W.takerIn K C f=some none:=by
 unfold PySem.W.takerIn;rw[show PySem.W.findIn K (.ref C) f=some none from n];rfl
structure Meth (K:Og) (C:Addr) (m:Str) (f:Addr):Prop where
 at_:PySem.W.findIn K (.ref C) m=some (some (.ref f))
 fn:PySem.W.isFn K (.ref f)=true
 kp:PySem.W.keepIn K (.ref f)=true
section
variable {X:Cx} {pins:List (Addr×Obj)} {σ:St} {H:Hp} {s:Shared} {a C dx:Addr} {fs:List (Str×V)} {f:Str} {v:V} {A:Around} {E:Value->Shared->Prop}
theorem rP{b:Bool}(I:Inv X pins σ H s)(e:H a=some (.ins C dx fs))(c:kM X.K C)(n:bF X.K C f)(l:fs.lookup f=some v)
  (h:∀u s',Inv X pins σ H s'->RelV v u->Q u s'):wpAny (model X.prog X.w) A (getAttr (.ref a) f b) Q E s:=by
 obtain⟨mA,O,r,_,_,_⟩:=j3 I.bc e;obtain⟨u,hu,ru⟩:=gH.some_of (v:=v) (o:=mA f) (by rw[<- l];exact r f)
 exact get_map I.iu O (c.get f) c.hd n hu (vc ru) (h u _ (I.tok _) ru)
theorem jE{m:Str}{g:Addr}{Q:Value×List Value->Shared->Prop}(I:Inv X pins σ H s)(e:H a=some (.ins C dx fs))(c:kM X.K C)(k:Meth X.K C m g)(l:fs.lookup m=none)
  (h:Q (.ref g,[.ref a]) s):wpAny (model X.prog X.w) A (getMethod (.ref a) m pl) Q E s:=by
 obtain⟨mA,O,r,_,_,_⟩:=j3 I.bc e;have hn:mA m=none:=gH.none_of (by rw[<- l];exact r m)
 exact xQ I.iu O (c.get m) k.at_ k.fn hn h
theorem rh{y:V}{Q:Unit->Shared->Prop}(I:Inv X pins σ H s)(e:H a=some (.ins C dx fs))(c:kM X.K C)(n:bF X.K C f)(hl:fs.length<1000)(ry:RelV y u)
  (h:∀s',Inv X pins σ (upd H a (.ins C dx (d8 f y fs))) s'->Q () s'):wpAny (model X.prog X.w) A (setAttr (.ref a) f u) Q E s:=by
 obtain⟨mA,O,r,wi,_,ho⟩:=j3 I.bc e;have hz:(fs.map (·.1)).length<=sizeLine:=by rw[IP,Kg];lia
 refine AB I.iu O c.sa c.po n.FP c.hd wi hz λh' O' sb=>h _ ?_;have hd:∃o,h'.get? dx=some o:=let ⟨o,_,_,e',_⟩:=O'.ns;⟨o,e'⟩
 refine I.write (x:=a) (e:=dx) (by rw[e];exact True.intro) (.inr ho) (λb q hb z=>(sb.2 b hb).trans z) hd ?_
 refine⟨by rw[af O.ne];exact ho,?_,O.ne,O'.obj,_,O'.ns,λg=>?_,λg hg=>?_⟩
 ·have:=jc f y fs;lia
 ·show gH ((d8 f y fs).lookup g) (if g=f then some u else mA g)
  rw[jk];by_cases q:g=f
  ·rw[IW q,IW q];exact ry
  ·rw[IT q,IT q];exact r g
 ·by_cases q:g=f
  ·rw[q];exact (iR f y fs).1
  ·refine (iR f y fs).2 g (wi g λz=>hg ?_);show (if g=f then some u else mA g)=none
   rw[IT q];exact z
theorem Inv.made(I:Inv X pins σ H s):Inv X pins σ (upd (upd H s.heap.objs.size (.own (s.heap.objs.size+1))) (s.heap.objs.size+1) (.ins C s.heap.objs.size []))
  {s with heap:=(s.heap.push PySem.W.emptyDict).push (PySem.W.instObj C s.heap.objs.size)}:=by
 have e1:(s.heap.push PySem.W.emptyDict).get? s.heap.objs.size=some PySem.W.emptyDict:=Jf s.heap rfl;have e2:((s.heap.push PySem.W.emptyDict).push (PySem.W.instObj C s.heap.objs.size)).get? (s.heap.objs.size+1)=some (PySem.W.instObj C s.heap.objs.size):=by
  have:=Jf (s.heap.push PySem.W.emptyDict) (o:=PySem.W.instObj C s.heap.objs.size) rfl
  rwa [JY] at this
 have e3:(s.heap.push PySem.W.emptyDict).Ns s.heap.objs.size (λ_=>none):=⟨PySem.W.emptyDict,#[],_,e1,rfl,(λe he=>absurd he (by simp)),λ_=>rfl⟩
 have I1:=I.laid (a:=s.heap.objs.size) (o:=.own (s.heap.objs.size+1)) (h':=s.heap.push PySem.W.emptyDict) (t':=s.toks) (λb u q=>IM _ q) (IU _) ⟨_,e1⟩;refine I1.laid (a:=s.heap.objs.size+1) (o:=.ins C s.heap.objs.size []) (t':=s.toks) (λb u q=>IM _ q) (Nq (JY _ _)) ?_;have ne:s.heap.objs.size≠s.heap.objs.size+1:=Jr (Ml _);refine⟨by rw[af ne,aa],Jj _,ne,e2,λ_=>none,(Heap.Ns1.of_empty e3).at λo q=>IM _ q,λ_=>True.intro,λy hy=>absurd rfl hy⟩
theorem Bj{prog:Program}{env:Env}{f:Str}{pos:Pos}{s:Shared}(hb:attributeBase e f env (eval e env)=eval e env)
  (h:wpAny (model prog w) A (eval e env) (λo s₁=>wpAny (model prog w) A (getAttr o f true) Q E s₁) E s):wpAny (model prog w) A (eval (.Attribute e f pos) env) Q E s:=
 Attribute_any_ h (by rw[arm_eval_Attribute,hb])
end
noncomputable def wu(K:Og)(ta:TE)(f:Str):TE:=λσ H Q=>ta σ H λx H1=>∃a C dx fs v,x=.ref a/\H1 a=some (.ins C dx fs)/\kM K C/\bF K C f/\fs.lookup f=some v/\Q v H1
noncomputable def zj(K:Og)(ta tv:TE)(f:Str):TS:=λD σ H=>tv σ H λy H1=>ta σ H1 λx H2=>∃a C dx fs,x=.ref a/\H2 a=some (.ins C dx fs)/\kM K C/\bF K C f/\fs.length<1000 /\
 D.nx σ (upd H2 a (.ins C dx (d8 f y fs)))
section
variable {X:Cx} {o e value:Expr} {f:Str} {pos pos' tpos:Pos} {ta tv:TE}
theorem DK(he:PE X e ta)(hb:attributeBase e f X.env (eval e X.env)=eval e X.env):PE X (.Attribute e f pos) (wu X.K ta f):=by
 intro pins s σ H Q I h;refine Bj hb (bT (he pins s σ H _ I h) λu s1 hq40=>?_);obtain⟨x,H1,I1,rx,a,C,dx,fs,v,ex,ea,c,n,l,q⟩:=hq40;subst ex;obtain rfl:u=Value.ref a:=rx;exact rP I1 ea c n l λu' s2 I2 ru=>⟨v,H1,I2,ru,q⟩
theorem E1(ha:PE X o ta)(hv:PE X value tv)(hs:swapsWith value (some (.Attribute o f pos')) pos.line X.env=pure false):PS X (.Assign [.Attribute o f pos'] value pos) (zj X.K ta tv f):=by
 intro pins s σ H D I h;refine plainObj_wpAny_Assign_Attribute (bT (hv pins s σ H _ I h) λu s1 ⟨y,H1,I1,ry,q⟩=>bT (ha pins s1 σ H1 _ I1 q) λov s2 hq42=>?_) hs;obtain⟨x,H2,I2,rx,a,C,dx,fs,ex,ea,c,n,l,q2⟩:=hq42;subst ex;obtain rfl:ov=Value.ref a:=rx;exact rh I2 ea c n l ry λs3 I3=>⟨σ,_,I3,q2⟩
end
section
variable {X:Cx} {pins:List (Addr×Obj)} {σ:St} {H:Hp} {s:Shared} {A:Around} {E:Value->Shared->Prop} {Q:Value->Shared->Prop} {c:Value} {b:Bool}
inductive gW (K:Og) (H:Hp):V->Value->Prop where
 |aT:gW K H .aT (.type "NoneType")
 |bl (x:Bool):gW K H (.bl x) (.type "bool")
 |int (i:Int):gW K H (.int i) (.type "int")
 |str (x:Str):gW K H (.str x) (.type "str")
 |EM (x:UInt64):gW K H (.EM x) (.type "float")
 |lst {a:Addr} {xs:List V} (e:H a=some (.lst xs)):gW K H (.ref a) (.type "list")
 |iY {a:Addr} {o:Obj} {xs:List V} (e:H a=some (.iY o (.lst xs))):gW K H (.ref a) (.type "list")
 |tup {a:Addr} {xs:List V} (e:H a=some (.tup xs)):gW K H (.ref a) (.type "tuple")
 |dK {a:Addr} {kvs:List (Key×V)} (e:H a=some (.dK kvs)):gW K H (.ref a) (.type "dict")
 |dT {a:Addr} {kvs:List (List Key×V)} (e:H a=some (.dT kvs)):gW K H (.ref a) (.type "dict")
 |ins {a C dx:Addr} {fs:List (Str×V)} (e:H a=some (.ins C dx fs)) (cl:kM K C) (ha:PySem.W.findIn K (.ref C) "__class__"=some (some (.builtin "object.__class__")))
   (hn:PySem.W.specialIn K (.builtin "object.__class__") "__get__"=some (some (.builtin "getset_descriptor.__get__"))) (htk:PySem.W.takesIn K (.builtin "object.__class__")=some true)
   (hm:PySem.W.mroIn K C (.type "object")=some true):gW K H (.ref a) (.ref C)
theorem mr{x:V}{t:Value}(I:Inv X pins σ H s)(rx:RelV x u)(ty:gW X.K H x t)(e:PySem.W.kitOne X.K t c=some b)(h:∀tk,Q (.bool b) {s with toks:=tk}):
  wpAny (model X.prog X.w) A (call (.builtin "isinstance") [u,c]) Q E s:=by
 cases ty with
 |aT=>cases (show u=Value.none from rx);exact PySem.W.kia_one PySem.W.kitx_none I.iu True.intro e (λz=>nomatch z) h
 |bl y=>cases (show u=Value.bool y from rx);exact PySem.W.kia_one PySem.W.kitx_bool I.iu True.intro e (λz=>nomatch z) h
 |int i=>obtain⟨t,q⟩:=(show ∃t,u=Value.int i t from rx);cases q;exact PySem.W.kia_one PySem.W.kitx_int I.iu True.intro e (λz=>nomatch z) h
 |str y=>obtain⟨t,q⟩:=(show ∃t,u=Value.str y t from rx);cases q;exact PySem.W.kia_one PySem.W.kitx_str I.iu True.intro e (λz=>nomatch z) h
 |EM y=>obtain⟨t,q⟩:=(show ∃t,u=Value.float y t from rx);cases q;exact PySem.W.kia_one PySem.W.kitx_float I.iu True.intro e (λz=>nomatch z) h
 |@lst a xs ea =>
  cases (show u=Value.ref a from rx)
  obtain⟨_,_,n,_,h1⟩:=(show b6 X.prog X.w H s.heap a (.lst xs) from I.bc a _ ea);exact PySem.W.kia_one PySem.W.kitx_list I.iu ⟨_,h1,rfl⟩ e (λz=>nomatch z) h
 |@iY a ob xs ea =>
  cases (show u=Value.ref a from rx)
  obtain⟨_,_,_,n,_,h1⟩:=(show b6 X.prog X.w H s.heap a (.iY ob (.lst xs)) from I.bc a _ ea);exact PySem.W.kia_one PySem.W.kitx_list I.iu ⟨_,h1,rfl⟩ e (λz=>nomatch z) h
 |@tup a xs ea =>
  cases (show u=Value.ref a from rx)
  obtain⟨_,_,_,p⟩:=(show b6 X.prog X.w H s.heap a (.tup xs) from I.bc a _ ea);obtain⟨o,h1,h2,_⟩:=p;exact PySem.W.kia_one PySem.W.kitx_tuple I.iu ⟨o,h1,h2⟩ e (λz=>nomatch z) h
 |@dK a kvs ea =>
  cases (show u=Value.ref a from rx)
  obtain⟨_,_,vs,_,p⟩:=(show b6 X.prog X.w H s.heap a (.dK kvs) from I.bc a _ ea);obtain⟨o,es,ep,h1,h2,_⟩:=p;exact PySem.W.kia_one PySem.W.kitx_dict I.iu ⟨o,h1,h2.1⟩ e (λz=>nomatch z) h
 |@dT a kvs ea =>
  cases (show u=Value.ref a from rx)
  obtain⟨_,_,xs,_,o,es,ep,h1,h2,_⟩:=(show b6 X.prog X.w H s.heap a (.dT kvs) from I.bc a _ ea);exact PySem.W.kia_one PySem.W.kitx_dict I.iu ⟨o,h1,h2.1⟩ e (λz=>nomatch z) h
 |@ins a C dx fs ea cl ha hn htk hm =>
  cases (show u=Value.ref a from rx)
  obtain⟨mA,O,_⟩:=j3 I.bc ea;obtain⟨od,J,_⟩:=O.look;exact PySem.W.kia_one (PySem.W.kitx_own (cl.get _) cl.hd ha hn htk hm) I.iu J e (λz=>nomatch z) h
end
structure bI (k:Nat) (A:Around):Prop where
 hd:A.handled=none
 dp:A.depth+3*k+5<recursionLimit
 un:A.units+16*k+200<cLine
 gd:A.guards=some []
theorem bI.mono{A:Around}(r:bI k A)(h:j<=k):bI j A:=⟨r.hd,by have:=r.dp;lia,by have:=r.un;lia,r.gd⟩
theorem bI.deeper{A:Around}(r:bI (k+1) A)(env:Env):bI k (A.deeper env):=
 ⟨r.hd,by have:=r.dp;show A.depth+1+3*k+5<_;lia,by have:=r.un;show A.units+3+16*k+200<_;lia,r.gd⟩
theorem bI.in1{A:Around}(r:bI (k+1) A):bI k A.in1:=
 ⟨r.hd,by have:=r.dp;show A.depth+3*k+5<_;lia,by have:=r.un;show A.units+1+16*k+200<_;lia,r.gd⟩
theorem qV{A:Around}:(A.under (.builtin "type.__call__" ⟨.ref C::us,kw⟩)).depth=A.depth+1:=by
 first|rfl|simp[Around.under,Code.weight,Code.isCreation,Code.isGuard,Code.isCaller,Code.frames,Code.isFrame,guardIds]
theorem rT{A:Around}:(A.under (.builtin "type.__call__" ⟨.ref C::us,kw⟩)).units=A.units+1:=by
 first|rfl|simp[Around.under,Code.cUnits,Code.frames,Code.isFrame]
theorem bI.make{A:Around}(r:bI (k+1) A)(C:Addr)(us:List Value)(kw:List (Str×Value)):bI k (A.under (.builtin "type.__call__" ⟨.ref C::us,kw⟩)):=
 ⟨r.hd,by have:=r.dp;rw[qV];lia,by have:=r.un;rw[rT];lia,by have h:=r.gd;first|exact h | (simp[Around.under,Code.guards,Code.isGuard,guardIds];exact h)⟩
theorem bI.depth{A:Around}(r:bI k A):A.depth<recursionLimit:=by have:=r.dp;lia
theorem bI.units{A:Around}(r:bI k A):A.units+64<cLine:=by have:=r.un;lia
noncomputable def jq:TA:=λ_ H Q=>Q [] H
noncomputable def jg(ta:TE)(tr:TA):TA:=λσ H Q=>ta σ H λx H1=>tr σ H1 λxs H2=>Q (x::xs) H2
section
variable {X:Cx} {e:Expr} {es:List Expr} {te:TE} {t:TA} {pos:Pos}
theorem wA:PA X [] jq:=λ_ _ _ _ H Q I h=>Calls.spliced_nil ⟨[],H,I,.nil,h⟩
theorem tL(ha:PE X e te)(hr:PA X es t)(hs:autoParam (starEach (e::es) X.env=(false,eval e X.env)::starEach es X.env) ℜ0):PA X (e::es) (jg te t):=by
 intro pos pins s σ H Q I h;rw[hs];show wpAny _ _ (spliced ((false,eval e X.env)::backTo pos (starEach es X.env))) _ _ s;refine Calls.spliced_cons (bT (ha pins s σ H _ I h) λu s1 hq46=>?_);obtain⟨x,H1,I1,r1,q1⟩:=hq46;exact bT (hr pos pins s1 σ H1 _ I1 q1) λus s2 ⟨xs,H2,I2,r2,q2⟩=>⟨x::xs,H2,I2,.cons r1 r2,q2⟩
noncomputable def zm(t:TA):TE:=λσ H Q=>t σ H λxs H1=>xs.length<=sizeLine/\∀p,H1 p=none->Q (.ref p) (upd H1 p (.tup xs))
noncomputable def yR(t:TA):TE:=λσ H Q=>t σ H λxs H1=>xs.length<=sizeLine/\∀p,H1 p=none->Q (.ref p) (upd H1 p (.lst xs))
theorem Dh{x1}(h:PA X es t):PE X (.Tuple es x1 pos) (zm t):=by
 intro pins s σ H Q I hq;refine wpAny_Tuple_spliced (bT (h pos pins s σ H _ I hq) λus s1 ⟨xs,H1,I1,r,z,q⟩=>⟨by rw[<- r.length];exact z,?_⟩)
 have hf:H1 s1.heap.objs.size=none:=I1.bc.fresh (IU _);refine⟨.ref s1.heap.objs.size,upd H1 s1.heap.objs.size (.tup xs),I1.laid (t':=s1.toks) (λb u e=>IM _ e) (IU _) ?_,rfl,q _ hf⟩;exact⟨z,us,r,⟨_,Jf _ rfl,rfl,_,rfl,rfl⟩⟩
theorem Ee(h:PA X es t):PE X (.List es pos) (yR t):=by
 intro pins s σ H Q I hq;refine wpAny_List_spliced (bT (h pos pins s σ H _ I hq) λus s1 ⟨xs,H1,I1,r,z,q⟩=>⟨by rw[<- r.length];exact z,?_⟩)
 have hf:H1 s1.heap.objs.size=none:=I1.bc.fresh (IU _);refine⟨.ref s1.heap.objs.size,upd H1 s1.heap.objs.size (.lst xs),I1.laid (t':=s1.toks) (λb u e=>IM _ e) (IU _) ?_,rfl,q _ hf⟩;exact⟨z,us,0,r,Jf _ rfl⟩
end
abbrev Sp:=List V->Hp->VK->XK->Prop
abbrev pC:=List Env->Hp->Shared->XK->Value->Shared->Prop
variable{CX:pC}
structure qW (P:Program) (w:World) (K:Og) (mg:Str->Option Value) (base:Heap) (A:Around) (outer:List Env) (s:Shared) (H:Hp):Prop where
 frames:A.frames=some outer
 mod:Mod K mg base
 bs:∀b o,base.get? b=some o->s.heap.get? b=some o/\H b=none
 zD:base.objs.size<=s.heap.objs.size
 jm:s.heap.FunFrames base outer
 Ey:∀b∈y6 outer,H b=none
 bc:ia P w H s.heap
 bare:AllBare s.gens
 tabs:TabsOk K H
noncomputable def CE(outer:List Env)(P:Program)(w:World)(H:Hp)(s:Shared)(Q:VK)(u:Value)(s':Shared):Prop:=
 ∃v H',s'.os=s.os/\AllBare s'.gens/\Un (y6 outer) [] H H' s.heap s'.heap/\ia P w H' s'.heap/\RelV v u/\Q v H'
noncomputable def CR(CX:pC)(outer:List Env)(P:Program)(w:World)(H:Hp)(s:Shared)(Q:VK)(E:XK)(r:Result)(s':Shared):Prop:=
 match r with
 |.ok (.ret u)=>CE outer P w H s Q u s'
 |.ok _=>False
 |.error e=>CX outer H s E e s'
structure cG (P:Program) (w:World) (K:Og) (mg:Str->Option Value) (base:Heap) (CX:pC) (k:Nat) (f:Addr) (fd:FuncData) (ps:List Str) (sp:Sp):Prop where
 len:∀vs H Q E,sp vs H Q E->vs.length=ps.length
 run:∀(A:Around) (outer:List Env) (s:Shared) (H:Hp) (args:Args) (us:List Value) (vs:List V) (Q:VK) (E:XK),bI k A->qW P w K mg base A outer s H->BindsTo s fd args (ps.zip us)->Vals vs us->sp vs H Q E ->
  codeAny (model P w) A (.call (.ref f) args) (CR CX outer P w H s Q E) s
theorem cG.mono{f:Addr}{ps:List Str}{sp:Sp}(F:cG P w K mg base CX j f fd ps sp)(h:j<=k):
  cG P w K mg base CX k f fd ps sp:=⟨F.len,λA outer s H args us vs Q E hr=>F.run A outer s H args us vs Q E (hr.mono h)⟩
theorem qW.make{A:Around}{s:Shared}(e:qW P w K mg base A outer s H)(C:Addr)(us:List Value)(kw:List (Str×Value)):
  qW P w K mg base (A.under (.builtin "type.__call__" ⟨.ref C::us,kw⟩)) outer s H:=⟨by first|exact e.frames | (simpa[Around.under,Code.envs,Code.isFrame,pushEnvs] using e.frames),e.mod,e.bs,e.zD,e.jm,e.Ey,e.bc,e.bare,e.tabs⟩
section
variable {X:Cx} {pins:List (Addr×Obj)} {σ:St} {H:Hp} {s s':Shared}
theorem Inv.G0(I:Inv X pins σ H s):qW X.prog X.w X.K X.mg X.base X.A X.stack s H:=
 ⟨I.ok.frames,I.ok.mod,I.bs,IY I.ok.zD I.sz,I.stack,I.mV,I.bc,I.bare,I.ok.tabs.un I.base⟩
theorem Inv.after{Q:VK}(I:Inv X pins σ H s)(h:CE X.stack X.prog X.w H s Q u s'):EP X pins σ Q u s':=by
 obtain⟨v,H',os,bare,un,bc,r,q⟩:=h;obtain⟨hh,g,d,t,os'⟩:=s';obtain rfl:os'=s.os:=os;exact⟨v,H',I.call (h':=hh) (g':=g) (d':=d) (t':=t) (ch:=[]) un bc bare (λb z=>absurd z (by simp)),r,q⟩
end
noncomputable def i7(sp:Sp)(dvs:List V)(E:XK)(t:TA):TE:=λσ H Q=>t σ H λvs H1=>sp (vs++dvs) H1 Q E
noncomputable def jV(C:Addr)(m:Str)(sp:Sp)(dvs:List V)(E:XK)(ta:TE)(t:TA):TE:=λσ H Q=>ta σ H λx H1=>∃a dx fs,x=.ref a/\H1 a=some (.ins C dx fs)/\fs.lookup m=none /\
 t σ H1 λvs H2=>sp (x::(vs++dvs)) H2 Q E
noncomputable def pV(C:Addr)(sp:Sp)(dvs:List V)(E:XK)(t:TA):TE:=λσ H Q=>t σ H λvs H1=>∀x dx,H1 x=none->H1 dx=none->dx≠x ->
 sp (.ref x::(vs++dvs)) (upd (upd H1 dx (.own x)) x (.ins C dx [])) (λv H2=>v=.aT/\Q (.ref x) H2) E
noncomputable def Binds(K:Og)(fd:FuncData)(ps:List Str)(ds:List Value):Prop:=
 ∀(s:Shared) (us:List Value),K.In s.heap->(us++ds).length=ps.length->BindsTo s fd ⟨us,[]⟩ (ps.zip (us++ds))
theorem Binds.all{ps:List Str}(h:∀us:List Value,us.length=ps.length->bindArgs fd ⟨us,[]⟩=pure (ps.zip us)):Binds K fd ps []:=λs us _ hl=>by
 rw[JE] at hl ⊢;exact .of_eq (h us hl)
noncomputable def Passes(CX:pC)(X:Cx)(E:XK):Prop:=∀(pins:List (Addr×Obj)) (σ:St) (H:Hp) (s:Shared) (e:Value) (s':Shared),Inv X pins σ H s->CX X.stack H s E e s'->X.xe e s'
section
variable {X:Cx} {CX:pC} {k:Nat} {f C:Addr} {fd:FuncData} {ps:List Str} {sp:Sp} {dvs:List V} {ds:List Value} {E:XK} {x m:Str} {p pos apos:Pos} {e o:Expr} {es:List Expr} {ta:TE} {t:TA}
theorem nv{s:Shared}{Q:VK}{vs:List V}(F:cG X.prog X.w X.K X.mg X.base CX k f fd ps sp)(hr:bI k X.A)(hb:Binds X.K fd ps ds)(hd:Vals dvs ds)(hx:Passes CX X E)
  (I:Inv X pins σ H s) (r:Vals vs us) (h:sp (vs++dvs) H Q E):wpAny (model X.prog X.w) X.A (call (.ref f) us) (EP X pins σ Q) X.xe s:=by
 have r2:Vals (vs++dvs) (us++ds):=r.append hd;have hl:(us++ds).length=ps.length:=by rw[<- r2.length];exact F.len _ _ _ _ h
 refine wpAny_call (Ob (F.run X.A X.stack s H ⟨us,[]⟩ (us++ds) (vs++dvs) Q E hr I.G0 (hb s us I.iu hl) r2 h) λr s' hq=>?_)
 cases r with
 |error e=>exact hx pins σ H s e s' I hq
 |ok fl =>
  cases fl with
  |ret u=>exact I.after hq
  |next=>exact False.elim hq
  |brk=>exact False.elim hq
  |cont=>exact False.elim hq
theorem Bu(F:cG X.prog X.w X.K X.mg X.base CX k f fd ps sp)(hr:bI k X.A)(hg:Gl X x)(hm:X.mg x=some (.ref f))(hk:PySem.W.keepIn X.K (.ref f)=true)(hb:Binds X.K fd ps ds)(hd:Vals dvs ds)(hx:Passes CX X E)
  (ha:PA X (e::es) t) (hdb:autoParam ((x ==("__debug__":Str))=false) ℜ1) (he:autoParam (starEach (e::es) X.env=(false,eval e X.env)::starEach es X.env) ℜ0) (hpl:autoParam ((backTo pos (starEach es X.env)).any (·.1)=false) ℜ0) :
  PE X (.Call (.Name x p) (e::es) [] pos) (i7 sp dvs E t):=by
 intro pins s σ H Q I h;refine K6 (jz I hg hm ?_ hdb);refine PySem.W.callWith_K (h₀:=X.base) I.ok.mod.GK hk (bT (ha pos pins s σ H _ I h) λus s1 ⟨vs,H1,I1,r,q⟩=>⟨I1.iu,?_⟩) he hpl;exact nv F hr hb hd hx I1 r q
theorem yY(F:cG X.prog X.w X.K X.mg X.base CX k f fd ps sp)(hr:bI k X.A)(hg:Gl X x)(hm:X.mg x=some (.ref f))(hk:PySem.W.keepIn X.K (.ref f)=true)(hb:Binds X.K fd ps ds)(hd:Vals dvs ds)(hx:Passes CX X E)
  (hdb:autoParam ((x ==("__debug__":Str))=false) ℜ1):PE X (.Call (.Name x p) [] [] pos) (i7 sp dvs E jq):=by
 intro pins s σ H Q I h;refine K6 (jz I hg hm ?_ hdb);exact PySem.W.callWith_K0 I.iu hk (nv (us:=[]) F hr hb hd hx I .nil h)
theorem zM{pl:Sem Bool}(he:PE X o ta)(c:kM X.K C)(hm:Meth X.K C m f)(F:cG X.prog X.w X.K X.mg X.base CX k f fd ps sp)(hr:bI k X.A)(hb:Binds X.K fd ps ds)(hd:Vals dvs ds)(hx:Passes CX X E)(ha:PA X (e::es) t)
  (hst:autoParam (starEach (e::es) X.env=(false,eval e X.env)::starEach es X.env) ℜ0) (hpl:autoParam ((backTo pos (starEach es X.env)).any (·.1)=false) ℜ0)
  (ht:autoParam (eval (.Call (.Attribute o m apos) (e::es) [] pos) X.env=(do
   let ov <- eval o X.env
   standAt apos.atName
   let (f,first) <- holding [ov] (getMethod ov m pl)
   callWith pos f first (backTo pos (starEach (e::es) X.env)) (backToKw pos (keywordEach [] X.env)))) ℜ0) :
  PE X (.Call (.Attribute o m apos) (e::es) [] pos) (jV C m sp dvs E ta t):=by
 intro pins s σ H Q I h;refine PySem.W.methodCall_KW (pl:=pl) (bT (he pins s σ H _ I h) λu s1 hq47=>?_) ht;obtain⟨x,H1,I1,rx,a,dx,fs,ex,ea,l,q⟩:=hq47;subst ex;obtain rfl:u=Value.ref a:=rx;refine jE I1 ea c hm l ?_;refine PySem.W.callWith_K (first:=[.ref a]) (h₀:=X.base) I.ok.mod.GK hm.kp (bT (ha pos pins s1 σ H1 _ I1 q) λus s2 ⟨vs,H2,I2,r,q2⟩=>⟨I2.iu,?_⟩) hst hpl
 exact nv (us:=.ref a::us) (vs:=.ref a::vs) F hr hb hd hx I2 (.cons rfl r) q2
theorem xP{pl:Sem Bool}(he:PE X o ta)(c:kM X.K C)(hm:Meth X.K C m f)(F:cG X.prog X.w X.K X.mg X.base CX k f fd ps sp)(hr:bI k X.A)(hb:Binds X.K fd ps ds)(hd:Vals dvs ds)(hx:Passes CX X E)
  (ht:autoParam (eval (.Call (.Attribute o m apos) [] [] pos) X.env=(do
   let ov <- eval o X.env
   standAt apos.atName
   let (f,first) <- holding [ov] (getMethod ov m pl)
   callWith pos f first (backTo pos (starEach [] X.env)) (backToKw pos (keywordEach [] X.env)))) ℜ0) :
  PE X (.Call (.Attribute o m apos) [] [] pos) (jV C m sp dvs E ta jq):=by
 intro pins s σ H Q I h;refine PySem.W.methodCall_KW (pl:=pl) (bT (he pins s σ H _ I h) λu s1 hq48=>?_) ht;obtain⟨x,H1,I1,rx,a,dx,fs,ex,ea,l,q⟩:=hq48;subst ex;obtain rfl:u=Value.ref a:=rx;refine jE I1 ea c hm l ?_;exact PySem.W.callWith_K0 (first:=[.ref a]) I1.iu hm.kp (nv (us:=[.ref a]) (vs:=[.ref a]) F hr hb hd hx I1 (.cons rfl .nil) q)
structure Mk (K:Og) (C f:Addr):Prop where
 makes:PySem.W.makesIn K C=true
 init:PySem.W.findIn K (.ref C) "__init__"=some (some (.ref f))
 fn:PySem.W.isFn K (.ref f)=true
 kp:PySem.W.keepIn K (.ref C)=true
theorem xn{s:Shared}{Q:VK}{vs:List V}(M:Mk X.K C f)(F:cG X.prog X.w X.K X.mg X.base CX k f fd ps sp)(hr:bI (k+1) X.A)(hb:Binds X.K fd ps ds)(hd:Vals dvs ds)
  (hx:Passes CX X E) (I:Inv X pins σ H s) (r:Vals vs us)
  (h:∀x dx,H x=none->H dx=none->dx≠x->sp (.ref x::(vs++dvs)) (upd (upd H dx (.own x)) x (.ins C dx [])) (λv H2=>v=.aT/\Q (.ref x) H2) E) :
  wpAny (model X.prog X.w) X.A (call (.ref C) us) (EP X pins σ Q) X.xe s:=by
 have hq:=h (s.heap.objs.size+1) s.heap.objs.size (I.bc.fresh (Kh _)) (I.bc.fresh (IU _)) (Jr (Ml _));have I2:=Inv.made (C:=C) I;have r2:Vals (V.ref (s.heap.objs.size+1)::(vs++dvs)) (Value.ref (s.heap.objs.size+1)::(us++ds)):=.cons rfl (r.append hd);have hl:(Value.ref (s.heap.objs.size+1)::us++ds).length=ps.length:=by
  have e:=r2.length;rw[F.len _ _ _ _ hq] at e;exact e.symm
 refine wpAny_call (wO (f:=f) I.iu M.makes M.init (L5.mp M.fn) (Ob (F.run _ X.stack _ _ ⟨Value.ref (s.heap.objs.size+1)::us,[]⟩ (Value.ref (s.heap.objs.size+1)::(us++ds)) _ _ E (hr.make C us [])
  (I2.G0.make C us []) (hb _ (Value.ref (s.heap.objs.size+1)::us) I2.iu hl) r2 hq) λr s' hq'=>?_))
 cases r with
 |error e=>exact hx pins σ _ _ e s' I2 hq'
 |ok fl =>
  cases fl with
  |ret u =>
   obtain⟨v,H',I3,rv,ev,q3⟩:=I2.after hq';subst ev;exact⟨rv,⟨V.ref (s.heap.objs.size+1),H',I3,rfl,q3⟩⟩
  |next=>exact False.elim hq'
  |brk=>exact False.elim hq'
  |cont=>exact False.elim hq'
theorem An(M:Mk X.K C f)(F:cG X.prog X.w X.K X.mg X.base CX k f fd ps sp)(hr:bI (k+1) X.A)(hg:Gl X x)(hm:X.mg x=some (.ref C))(hb:Binds X.K fd ps ds)(hd:Vals dvs ds)(hx:Passes CX X E)
  (ha:PA X (e::es) t) (hdb:autoParam ((x ==("__debug__":Str))=false) ℜ1) (he:autoParam (starEach (e::es) X.env=(false,eval e X.env)::starEach es X.env) ℜ0) (hpl:autoParam ((backTo pos (starEach es X.env)).any (·.1)=false) ℜ0) :
  PE X (.Call (.Name x p) (e::es) [] pos) (pV C sp dvs E t):=by
 intro pins s σ H Q I h;refine K6 (jz I hg hm ?_ hdb);refine PySem.W.callWith_K (h₀:=X.base) I.ok.mod.GK M.kp (bT (ha pos pins s σ H _ I h) λus s1 ⟨vs,H1,I1,r,q⟩=>⟨I1.iu,?_⟩) he hpl;exact xn M F hr hb hd hx I1 r q
end
noncomputable def PK(X:Cx)(kws:List Keyword)(t:TA):Prop:=
 ∀(pos:Pos) (pins:List (Addr×Obj)) (s:Shared) (σ:St) (H:Hp) (Q:List V->Hp->Prop),Inv X pins σ H s->t σ H Q->wpAny (model X.prog X.w) X.A (evalAll ((backToKw pos (keywordEach kws X.env)).map (·.2))) (AP X pins σ Q) X.xe s
section
variable {X:Cx} {CX:pC} {k:Nat} {f C:Addr} {fd:FuncData} {ps ks:List Str} {sp:Sp} {E:XK} {x m:Str} {p pos apos kpos:Pos} {e o:Expr} {es:List Expr} {kws:List Keyword} {te ta:TE} {t tk:TA} {nm:Option Str}
theorem Dl:PK X [] jq:=λ_ _ _ _ H Q I h=>wpAny_evalAll_nil ⟨[],H,I,.nil,h⟩
theorem Ba(ha:PE X e te)(hr:PK X kws t):PK X (⟨nm,e,kpos⟩::kws) (jg te t):=by
 intro pos pins s σ H Q I h;show wpAny _ _ (evalAll ((do let v <- eval e X.env;standAt pos;pure v)::(backToKw pos (keywordEach kws X.env)).map (·.2))) _ _ s
 refine wpAny_evalAll_cons (IK (bT (ha pins s σ H _ I h) λu s1 ⟨x,H1,I1,r1,q1⟩=>IK (Nc (Ja ?_))));exact bT (hr pos pins s1 σ H1 _ I1 q1) λus s2 ⟨xs,H2,I2,r2,q2⟩=>⟨x::xs,H2,I2,.cons r1 r2,q2⟩
variable {g:List Value->List Value->List Value} {gV:List V->List V->List V}
end
structure ay (N P:List Str) (sc:Scope):Prop where
 kind:sc.kind=.function
 co:sc.isCoroutine=false
 gen:sc.isGenerator=false
 nd:N.Nodup
 pre:N.take P.length=P
 par:∀x∈P,sc.names.lookup x=some .local\/sc.names.lookup x=some .cell
 Cy:∀y∈sc.names,y.2≠.free
theorem lC:∀{binds:List (Str×Value)} {m:Str->Option Value},(∀v,(x,v)∉binds)->bindL kindOf binds m x=m x
 |[],_,_=>rfl
 | (n,v)::r,m,h=>by
  unfold bindL;rw[lC λw hw=>h w (IV _ hw)];split
  ·have:x≠n:=by rintro rfl;exact h v IZ
   simp[this]
  ·rfl
theorem lQ:∀{binds:List (Str×Value)} {m:Str->Option Value},(∀v,(x,v)∉binds)->bindC kindOf binds m x=m x
 |[],_,_=>rfl
 | (n,v)::r,m,h=>by
  unfold bindC;rw[lQ λw hw=>h w (IV _ hw)];split
  ·rfl
  ·have:x≠n:=by rintro rfl;exact h v IZ
   simp[this]
theorem lZ{v:Value}:∀{P:List Str} {vs:List Value} {i:Nat} {m:Str->Option Value},P.Nodup->P[i]?=some x->vs[i]?=some v->kindOf x=some .local ->
  bindL kindOf (P.zip vs) m x=some v
 |[],_,_,_,_,h,_,_=>by simp at h
 |_::_,[],_,_,_,_,h,_=>by simp at h
 |p::P,w::vs,0,m,nd,h1,h2,hk=>by
  simp at h1 h2;subst h1;subst h2;show bindL kindOf ((p,w)::P.zip vs) m p=_;unfold bindL;rw[lC λv hv=>(Ko.mp nd).1 (N7 hv).1,IW hk];simp
 |p::P,w::vs,i+1,m,nd,h1,h2,hk=>by
  show bindL kindOf ((p,w)::P.zip vs) m x=_;unfold bindL;exact lZ (i:=i) (Ko.mp nd).2 (by simpa using h1) (by simpa using h2) hk
theorem me{v:Value}:∀{P:List Str} {vs:List Value} {i:Nat} {m:Str->Option Value},P.Nodup->P[i]?=some x->vs[i]?=some v->kindOf x≠some .local ->
  bindC kindOf (P.zip vs) m x=some v
 |[],_,_,_,_,h,_,_=>by simp at h
 |_::_,[],_,_,_,_,h,_=>by simp at h
 |p::P,w::vs,0,m,nd,h1,h2,hk=>by
  simp at h1 h2;subst h1;subst h2;show bindC kindOf ((p,w)::P.zip vs) m p=_;unfold bindC;rw[lQ λv hv=>(Ko.mp nd).1 (N7 hv).1,IT hk];simp
 |p::P,w::vs,i+1,m,nd,h1,h2,hk=>by
  show bindC kindOf ((p,w)::P.zip vs) m x=_;unfold bindC;exact me (i:=i) (Ko.mp nd).2 (by simpa using h1) (by simpa using h2) hk
noncomputable def start(N:List Str)(vs:List V):St:=vs.map some++List.replicate (N.length-vs.length) none
noncomputable def fT(CX:pC)(P:Program)(w:World)(K:Og)(mg:Str->Option Value)(base:Heap)(N:List Str)(qual:Str)(scope:Scope)(f:Addr)(cd:Value)(A:Around)(outer:List Env)(s:Shared)(H:Hp)(E:XK):Cx where
 prog:=P
 w:=w
 K:=K
 mg:=mg
 base:=base
 A:=A.deeper (envOfC qual scope s.heap.objs.size f cd)
 N:=N
 s₀:=s
 H₀:=H
 env:=envOfC qual scope s.heap.objs.size f cd
 outer:=outer
 stack:=envOfC qual scope s.heap.objs.size f cd::outer
 ex:=[]
 calm:=true
 fn:=λ_=>true
 pn:=[]
 xe:=λe s'=>wpAny (model P w) (A.deeper (envOfC qual scope s.heap.objs.size f cd)) (leaving (envOfC qual scope s.heap.objs.size f cd) e) (λ_ s''=>CX outer H s E e s'') (λe' s''=>CX outer H s E e' s'') s'
theorem p9{sc:Scope}{n:Nat}(h:sc.names.lookup x=some .cell):∃c,(cellsFrom n sc.names []).lookup x=some c:=by
 have q:=PySem.W.cellsFrom_some sc.names n [] (.inl h);exact Nr.mp q
theorem v8{ps:List Str}{qual:Str}{f:Addr}{cd:Value}{A:Around}{s s1:Shared}{E:XK}{vs:List V}
  (S:ay N ps scope) (hd:A.handled=none) (e0:qW P w K mg base A outer s H) (hl:vs.length=ps.length) (r:Vals vs us)
  (x:InCallC s s.heap.objs.size (bindL (envOfC qual scope s.heap.objs.size f cd).kindOf (ps.zip us) λ_=>none) (cellsFrom (s.heap.objs.size+1) scope.names []) (bindC (envOfC qual scope s.heap.objs.size f cd).kindOf (ps.zip us) λ_=>none) s1) :
  Inv (fT CX P w K mg base N qual scope f cd A outer s H E) [] (start N vs) H s1:=by
 have hpl:ps.length<=N.length:=by have:=JH List.length S.pre;rw[Jn] at this;lia
 obtain⟨h1,tk,rfl,hk⟩:=x.done;have noA:∀b:Addr,b∉(fT CX P w K mg base N qual scope f cd A outer s H E).ex:=λb z=>absurd (show b∈([]:List Addr) from z) (by simp)
 refine⟨⟨e0.mod,S.kind,rfl,rfl,IU _,λy z c h1 h2=>?_,λy hy=>?_,λy c _ h=>?_,λ_=>hd,Around.frames_deeper e0.frames,.inr ⟨rfl,rfl⟩,λb z=>absurd z (noA b),e0.bs,e0.zD,λb _ _=>noA b,λb z=>absurd z (noA b),e0.jm,e0.Ey,e0.tabs⟩,
  rfl,e0.bare,Un.kept hk,⟨_,x.toInCall.ns,λi y v h1 h2 h3=>?_⟩,λy c h=>⟨_,x.cell y c h⟩,e0.bc.fresh (IU _),λy c h=>?_,λp hp=>absurd (show p∈([]:List (Addr×Obj)) from hp) (by simp),e0.bc.kept hk,?_⟩
 ·exact name_of_addr x.apart (PySem.mem_of_lookup h1) (PySem.mem_of_lookup h2)
 ·have hy:scope.names.lookup y=some .cell\/scope.names.lookup y=some .free:=hy;rcases hy with hy|hy
  ·exact p9 hy
  ·exact absurd rfl (S.Cy _ (PySem.mem_of_lookup hy))
 ·exact K2 (x.above y c (PySem.mem_of_lookup h))
 ·have hi:i<vs.length:=by
   unfold start at h2;by_cases hi:i<vs.length
   ·exact hi
   ·rw[Jk (by simpa using hi)] at h2
    rw[LX] at h2
    split at h2<;>cases h2
  have ha:vs[i]?=some v:=by
   unfold start at h2;rw[Jx (by simpa using hi),I_] at h2
   cases e:vs[i]? with
   |none=>rw[e] at h2;cases h2
   |some a=>rw[e] at h2;cases h2;rfl
  obtain⟨u,hu,rv⟩:=r.get ha;have hp:ps[i]?=some y:=by
   rw[<- S.pre,Nt (by lia)];exact h1
  have ndP:ps.Nodup:=by rw[<- S.pre];exact S.nd.sublist (List.take_sublist _ _)
  refine⟨u,rv,?_⟩;rcases S.par y (JF hp) with k|k
  ·exact .inl ⟨k,lZ ndP hp hu k⟩
  ·obtain⟨c,e⟩:=p9 (n:=s.heap.objs.size+1) k;refine .inr ⟨.inl k,c,e,?_⟩;have q:=x.cell y c e;rw[me ndP hp hu (by show scope.names.lookup y≠_;rw[k];decide)] at q
   exact q
 ·exact e0.bc.fresh (K2 (x.above y c (PySem.mem_of_lookup h)))
 ·unfold start;show _=N.length;rw[IL,IP,Je];lia
theorem BU{f:Addr}{name qual:Str}{params:Arguments}{dV kV doc pm cdv ct oc:Value}{an od:Option Addr}
  {osl:Array (Option Value)} {ps:List Str} {sp:Sp} (lk:K.lookup f=some ⟨oc,od,.func (PySem.W.fnOf name qual params body scope dV kV doc pm an cdv ct),osl⟩) (fH:PySem.W.codeIn K cdv qual=true) (S:ay N ps scope)
  (len:∀vs H Q E,sp vs H Q E->vs.length=ps.length)
  (hbody:∀(A:Around) (outer:List Env) (s:Shared) (H:Hp) (vs:List V) (Q:VK) (E:XK),bI k (A.deeper (envOfC qual scope s.heap.objs.size f cdv))->sp vs H Q E ->
   ∃t,rN (fT CX P w K mg base N qual scope f cdv A outer s H E) body t/\t {nx:=λ_ H'=>Q .aT H',rt:=Q} (start N vs) H) :
  cG P w K mg base CX (k+1) f (PySem.W.fnOf name qual params body scope dV kV doc pm an cdv ct) ps sp:=by
 refine⟨len,λA outer s H args us vs Q E hr e0 hb r nR=>?_⟩;have hl:=len _ _ _ _ nR;have KX:K.In s.heap:=e0.mod.GK.keeps λb o e=>(e0.bs b o e).1;have lim:s.heap.NoLimit:=e0.mod.nolimit.keeps λb o e=>(e0.bs b o e).1;have hkind:∀y∈ps.zip us,scope.names.lookup y.1=some .local\/(scope.names.lookup y.1=some .cell/\((cellsFrom (s.heap.objs.size+1) scope.names []).lookup y.1).isSome=true):=λ⟨n,v⟩ hy=>by
  rcases S.par n (N7 hy).1 with q|q
  ·exact .inl q
  ·exact .inr ⟨q,PySem.W.cellsFrom_some _ _ _ (.inl q)⟩
 refine codeAny_call_function hr.depth (KX _ _ lk) rfl S.co S.gen rfl (PySem.W.codeRec_of KX fH) (hb _ _ _ _ ?_);refine wpAny_newFunctionEnv_cells S.kind hkind λenv he s1 x=>?_;subst he;refine⟨lim.keeps x.toInCall.keep,codeAny_func ?_⟩;obtain⟨t,ht,hq⟩:=hbody A outer s H vs Q E (hr.deeper _) nR;have I:Inv (fT CX P w K mg base N qual scope f cdv A outer s H E) [] (start N vs) H s1:=v8 S hr.hd e0 hl r x;refine JO (ht [] s1 (start N vs) H _ I hq) (λfl s' hs=>?_) λe s' hs=>hs;have fin:∀{σ':St} {H':Hp} {v:V} {u:Value},Inv (fT CX P w K mg base N qual scope f cdv A outer s H E) [] σ' H' s'->RelV v u->Q v H'->CE outer P w H s Q u s':=
  λ{σ' H' v u} J rv q=>⟨v,H',J.os,J.bare,J.base,J.bc,rv,q⟩
 cases fl with
 |ret u =>
  obtain⟨v,σ',H',J,rv,q⟩:=hs;exact fin J rv q
 |next =>
  obtain⟨σ',H',J,q⟩:=hs;exact fin (v:=V.aT) (u:=Value.none) J rfl q
 |brk =>
  obtain⟨_,_,_,q⟩:=hs;exact False.elim q
 |cont =>
  obtain⟨_,_,_,q⟩:=hs;exact False.elim q
section
variable {X:Cx} {x:Str} {p pos:Pos} {e:Expr} {es:List Expr} {t:TA} {id T:String} {r:List V->Hp->VK->Prop}
noncomputable def Ak(r:List V->Hp->VK->Prop)(t:TA):TE:=λσ H Q=>t σ H λvs H1=>r vs H1 Q
theorem za(hc:bD X (.builtin id) r)(hg:Gl X x)(hm:X.mg x=none)(hv:bootBuiltins x=some (.builtin id))(ha:PA X (e::es) t)(hn:autoParam (x≠"__name__") ℜ1)(hdb:autoParam ((x ==("__debug__":Str))=false) ℜ1)
  (he:autoParam (starEach (e::es) X.env=(false,eval e X.env)::starEach es X.env) ℜ0) (hpl:autoParam ((backTo pos (starEach es X.env)).any (·.1)=false) ℜ0):PE X (.Call (.Name x p) (e::es) [] pos) (Ak r t):=by
 intro pins s σ H Q I h;refine K6 (hW I hg hm hv ?_ hn hdb);exact PyProof.Rows.callWith_builtin1 (bT (ha pos pins s σ H _ I h) λus s1 ⟨vs,H1,I1,r1,q1⟩=>hc pins s1 σ H1 vs us Q I1 r1 q1) he hpl
theorem vd(hc:bD X (.type T) r)(hg:Gl X x)(hm:X.mg x=none)(hv:bootBuiltins x=some (.type T))(ha:PA X (e::es) t)(hn:autoParam (x≠"__name__") ℜ1)(hdb:autoParam ((x ==("__debug__":Str))=false) ℜ1)
  (he:autoParam (starEach (e::es) X.env=(false,eval e X.env)::starEach es X.env) ℜ0) (hpl:autoParam ((backTo pos (starEach es X.env)).any (·.1)=false) ℜ0):PE X (.Call (.Name x p) (e::es) [] pos) (Ak r t):=by
 intro pins s σ H Q I h;refine K6 (hW I hg hm hv ?_ hn hdb);exact K4 (bT (ha pos pins s σ H _ I h) λus s1 ⟨vs,H1,I1,r1,q1⟩=>hc pins s1 σ H1 vs us Q I1 r1 q1) he hpl
end
end L2
namespace HT
open PySem PyProof.Rows
section
variable {prog:Program} {w:World} {A:Around} {E:Value->Shared->Prop} {s:Shared}
theorem zL{t b:Addr}{vs ws:List Value}{Q:Value->Shared->Prop}(ht:IsTup s.heap t vs.toArray)(hb:IsTup s.heap b ws.toArray)(hv:vs≠[])
  (h1:ws=[]->Q (.ref t) s) (h2:ws≠[]->Q (.ref s.heap.objs.size) {s with heap:=s.heap.push {cls:=.type "tuple",data:=.seq (vs++ws).toArray}})
  (hsz:vs.length+ws.length<=sizeLine):wpAny (model prog w) A (binaryOp .Add (.ref t) (.ref b)) Q E s:=by
 obtain⟨⟨cls,dd,data,sl⟩,ho,hc,n,hd⟩:=id ht;obtain⟨⟨cls2,dd2,data2,Bw⟩,ho2,hc2,n2,hd2⟩:=id hb;simp only at hc hd hc2 hd2;subst hc hd hc2 hd2;have e:vs.toArray++ws.toArray=(vs++ws).toArray:=by simp
 by_cases hw:ws=[]
 ·exact concat_meets ⟨_,ho,rfl⟩ ⟨_,ho2,rfl⟩ noFill_tuple_add seq_tuple_add PySem.F.slot_tuple_add PySem.F.entry_tuple_add (PySem.F.args_tuple_add_2 _ _)
   (tuple_addW1 t b vs.toArray ws.toArray n n2 dd dd2 sl Bw (by simpa using hv) (by simp[hw])) ⟨ho,ho2,h1 hw⟩
 ·refine concat_meets ⟨_,ho,rfl⟩ ⟨_,ho2,rfl⟩ noFill_tuple_add seq_tuple_add PySem.F.slot_tuple_add PySem.F.entry_tuple_add (PySem.F.args_tuple_add_2 _ _)
   (tuple_addW2 t b vs.toArray ws.toArray n n2 dd dd2 sl Bw (by simpa using hv) (by simpa using hw) (by rw[List.size_toArray,List.size_toArray];exact hsz)) ⟨ho,ho2,?_⟩
  rw[e];exact h2 hw
noncomputable def bP(n d:Nat):Option Int->Nat
 |none=>d
 |some v=>if v<0 then (v+(n:Int)).toNat else min v.toNat n
theorem fU(n d:Nat):bP n d none=d:=rfl
theorem fo(n d k:Nat):bP n d (some (k:Int))=min k n:=by
 show (if (k:Int)<0 then ((k:Int)+(n:Int)).toNat else min (k:Int).toNat n)=min k n
 rw[if_neg (by lia),Int.toNat_natCast]
theorem qB(n d:Nat)(hd:d<=n)(o:Option Int):bP n d o<=n:=by
 cases o with
 |none=>exact hd
 |some v =>
  show (if v<0 then (v+(n:Int)).toNat else min v.toNat n)<=n
  by_cases hv:v<0
  ·rw[if_pos hv];lia
  ·rw[if_neg hv];exact Nat.min_le_right _ _
theorem tq(v:Int)(n d:Nat):(if v<0 then max (v+(n:Int)) 0 else min v (n:Int))=((bP n d (some v):Nat):Int):=by
 show (if v<0 then max (v+(n:Int)) 0 else min v (n:Int))=(((if v<0 then (v+(n:Int)).toNat else min v.toNat n):Nat):Int)
 by_cases hv:v<0
 ·simp only[if_pos hv];lia
 ·simp only[if_neg hv];lia
theorem rB(lo hi:Option Int)(n:Nat):Builtin.Slice.sliceAdjust lo hi 1 (n:Int)=(((bP n 0 lo:Nat):Int),((bP n n hi:Nat):Int)):=by
 have h1:¬ ((1:Int)<0):=by lia
 unfold Builtin.Slice.sliceAdjust;simp only[h1,if_false];refine Prod.ext ?_ ?_
 ·cases lo with
  |none=>rfl
  |some v=>exact tq v n 0
 ·cases hi with
  |none=>rfl
  |some v=>exact tq v n n
theorem qy(i j:Nat):Builtin.Slice.slicePlaces (i:Int) (j:Int) 1=j-i:=by
 unfold Builtin.Slice.slicePlaces;have h1:(1:Int) > 0:=by lia
 simp only[h1,if_true,Int.ediv_one]
 split<;>lia
theorem jK{v:Value}{o:Option Int}{Q:Option Int->Shared->Prop}(p:IsPart v o)(h:Q o s):wpAny (model prog w) A (Builtin.Slice.slicePartIndex v) Q E s:=by
 cases p with
 |none=>exact slicePart_none h
 |int i t=>exact slicePart_int h
theorem eY{sl:Addr}{vl vu:Value}{lo hi:Option Int}{n:Nat}{Q:Int×Int×Nat->Shared->Prop}(hs:s.heap.IsSliceOf sl vl vu .none)(pl:IsPart vl lo)(pu:IsPart vu hi)
  (h:Q (((bP n 0 lo:Nat):Int),1,bP n n hi-bP n 0 lo) s):wpAny (model prog w) A (Builtin.Slice.sliceApplied (.ref sl) (pure (n:Int))) Q E s:=by
 obtain⟨os,hos,hcs,sh⟩:=id hs;unfold Builtin.Slice.sliceApplied Builtin.Slice.sliceFields;refine wpAny_bind (wpAny_bind (wpAny_field hos sh (x:=vl) rfl (wpAny_bind (wpAny_field hos sh (x:=vu) rfl (wpAny_bind (wpAny_field hos sh (x:=.none) rfl (wpAny_pure ?_)))))));refine wpAny_bind (slicePart_none ?_);show wpAny _ _ (if ((1:Int) == 0)=true then _ else _) _ _ s
 rw[if_neg (by decide)]
 refine wpAny_bind (jK pl (wpAny_bind (jK pu (wpAny_bind (wpAny_pure ?_)))));show wpAny _ _ (match Builtin.Slice.sliceAdjust lo hi 1 (n:Int) with | (lo,hi)=>pure (lo,(1:Int),Builtin.Slice.slicePlaces lo hi 1)) _ _ s
 rw[rB lo hi n];show wpAny _ _ (pure (((bP n 0 lo:Nat):Int),(1:Int),Builtin.Slice.slicePlaces ((bP n 0 lo:Nat):Int) ((bP n n hi:Nat):Int) 1)) _ _ s;rw[qy];exact wpAny_pure h
theorem xF(xs:Array Value)(i k:Nat):((List.range k).filterMap λ(m:Nat)=>xs[((i:Int)+(m:Int)*1).toNat]?).toArray=((xs.toList.drop i).take k).toArray:=by
 have e:(λ(m:Nat)=>xs[((i:Int)+(m:Int)*1).toNat]?)=λm=>xs[i+m]?:=by
  funext m
  have:((i:Int)+(m:Int)*1).toNat=i+m:=by lia
  rw[this]
 rw[e];have:=pick_run xs i k;rw[List.filterMap_map] at this;have e2:((λx=>xs[x]?) ∘ λx=>i+x)=λm=>xs[i+m]?:=rfl;rw[e2] at this;rw[this]
theorem iy{t sl:Addr}{items:Array Value}{vl vu:Value}{lo hi:Option Int}{Q:Value->Shared->Prop}(ht:IsTup s.heap t items)(hs:s.heap.IsSliceOf sl vl vu .none)(pl:IsPart vl lo)(pu:IsPart vu hi)
  (hw:¬ (bP items.size 0 lo=0/\bP items.size items.size hi=items.size))
  (h:Q (.ref s.heap.objs.size) {s with heap:=s.heap.push {cls:=.type "tuple",data:=.seq ((items.toList.drop (bP items.size 0 lo)).take (bP items.size items.size hi-bP items.size 0 lo)).toArray}})
  (hsz:items.size<=sizeLine):wpAny (model prog w) A (getItem (.ref t) (.ref sl)) Q E s:=by
 have htake:sizeOk (.seq ((items.toList.drop (bP items.size 0 lo)).take (bP items.size items.size hi-bP items.size 0 lo)).toArray):=by
  show ((items.toList.drop (bP items.size 0 lo)).take (bP items.size items.size hi-bP items.size 0 lo)).toArray.size<=sizeLine;rw[List.size_toArray,List.length_take,List.length_drop,Array.length_toList];exact Nat.le_trans (Nat.min_le_right _ _) (Nat.le_trans (Nat.sub_le _ _) hsz)
 have hj:bP items.size items.size hi<=items.size:=qB _ _ (Nat.le_refl _) hi;obtain⟨os,hos,hcs,sh⟩:=id hs;have hTs:s.TypeIs (.ref sl) "slice":=⟨os,hos,hcs⟩;unfold getItem
 try with_reducible refine wpAny_holding ?_
 first|refine wpAny_bind (wpAny_pure ?_)|skip
 refine wpAny_bind (wpAny_sequenceKey ht.typeIs (by decide) ?_)
 refine wpAny_bind (wpAny_callSpecial?_slot (name:=Str.ofString "__getitem__") ht.typeIs PyProof.Rows.slot_tuple_getitem
  (wpAny_call_entry PyProof.Rows.slot_tuple_getitem ht.typeIs entry_tuple_getitem ?_ (args_tuple_getitem _ _)))
 show wpAny _ _ (Builtin.Tuple.tupleItemsOf (.ref t) >>= _) _ _ s;refine wpAny_bind (tupleItemsOf_ ht ?_);refine wpAny_bind (wpAny_typeOf hTs ?_);rw[if_pos (by decide)]
 refine wpAny_bind (eY hs pl pu ?_);have hno:¬ ((((bP items.size 0 lo:Nat):Int) == 0 && (1:Int) == 1 && (bP items.size items.size hi-bP items.size 0 lo) == items.size)=true):=by
  intro q;rw[Bool.and_eq_true,Bool.and_eq_true] at q;have q1:((bP items.size 0 lo:Nat):Int)=0:=eq_of_beq q.1.1;have q2:bP items.size items.size hi-bP items.size 0 lo=items.size:=eq_of_beq q.2;exact hw ⟨by lia,by lia⟩
 show wpAny _ _ (if (((bP items.size 0 lo:Nat):Int) == 0 && (1:Int) == 1 && (bP items.size items.size hi-bP items.size 0 lo) == items.size)=true then _ else _) _ _ s
 rw[if_neg hno,xF]
 first
  |exact wpAny_bind (m:=Builtin.Tuple.tupleExact _) (wpAny_newObj_type (wpAny_pure ⟨_,rfl,wpAny_pure h⟩) htake)
  |exact wpAny_bind (m:=Builtin.Tuple.tupleExact _) (wpAny_newObj_type (wpAny_bind (wpAny_pure (wpAny_pure ⟨_,rfl,wpAny_pure h⟩))) htake)
  |exact wpAny_bind (wpAny_bind (m:=Builtin.Tuple.tupleExact _) (wpAny_newObj_type (wpAny_pure (wpAny_pure ⟨_,rfl,wpAny_pure h⟩)) htake))
  |exact wpAny_bind (wpAny_bind (m:=Builtin.Tuple.tupleExact _) (wpAny_newObj_type (wpAny_pure ⟨_,rfl,wpAny_pure h⟩) htake))
end
end HT
namespace L2
open PySem PySem.Spec PyProof.Rows
variable{r:V->Option Int->Option Int->Hp->VK->Prop}{xs:List (List Key×Addr×Value)}{its its' us:List Value}{α:Type}{pins:List (Addr×Obj)}{σ:St}{H H':Hp}{x y:V}{u:Value}{o:Option V}{P:Program}{w:World}{kvs:List (List Key×V)}{Q:Value->Shared->Prop}
abbrev TO:=St->Hp->(Option Int->Hp->Prop)->Prop
noncomputable def PO(X:Cx)(e:Option Expr)(t:TO):Prop:=
 ∀(pins:List (Addr×Obj)) (s:Shared) (σ:St) (H:Hp) (Q:Option Int->Hp->Prop),Inv X pins σ H s->t σ H Q ->
  wpAny (model X.prog X.w) X.A (evalPart e X.env) (λu s'=>∃o H',Inv X pins σ H' s'/\IsPart u o/\Q o H') X.xe s
noncomputable def iA:TO:=λ_ H Q=>Q none H
noncomputable def pS(t:TE):TO:=λσ H Q=>t σ H λx H1=>∃i,x=.int i/\Q (some i) H1
theorem intsAre_of{ns:List Int}:∀{us:List Value},Vals (ns.map V.int) us->IntsAre us ns:=by
 induction ns with
 |nil=>intro us r;rw[LM] at r;cases r;exact .nil
 |cons n ns ih =>
  intro us r;rw[Jy] at r
  cases r with
  |cons r1 r2 =>
   obtain⟨t,e⟩:=r1;subst e;exact .cons n t (ih r2)
section
variable {X:Cx} {e:Expr} {te:TE} {lo hi:Option Expr} {tl th:TO} {pos p2:Pos}
theorem zX:PO X none iA:=by
 intro pins s σ H Q I h;rw[evalPart_none];exact Ja ⟨none,H,I,.none,h⟩
theorem Am(h:PE X e te):PO X (some e) (pS te):=by
 intro pins s σ H Q I hw;rw[evalPart_some];refine bT (h pins s σ H _ I hw) λu s1 hq50=>?_;obtain⟨x,H1,I1,r1,q1⟩:=hq50;obtain⟨i,rfl,q⟩:=q1;obtain⟨t,rfl⟩:=r1;exact⟨some i,H1,I1,.int i t,q⟩
noncomputable def sJ(X:Cx)(r:V->Option Int->Option Int->Hp->VK->Prop):Prop:=
 ∀(pins:List (Addr×Obj)) (s:Shared) (σ:St) (H:Hp) (x:V) (v vl vu:Value) (lo hi:Option Int) (sl:Addr) (Q:VK),Inv X pins σ H s->RelV x v->s.heap.IsSliceOf sl vl vu .none->IsPart vl lo->IsPart vu hi->r x lo hi H Q ->
  ∃T id,typeLookup (.type T) "__getitem__"=pure (some (.builtin id))/\s.TypeIs v T/\wpAny (model X.prog X.w) X.A (getItem v (.ref sl)) (EP X pins σ Q) X.xe s
theorem sJ.or{r':V->Option Int->Option Int->Hp->VK->Prop}(h:sJ X r)(h':sJ X r'):sJ X (λx lo hi H Q=>r x lo hi H Q\/r' x lo hi H Q):=by
 intro pins s σ H x v vl vu lo hi sl Q I rx hs pl pu q;rcases q with q|q
 ·exact h pins s σ H x v vl vu lo hi sl Q I rx hs pl pu q
 ·exact h' pins s σ H x v vl vu lo hi sl Q I rx hs pl pu q
noncomputable def Fu(r:V->Option Int->Option Int->Hp->VK->Prop)(te:TE)(tl th:TO):TE:=λσ H Q=>te σ H λx H1=>tl σ H1 λl H2=>th σ H2 λu H3=>r x l u H3 Q
theorem yt(hr:sJ X r)(he:PE X e te)(hl:PO X lo tl)(hu:PO X hi th):PE X (.Subscript e (.Slice lo hi none p2) pos) (Fu r te tl th):=by
 intro pins s σ H Q I h;refine Subscript_ (bT (he pins s σ H _ I h) λv s1 hq51=>?_);obtain⟨x,H1,I1,r1,q1⟩:=hq51;refine wpAny_Slice (bT (hl pins s1 σ H1 _ I1 q1) λvl s2 ⟨l,H2,I2,pl,q2⟩=>bT (hu pins s2 σ H2 _ I2 q2) λvu s3 hq52=>?_);obtain⟨u,H3,I3,pu,q3⟩:=hq52;rw[evalPart_none];refine Ja ?_;have I4:Inv X pins σ H3 {s3 with heap:=s3.heap.push {cls:=.type "slice",data:=.fields #[vl,vu,.none]}}:=I3.kept (t':=s3.toks) λb ob q=>IM _ q
 obtain⟨T,id,hT,ht,hg⟩:=hr pins {s3 with heap:=s3.heap.push {cls:=.type "slice",data:=.fields #[vl,vu,.none]}} σ H3 x v vl vu l u s3.heap.objs.size Q I4 r1 (Heap.IsSliceOf.new ..) pl pu q3
 show wpAny (model X.prog X.w) X.A (subscriptTail e (.Slice lo hi none p2) v (.ref s3.heap.objs.size)) (EP X pins σ Q) X.xe {s3 with heap:=s3.heap.push {cls:=.type "slice",data:=.fields #[vl,vu,.none]}}
 exact tail_any (ops:=[.ref s3.heap.objs.size,v]) ht hT hg (by with_unfolding_all rfl)
noncomputable def eW(xs:List V)(lo hi:Option Int):List V:=(xs.drop (HT.bP xs.length 0 lo)).take (HT.bP xs.length xs.length hi-HT.bP xs.length 0 lo)
theorem jj(xs:List V)(lo hi:Option Int):(eW xs lo hi).length<=xs.length:=by
 unfold eW;rw[Jn,JC];exact IY (Nat.min_le_right _ _) (Nat.sub_le _ _)
noncomputable def uC(K:Og):V->Option Int->Option Int->Hp->VK->Prop:=λx lo hi H Q=>∃a xs,x=.ref a/\bu K H a xs /\
 ¬ (HT.bP xs.length 0 lo=0/\HT.bP xs.length xs.length hi=xs.length)/\∀p,H p=none->Q (.ref p) (upd H p (.tup (eW xs lo hi)))
theorem qO:sJ X (uC X.K):=by
 intro pins s σ H x v vl vu lo hi sl Q I rx hs pl pu h;obtain⟨a,xs,rfl,hx,hw,q⟩:=h;cases rx;obtain⟨its,r,ht,hz⟩:=I.tuple hx;have hlen:its.toArray.size=xs.length:=by rw[IS];exact r.length.symm
 refine⟨"tuple",_,Kt.lookup,ht.typeIs,?_⟩;refine HT.iy ht hs pl pu (by rw[hlen];exact hw) ?_ (by rw[hlen];exact hz)
 rw[hlen];refine⟨.ref s.heap.objs.size,_,I.laid (t':=s.toks) (o:=.tup (eW xs lo hi)) (λb ob q=>IM _ q) (IU _) ?_,rfl,q _ (I.bc.fresh (IU _))⟩;exact⟨IY (jj xs lo hi) hz,_,(r.drop (HT.bP xs.length 0 lo)).take (HT.bP xs.length xs.length hi-HT.bP xs.length 0 lo),d7.new _ _⟩
noncomputable def Hb(K:Og):R2:=λx y H Q=>∃a b xs ys,x=.ref a/\y=.ref b/\bu K H a xs/\bu K H b ys/\xs≠[]/\xs.length+ys.length<=sizeLine /\
 (ys=[]->Q (.ref a) H)/\(ys≠[]->∀p,H p=none->Q (.ref p) (upd H p (.tup (xs++ys))))
theorem Vals.mP{xs:List V}(r:Vals xs us):us=[] ↔ xs=[]:=by
 cases r with
 |nil=>simp
 |cons _ _=>simp
theorem rZ:cI X (binaryOp .Add) (Hb X.K):=by
 intro pins s σ H x y v u Q I rx ry h;obtain⟨a,b,xs,ys,rfl,rfl,ha,hb,hx,hz,q1,q2⟩:=h;cases rx;cases ry;obtain⟨its,r1,p1,_⟩:=I.tuple ha;obtain⟨its2,r2,p2,_⟩:=I.tuple hb;refine HT.zL p1 p2 (λz=>hx (r1.mP.mp z)) (λz=>⟨.ref a,H,I,rfl,q1 (r2.mP.mp z)⟩) (λz=>?_) (by rw[<- r1.length,<- r2.length];exact hz)
 refine⟨.ref s.heap.objs.size,_,I.laid (t':=s.toks) (o:=.tup (xs++ys)) (λb ob q=>IM _ q) (IU _) ?_,rfl,q2 (λw=>z (r2.mP.mpr w)) _ (I.bc.fresh (IU _))⟩;exact⟨by rw[IL];exact hz,_,r1.append r2,d7.new _ _⟩
end
noncomputable def j0(n:Nat)(i:Int):Option Nat:=if 0<=i then (if i<n then some i.toNat else none) else if -(n:Int)<=i then some (i+n).toNat else none
noncomputable def bU(xs:List α)(i:Int):Option α:=(j0 xs.length i).bind λj=>xs[j]?
theorem tN{n:Nat}{i:Int}{j:Nat}(h:j0 n i=some j):seqIndex? i n=some j/\j<n/\-(n:Int)<=i/\i<n:=by
 unfold j0 at h;by_cases h0:0<=i
 ·rw[IW h0] at h;by_cases h1:i<n
  ·rw[IW h1] at h;have e:i.toNat=j:=Option.some.inj h;exact⟨by rw[seqIndex_of h0 h1,e],by lia,by lia,h1⟩
  ·rw[IT h1] at h;cases h
 ·rw[IT h0] at h;by_cases h1:-(n:Int)<=i
  ·rw[IW h1] at h;have e:(i+n).toNat=j:=Option.some.inj h;exact⟨by rw[Oc (by lia) h1,e],by lia,h1,by lia⟩
  ·rw[IT h1] at h;cases h
theorem nk{xs:List α}{i:Int}{v:α}(h:bU xs i=some v):∃j,seqIndex? i xs.length=some j/\xs[j]?=some v/\j<xs.length/\-(xs.length:Int)<=i/\i<xs.length:=by
 unfold bU at h
 cases e:j0 xs.length i with
 |none=>rw[e] at h;cases h
 |some j =>
  rw[e] at h;obtain⟨h1,h2,h3,h4⟩:=tN e;exact⟨j,h1,h,h2,h3,h4⟩
theorem b7{xs:List α}{j:Nat}{v:α}(h:xs[j]?=some v):bU xs (j:Int)=some v:=by
 have hj:j<xs.length:=(IQ.mp h).1;have e:j0 xs.length (j:Int)=some j:=by
  unfold j0;rw[IW (by lia),IW (by lia)];simp
 unfold bU;rw[e];exact h
theorem oG(xs:List α)(v:α):bU (xs++[v]) (-1)=some v:=by
 have hl:(xs++[v]).length=xs.length+1:=by simp
 have e:j0 (xs++[v]).length (-1)=some xs.length:=by
  unfold j0;rw[hl,IT (by decide),IW (by lia)]
  congr 1;lia
 unfold bU;rw[e];show (xs++[v])[xs.length]?=some v;simp
noncomputable def r_(b:Expr):Prop:=∀o i,subscripted b false o i=operate [o,i] (getItem o i)
noncomputable def um(X:Cx)(r:R2):Prop:=
 ∀(value slice:Expr) (pins:List (Addr×Obj)) (s:Shared) (σ:St) (H:Hp) (x y:V) (v u:Value) (Q:VK),Inv X pins σ H s->RelV x v->RelV y u->r x y H Q ->
  subscripted slice false v u=operate [v,u] (getItem v u)->wpAny (model X.prog X.w) X.A (subscriptTail value slice v u) (EP X pins σ Q) X.xe s
noncomputable def wZ(X:Cx)(id:String)(r:V->List V->Hp->VK->Prop):Prop:=
 ∀(pins:List (Addr×Obj)) (s:Shared) (σ:St) (H:Hp) (x:V) (xs:List V) (v:Value) (us:List Value) (Q:VK),Inv X pins σ H s->RelV x v->Vals xs us->r x xs H Q ->
  wpAny (model X.prog X.w) X.A (call (.builtin id) (v::us)) (EP X pins σ Q) X.xe s
section
variable {X:Cx} {a b:Expr} {ta tb:TE} {pos:Pos}
theorem um.or{r r':R2}(h:um X r)(h':um X r'):um X (λx y H Q=>r x y H Q\/r' x y H Q):=by
 intro value slice pins s σ H x y v u Q I rx ry q hs;rcases q with q|q
 ·exact h value slice pins s σ H x y v u Q I rx ry q hs
 ·exact h' value slice pins s σ H x y v u Q I rx ry q hs
theorem BN{r:R2}(hr:um X r)(ha:PE X a ta)(hb:PE X b tb)(hs:r_ b):PE X (.Subscript a b pos) (xO r ta tb):=by
 intro pins s σ H Q I h;exact Subscript_ (EU ha hb I h λv u s2 x y H2 I2 rx ry q=>hr a b pins s2 σ H2 x y v u Q I2 rx ry q (hs _ _))
noncomputable def He(K:Og):R2:=λx y H Q=>∃p xs i v,x=.ref p/\y=.int i/\ck K H p xs/\bU xs i=some v/\Q v H
noncomputable def DP(K:Og):R2:=λx y H Q=>∃p xs i v,x=.ref p/\y=.int i/\bu K H p xs/\bU xs i=some v/\Q v H
noncomputable def FT:R2:=λx y H Q=>∃z i c,x=.str z/\y=.int i/\z.length<=sizeLine/\bU z.cps.toList i=some c/\Q (.str ⟨#[c]⟩) H
theorem Ab:um X (He X.K):=by
 intro value slice pins s σ H x y v u Q I rx ry h hs;obtain⟨p,xs,i,z,rfl,rfl,hq,he,q⟩:=h;cases rx;obtain⟨t,rfl⟩:=ry;obtain⟨its,r,pl,hz⟩:=I.list hq;obtain⟨j,h1,h2,h3,h4,h5⟩:=nk he;obtain⟨w,ew,rw'⟩:=r.get h2;have hl:=r.length;have hn:=iZ;have fin:EP X pins σ Q w s:=⟨z,H,I,rw',q⟩;by_cases h0:0<=i
 ·have hj:i.toNat=j:=by
   rw[seqIndex_of h0 h5] at h1;exact Option.some.inj h1
  exact item_listR pl.isList h0 (by lia) (by rw[hj];simpa using ew) fin hs
 ·have hj:(i+(its.toArray.size:Int)).toNat=j:=by
   rw[Oc (by lia) h4] at h1
   rw[IS,<- hl];exact Option.some.inj h1
  exact subscriptTail_builtinR (x:=w) pl.isList.typeIs slot_list_getitem.lookup
   (wpAny_getItem_list_neg (Q:=λr s'=>r=w/\EP X pins σ Q r s') pl.isList (by lia) (by rw[IS]<;>lia) (by lia) (by rw[hj];simpa using ew) ⟨rfl,fin⟩) hs
theorem qJ:um X (DP X.K):=by
 intro value slice pins s σ H x y v u Q I rx ry h hs;obtain⟨p,xs,i,z,rfl,rfl,hq,he,q⟩:=h;cases rx;obtain⟨t,rfl⟩:=ry;obtain⟨its,r,pl,hz⟩:=I.tuple hq;obtain⟨j,h1,h2,h3,h4,h5⟩:=nk he;obtain⟨w,ew,rw'⟩:=r.get h2;have hl:=r.length;have hn:=iZ;have fin:EP X pins σ Q w s:=⟨z,H,I,rw',q⟩;exact subscriptTail_builtinR (x:=w) pl.typeIs slot_tuple_getitem.lookup
  (getItem_tuple (j:=j) (Q:=λr s'=>r=w/\EP X pins σ Q r s') pl (by lia) (by lia) (by rw[IS,<- hl];exact h1) (by simpa using ew) ⟨rfl,fin⟩) hs
theorem DW:um X FT:=by
 intro value slice pins s σ H x y v u Q I rx ry h hs;obtain⟨z,i,c,rfl,rfl,hz,he,q⟩:=h;obtain⟨t,rfl⟩:=rx;obtain⟨t',rfl⟩:=ry;obtain⟨j,h1,h2,h3,h4,h5⟩:=nk he;have hl:z.cps.toList.length=z.length:=by simp[Str.length]
 rw[hl] at h1 h4 h5;have hn:=iZ;exact tail_any (NX s z t) slot_str_getitem.lookup (getItem_str (c:=c) (by
  have e1:decide (i < -(2^63:Int))=false:=Jq (by lia)
  have e2:decide (i >= 2^63)=false:=Jq (by lia)
  rw[e1,e2,Bool.or_false]) (by rw[h1];simpa using h2) ⟨.str ⟨#[c]⟩,H,I.tok _,⟨_,rfl⟩,q⟩) hs
noncomputable def IG(K:Og):R2:=λx y H Q=>He K x y H Q\/DP K x y H Q\/FT x y H Q
theorem DC:um X (IG X.K):=Ab.or (qJ.or DW)
theorem rH(its:List Value)(n j:Nat)(u:Value):Obj.mapSeq (·.setIfInBounds j u) {cls:=.type "list",data:=.seq its.toArray n}={cls:=.type "list",data:=.seq (its.set j u).toArray n}:=by
 simp[Obj.mapSeq]
theorem Inv.lst{s:Shared}{p:Addr}{xs:List V}(I:Inv X pins σ H s)(h:H p=some (.lst xs)):
  ∃(its:List Value) (n:Nat),Vals xs its/\s.heap.get? p=some {cls:=.type "list",data:=.seq its.toArray n}/\xs.length<=sizeLine:=by
 obtain⟨z,its,n,r,e⟩:=I.bc p _ h;exact⟨its,n,r,e,z⟩
theorem Inv.Eb{s:Shared}{p:Addr}{xs ys:List V}{n n':Nat}{f:Obj->Obj}(I:Inv X pins σ H s)(h:H p=some (.lst xs))
  (ho:s.heap.get? p=some {cls:=.type "list",data:=.seq its.toArray n}) (hf:f {cls:=.type "list",data:=.seq its.toArray n}={cls:=.type "list",data:=.seq its'.toArray n'}) (r:Vals ys its') (hz:ys.length<=sizeLine) (t:Nat) :
  Inv X pins σ (upd H p (.lst ys)) {s with heap:=s.heap.update p f,toks:=t}:=by
 have e:(s.heap.update p f).get? p=some {cls:=.type "list",data:=.seq its'.toArray n'}:=by
  rw[Lv f ho (by rw[hf]<;>rfl),hf]
 refine I.write (x:=p) (e:=p) (by rw[h];trivial) (.inl rfl) (λb u hb q=>(Mb _ _ (Kp hb)).trans q) ⟨_,e⟩ ?_
 exact⟨hz,its',n',r,e⟩
noncomputable def Ft:V->V->V->Hp->(Hp->Prop)->Prop:=λo i v H Q=>∃p xs k j,o=.ref p/\i=.int k/\H p=some (.lst xs)/\j0 xs.length k=some j/\Q (upd H p (.lst (xs.set j v)))
theorem set_list:C4 X Ft:=by
 intro pins s σ H o i v ov iv u Q I ro ri rv h;obtain⟨p,xs,k,j,rfl,rfl,hp,hj,q⟩:=h;cases ro;obtain⟨t,rfl⟩:=ri;obtain⟨its,n,r,ho,hz⟩:=I.lst hp;obtain⟨h1,h2,h3,h4⟩:=tN hj;have hl:=r.length;have hn:=iZ;have I':Inv X pins σ (upd H p (.lst (xs.set j v))) {s with heap:=s.heap.update p (Obj.mapSeq (·.setIfInBounds j u))}:=
  I.Eb hp ho (rH its n j u) (r.set rv j) (by rw[KA];exact hz) s.toks
 by_cases h0:0<=k
 ·have hk:k.toNat=j:=by
   rw[seqIndex_of h0 h4] at h1;exact Option.some.inj h1
  exact PySem.W.ki_setAt ho h0 (by lia) (by rw[IS,<- hl];exact h4) (by rw[hk];exact⟨_,I',q⟩)
 ·have hk:(k+(its.toArray.size:Int)).toNat=j:=by
   rw[Oc (by lia) h3] at h1
   rw[IS,<- hl];exact Option.some.inj h1
  exact PySem.W.ki_setBack ho (by lia) (by rw[IS,<- hl];exact h3) (by lia) (by rw[hk];exact⟨_,I',q⟩)
theorem mK(lo hi:Option Int)(n:Nat):(sliceBounds lo hi none n).1=((HT.bP n 0 lo:Nat):Int)/\(sliceBounds lo hi none n).2.1=((HT.bP n n hi:Nat):Int)/\(sliceBounds lo hi none n).2.2=1:=by
 refine⟨?_,?_,rfl⟩
 ·cases lo with
  |none=>simp[sliceBounds,HT.bP]
  |some i =>
   simp only[sliceBounds,HT.bP,Option.getD_none,show (1:Int) > 0 by decide,Mo]
   by_cases h:i<0
   ·simp only[h,Mo]<;>lia
   ·simp only[h,KP]<;>lia
 ·cases hi with
  |none=>simp[sliceBounds,HT.bP]
  |some i =>
   simp only[sliceBounds,HT.bP,Option.getD_none,show (1:Int) > 0 by decide,Mo]
   by_cases h:i<0
   ·simp only[h,Mo]<;>lia
   ·simp only[h,KP]<;>lia
theorem lg(its:List Value)(lo hi:Option Int):slicePick its.toArray lo hi none=((its.drop (HT.bP its.length 0 lo)).take (HT.bP its.length its.length hi-HT.bP its.length 0 lo)).toArray:=by
 obtain⟨h1,h2,h3⟩:=mK lo hi its.toArray.size;unfold slicePick;rw[h1,h2,h3];simp only[sliceRange_one,pick_run,IS]<;>rfl
noncomputable def DR(K:Og):V->Option Int->Option Int->Hp->VK->Prop:=λx lo hi H Q=>∃a xs,x=.ref a/\ck K H a xs/\∀p,H p=none->Q (.ref p) (upd H p (.lst (eW xs lo hi)))
theorem mD:sJ X (DR X.K):=by
 intro pins s σ H x v vl vu lo hi sl Q I rx hs pl pu h;obtain⟨a,xs,rfl,hx,q⟩:=h;cases rx;obtain⟨its,r,ht,hz⟩:=I.list hx;have hlen:=r.length;refine⟨"list",_,slot_list_getitem.lookup,ht.isList.typeIs,?_⟩;refine wpAny_getItem_list_slice ht.isList hs pl pu .none (by simp) ?_ (by rw[IS]<;>lia)
 rw[lg,<- hlen];refine⟨.ref s.heap.objs.size,_,I.laid (t':=s.toks) (o:=.lst (eW xs lo hi)) (λb ob q=>IM _ q) (IU _) ?_,rfl,q _ (I.bc.fresh (IU _))⟩;exact⟨IY (jj xs lo hi) hz,_,0,(r.drop (HT.bP xs.length 0 lo)).take (HT.bP xs.length xs.length hi-HT.bP xs.length 0 lo),Jf _ rfl⟩
noncomputable def cK:V->Bool
 |.aT=>true
 |.bl _=>true
 |.int _=>true
 |.str _=>true
 |_=>false
noncomputable def vF:V->V->Bool
 |.aT,.aT=>true
 |.bl a,.bl b=>a == b
 |.bl a,.int b=>(if a then 1 else 0) == b
 |.int a,.bl b=>a ==(if b then 1 else 0)
 |.int a,.int b=>a == b
 |.str a,.str b=>a == b
 |_,_=>false
theorem mZ{A:Around}{s:Shared}{v:Value}(ry:RelV y u)(rx:RelV x v)(fy:cK y=true)(fx:cK x=true):SeqAt.EqAt A s u v (vF y x):=by
 cases y with
 |aT =>
  cases ry
  cases x with
  |aT=>cases rx;exact SeqAt.EqAt.same _
  |bl b=>cases rx;exact SeqAt.EqAt.none_bool b
  |int b=>obtain⟨t,rfl⟩:=rx;exact SeqAt.EqAt.none_int b t
  |str b=>obtain⟨t,rfl⟩:=rx;exact SeqAt.EqAt.none_str b t
  |_=>exact absurd (show false=true from fx) Jb
 |bl a =>
  cases ry
  cases x with
  |aT=>cases rx;exact SeqAt.EqAt.bool_none a
  |bl b=>cases rx;exact SeqAt.EqAt.bool_bool a b
  |int b=>obtain⟨t,rfl⟩:=rx;exact SeqAt.EqAt.bool_int a b t
  |str b=>obtain⟨t,rfl⟩:=rx;exact SeqAt.EqAt.bool_str a b t
  |_=>exact absurd (show false=true from fx) Jb
 |int a =>
  obtain⟨t',rfl⟩:=ry
  cases x with
  |aT=>cases rx;exact SeqAt.EqAt.int_none a t'
  |bl b=>cases rx;exact SeqAt.EqAt.int_bool a t' b
  |int b=>obtain⟨t,rfl⟩:=rx;exact SeqAt.EqAt.int_int a t' b t
  |str b=>obtain⟨t,rfl⟩:=rx;exact SeqAt.EqAt.int_str a t' b t
  |_=>exact absurd (show false=true from fx) Jb
 |str a =>
  obtain⟨t',rfl⟩:=ry
  cases x with
  |aT=>cases rx;exact SeqAt.EqAt.str_none a t'
  |bl b=>cases rx;exact SeqAt.EqAt.str_bool a t' b
  |int b=>obtain⟨t,rfl⟩:=rx;exact SeqAt.EqAt.str_int a t' b t
  |str b=>obtain⟨t,rfl⟩:=rx;exact SeqAt.EqAt.str_str a t' b t
  |_=>exact absurd (show false=true from fx) Jb
 |_=>exact absurd (show false=true from fy) Jb
noncomputable def qI(x:V)(u:Value):Bool:=match u with
 |.none=>vF .aT x
 |.bool b=>vF (.bl b) x
 |.int i _=>vF (.int i) x
 |.str z _=>vF (.str z) x
 |_=>false
theorem yC(r:RelV y u)(f:cK y=true):qI x u=vF y x:=by
 cases y with
 |aT=>cases r;rfl
 |bl b=>cases r;rfl
 |int i=>obtain⟨t,rfl⟩:=r;rfl
 |str z=>obtain⟨t,rfl⟩:=r;rfl
 |_=>exact absurd (show false=true from f) Jb
theorem iB:∀{xs:List V} {us:List Value},Vals xs us->xs.all cK=true->us.any (qI x)=xs.any λy=>vF y x
 |_,_,.nil,_=>rfl
 |y::xs,u::us,.cons r t,f=>by
  rw[Ky,JQ] at f;rw[Mf,Mf,yC r f.1,iB t f.2]
theorem fW{A:Around}{s:Shared}{v:Value}(rx:RelV x v)(fx:cK x=true):∀{xs:List V} {us:List Value},Vals xs us->xs.all cK=true->∀u∈us,SeqAt.EqAt A s u v (qI x u)
 |_,_,.nil,_=>λu hu=>by cases hu
 |y::xs,u::us,.cons r t,f=>λu' hu=>by
  rw[Ky,JQ] at f;rcases IX.mp hu with rfl|hu
  ·rw[yC r f.1];exact mZ r rx f.1 fx
  ·exact fW rx fx t f.2 u' hu
noncomputable def hJ(x:V)(xs:List V):Bool:=xs.any λy=>vF y x
noncomputable def Hw(K:Og)(neg:Bool):R2:=λx y H Q=>∃p xs,y=.ref p/\(ck K H p xs\/bu K H p xs)/\cK x=true/\xs.all cK=true/\Q (.bl (if neg then !hJ x xs else hJ x xs)) H
theorem lL:cI X (compareOp .In) (Hw X.K false):=by
 intro pins s σ H x y v u Q I rx ry h;obtain⟨p,xs,rfl,hq,fx,fs,q⟩:=h;cases ry;rcases hq with hq|hq
 ·obtain⟨its,r,pl,hz⟩:=I.list hq;refine SeqAt.in_listAt (qI x) pl.isList (λw hw=>fW rx fx r fs w (by simpa using hw)) ⟨.bl _,H,I,rfl,?_⟩
  rw[show its.toArray.any (qI x)=its.any (qI x) by simp,iB r fs]
  exact q
 ·obtain⟨its,r,pl,hz⟩:=I.tuple hq;refine SeqAt.in_tupleAt (qI x) pl (λw hw=>fW rx fx r fs w (by simpa using hw)) ⟨.bl _,H,I,rfl,?_⟩
  rw[show its.toArray.any (qI x)=its.any (qI x) by simp,iB r fs]
  exact q
theorem mR:cI X (compareOp .NotIn) (Hw X.K true):=by
 intro pins s σ H x y v u Q I rx ry h;obtain⟨p,xs,rfl,hq,fx,fs,q⟩:=h;cases ry;rcases hq with hq|hq
 ·obtain⟨its,r,pl,hz⟩:=I.list hq;refine SeqAt.notIn_listAt (qI x) pl.isList (λw hw=>fW rx fx r fs w (by simpa using hw)) ⟨.bl _,H,I,rfl,?_⟩
  rw[show its.toArray.any (qI x)=its.any (qI x) by simp,iB r fs]
  exact q
 ·obtain⟨its,r,pl,hz⟩:=I.tuple hq;refine SeqAt.notIn_tupleAt (qI x) pl (λw hw=>fW rx fx r fs w (by simpa using hw)) ⟨.bl _,H,I,rfl,?_⟩
  rw[show its.toArray.any (qI x)=its.any (qI x) by simp,iB r fs]
  exact q
theorem mT:cI X (compareOp .NotIn) (λx y H Q=>∃i j,x=.str i/\y=.str j/\Q (.bl (!(!(Builtin.Str.occurrences j i 0 j.length 1).isEmpty))) H):=by
 intro pins s σ H x y v u Q I rx ry h;obtain⟨i,j,rfl,rfl,q⟩:=h;obtain⟨t,rfl⟩:=rx;obtain⟨t',rfl⟩:=ry;exact notIn_str ⟨.bl _,H,I,rfl,q⟩
theorem mM:bD X (.type "list") (λxs H Q=>∃p ys,xs=[.ref p]/\(ck X.K H p ys\/bu X.K H p ys)/\∀l,H l=none->Q (.ref l) (upd H l (.lst ys))):=by
 intro pins s σ H xs us Q I r h;obtain⟨p,ys,rfl,hq,q⟩:=h;obtain⟨u,rfl,rx⟩:=vals1 r;cases rx;have fin:∀(its:List Value),Vals ys its->ys.length<=sizeLine->∀(h':Heap) (c':Nat),(∀b o',s.heap.get? b=some o'->h'.get? b=some o') ->
   h'.get? s.heap.objs.size=some {cls:=.type "list",dict:=none,data:=.seq its.toArray c',slots:=#[]}->EP X pins σ Q (.ref s.heap.objs.size) {s with heap:=h'}:=λits r' hz h' c' kp e =>
  ⟨.ref s.heap.objs.size,_,I.laid (t':=s.toks) kp (IU _) (show b6 X.prog X.w _ h' _ (.lst ys) from⟨hz,its,c',r',e⟩),rfl,q _ (I.bc.fresh (IU _))⟩
 rcases hq with hq|hq
 ·obtain⟨its,r',pl,hz⟩:=I.list hq;have hlen:=r'.length;obtain⟨o,ho,hc,n,hd⟩:=pl.isList;exact call_list_seq p (.inl rfl) ho hc hd (λh' c' kp e=>fin its r' hz h' c' kp e) (by simp only[IS]<;>lia)
 ·obtain⟨its,r',pl,hz⟩:=I.tuple hq;have hlen:=r'.length;obtain⟨o,ho,hc,n,hd⟩:=pl;exact call_list_seq p (.inr rfl) ho hc hd (λh' c' kp e=>fin its r' hz h' c' kp e) (by simp only[IS]<;>lia)
theorem eM:bD X (.type "tuple") (λxs H Q=>∃p ys,xs=[.ref p]/\((ck X.K H p ys/\∀l,H l=none->Q (.ref l) (upd H l (.tup ys)))\/(bu X.K H p ys/\Q (.ref p) H))):=by
 intro pins s σ H xs us Q I r h;obtain⟨p,ys,rfl,h⟩:=h;obtain⟨u,rfl,rx⟩:=vals1 r;cases rx;rcases h with ⟨hq,q⟩|⟨hq,q⟩
 ·obtain⟨its,r',pl,hz⟩:=I.list hq;have hlen:=r'.length;refine call_tuple_list pl.isList (λh' kp=>?_) (by simp only[IS]<;>lia)
  have I1:Inv X pins σ H {s with heap:=h'}:=I.kept (t':=s.toks) kp
  have I2:Inv X pins σ (upd H h'.objs.size (.tup ys)) {s with heap:=h'.push {cls:=.type "tuple",data:=.seq its.toArray}}:=
   I1.laid (t':=s.toks) (λb o e=>IM _ e) (IU _) (show b6 X.prog X.w _ _ _ (.tup ys) from⟨hz,its,r',d7.new _ _⟩)
  exact⟨.ref h'.objs.size,_,I2,rfl,q _ (I1.bc.fresh (IU _))⟩
 ·obtain⟨its,r',pl,hz⟩:=I.tuple hq;exact call_tuple_same pl ⟨.ref p,H,I,rfl,q⟩
noncomputable def FR(K:Og)(T:String)(x:V)(H:Hp):Prop:=match x with
 |.str _=>T="str"
 |.int _=>T="int"
 |.ref p=>(T="list"/\∃xs,ck K H p xs)\/(T="tuple"/\∃o,K.lookup p=some o/\o.cls=.type "tuple"/\o.dict=none) \/
   (T="dict"/\((∃kvs,H p=some (.dK kvs))\/∃kvs,H p=some (.dT kvs)))\/(T="set"/\∃S n,H p=some (.set S n))
 |_=>False
theorem xW{s:Shared}{T:String}{v:Value}(I:Inv X pins σ H s)(r:RelV x v)(ty:FR X.K T x H):
  s.TypeIs v T/\∀a,v=.ref a->∃ob,s.heap.get? a=some ob/\ob.dict=none:=by
 cases x with
 |str z =>
  obtain⟨t,rfl⟩:=r
  cases (show T="str" from ty)
  exact⟨NX s z t,λ_ e=>nomatch e⟩
 |int i =>
  obtain⟨t,rfl⟩:=r
  cases (show T="int" from ty)
  exact⟨Lg s i t,λ_ e=>nomatch e⟩
 |ref p =>
  cases r;rcases ty with ⟨rfl,xs,hq⟩|⟨rfl,o,hk,hc,hd⟩|⟨rfl,hk⟩|⟨rfl,S,n,hk⟩
  ·obtain⟨its,_,pl,_⟩:=I.list hq;refine⟨pl.isList.typeIs,λa e=>?_⟩;cases e;obtain⟨o,n,e,c,hd,_⟩:=pl;exact⟨o,e,hd⟩
  ·refine⟨⟨o,I.iu p o hk,hc⟩,λa e=>?_⟩;cases e;exact⟨o,I.iu _ o hk,hd⟩
  ·have z:∃o,s.heap.get? p=some o/\o.ExactDict:=by
    rcases hk with ⟨kvs,hk⟩|⟨kvs,hk⟩
    ·obtain⟨_,_,_,_,o,_,_,e,ex,_⟩:=I.bc p _ hk;exact⟨o,e,ex⟩
    ·obtain⟨_,_,_,_,o,_,_,e,ex,_⟩:=I.bc p _ hk;exact⟨o,e,ex⟩
   obtain⟨o,e,ex⟩:=z;refine⟨⟨o,e,ex.1⟩,λa e2=>?_⟩;cases e2;exact⟨o,e,ex.2.1⟩
  ·obtain⟨o,_,_,_,e,ex,_⟩:=I.bc p _ hk;refine⟨⟨o,e,ex.1⟩,λa e2=>?_⟩;cases e2;exact⟨o,e,ex.2.1⟩
 |_=>exact False.elim ty
noncomputable def xi(K:Og)(T:String)(r:V->List V->Hp->VK->Prop)(to:TE):TE:=λσ H Q=>to σ H λx H1=>FR K T x H1/\r x [] H1 Q
noncomputable def Fe(K:Og)(T:String)(r:V->List V->Hp->VK->Prop)(to:TE)(t:TA):TE:=λσ H Q=>to σ H λx H1=>FR K T x H1/\t σ H1 λxs H2=>r x xs H2 Q
variable {o e:Expr} {es:List Expr} {to:TE} {t:TA} {name:Str} {apos cpos:Pos} {T id:String} {r:V->List V->Hp->VK->Prop}
theorem DA(pa:PlainAttrs T)(slot:Slot T name id)(hty:typeOf (.builtin id)=pure (.type "method_descriptor"))(hm:wZ X id r)(ho:PE X o to)
  (hbase:autoParam (attributeBase o name X.env (eval o X.env)=eval o X.env) ℜ0) (hline:autoParam ((apos.endLine == cpos.line)=true) ℜ0):PE X (.Call (.Attribute o name apos) [] [] cpos) (xi X.K T r to):=by
 intro pins s σ H Q I h;refine wpAny_Call_method0_late hbase hline (bT (ho pins s σ H _ I h) λv s1 hq53=>?_);obtain⟨x,H1,I1,r1,ty,q1⟩:=hq53;obtain⟨h1,h2⟩:=xW I1 r1 ty;exact⟨T,id,pa,slot,hty,h1,h2,NG rfl (PySem.evalArgs_none (hm pins s1 σ H1 x [] v [] Q I1 r1 .nil q1))⟩
theorem FX(pa:PlainAttrs T)(slot:Slot T name id)(hty:typeOf (.builtin id)=pure (.type "method_descriptor"))(hm:wZ X id r)(ho:PE X o to)(ha:PA X (e::es) t)
  (hbase:autoParam (attributeBase o name X.env (eval o X.env)=eval o X.env) ℜ0)
  (hfew:autoParam (((backTo cpos (starEach (e::es) X.env)).all (λx=>!x.1) && (backToKw cpos (keywordEach [] X.env)).all (λx=>x.1.isSome)
   && decide ((e::es).length+([]:List Keyword).length+(if ([]:List Keyword).isEmpty then 0 else 1)<30))=true) ℜ0)
  (hline:autoParam ((apos.endLine == cpos.line)=true) ℜ0) (hs:autoParam (starEach (e::es) X.env=(false,eval e X.env)::starEach es X.env) ℜ0) (hplain:autoParam ((backTo cpos (starEach es X.env)).any (·.1)=false) ℜ0) :
  PE X (.Call (.Attribute o name apos) (e::es) [] cpos) (Fe X.K T r to t):=by
 intro pins s σ H Q I h;refine wpAny_Call_method_late hbase hfew hline rfl (bT (ho pins s σ H _ I h) λv s1 hq54=>?_);obtain⟨x,H1,I1,r1,ty,q1⟩:=hq54;obtain⟨h1,h2⟩:=xW I1 r1 ty;refine⟨T,id,pa,slot,hty,h1,h2,?_⟩;have hA:=ha cpos pins s1 σ H1 _ I1 q1;rw[hs] at hA ⊢;refine NG (by show (false || (backTo cpos (starEach es X.env)).any (·.1))=false;rw[hplain]<;>rfl) (Calls.evalArgs_plain ?_)
 exact bT hA λus s2 ⟨vs,H2,I2,r2,q2⟩=>hm pins s2 σ H2 x vs v us Q I2 r1 r2 q2
/- xs.append(e),list.index on a module's tuple .. are wZ facts of 06m -/
end
noncomputable def Hs(X:Cx)(id:String)(r:V->List V->Hp->VK->Prop):Prop:=
 ∀(pins:List (Addr×Obj)) (s:Shared) (σ:St) (H:Hp) (x:V) (xs:List V) (v:Value) (us:List Value) (Q:VK),Inv X pins σ H s->RelV x v->Vals xs us->r x xs H Q ->
  wpAny (model X.prog X.w) X.A (call (.builtin id) (v::us)) (EP X pins σ Q) X.xe s
theorem Vals.one:∀{x:V} {us:List Value},Vals [x] us->∃u,us=[u]/\RelV x u
 |_,_,.cons r .nil=>⟨_,rfl,r⟩
theorem Vals.eraseIdx:∀{xs:List V} {us:List Value} (i:Nat),Vals xs us->Vals (xs.eraseIdx i) (us.eraseIdx i)
 |_,_,_,.nil=>.nil
 |_,_,0,.cons _ t=>t
 |_,_,i+1,.cons r t=>.cons r (Vals.eraseIdx i t)
theorem Vals.rep{xs:List V}(h:Vals xs us):∀k:Nat,Vals (List.replicate k xs).flatten (List.replicate k us).flatten
 |0=>.nil
 |k+1=>by
  rw[J9,J9,Kl,Kl];exact Vals.append h (Vals.rep h k)
theorem lJ:∀(l:List α) (i:Nat),(l.eraseIdx i).length<=l.length
 |[],_=>IU _
 |_::_,0=>Kh _
 |_::r,i+1=>Mm (lJ r i)
theorem foldl_rep(its:List Value):∀(k:Nat) (acc:List Value),
  List.foldl (λx1 x2=>x1++x2) acc.toArray (List.replicate k its.toArray)=(acc++(List.replicate k its).flatten).toArray
 |0,acc=>by simp
 |k+1,acc=>by
  have e:acc.toArray++its.toArray=(acc++its).toArray:=by simp
  have e2:(acc++its)++(List.replicate k its).flatten=acc++(List.replicate (k+1) its).flatten:=by
   rw[J9,Kl,Jl]
  rw[<- e2,<- foldl_rep its k (acc++its),<- e,J9,Mz]
section
variable {X:Cx} {pins:List (Addr×Obj)} {σ:St} {H:Hp} {s:Shared} {l b:Addr} {xs ys zs:List V}
theorem Inv.Ek{n:Nat}{f:Array Value->Array Value}{t':Nat}(I:Inv X pins σ H s)(hH:H l=some (.lst xs))
  (e:s.heap.get? l=some {cls:=.type "list",data:=.seq its.toArray n}) (hf:f its.toArray=its'.toArray) (hv:Vals ys its') (hz:ys.length<=sizeLine) :
  Inv X pins σ (upd H l (.lst ys)) {s with heap:=s.heap.update l (Obj.mapSeq f),toks:=t'}:=by
 have q:=PySem.IsL.update e f;rw[hf] at q;refine I.write (x:=l) (e:=l) (by rw[hH];exact trivial) (.inl rfl) (λb' u hb hu=>(Mb s.heap (Obj.mapSeq f) (Kp hb)).trans hu) ⟨_,q⟩ ?_
 exact⟨hz,its',_,hv,q⟩
theorem Inv.CH{t':Nat}(I:Inv X pins σ H s)(hv:Vals ys its)(hz:ys.length<=sizeLine):
  Inv X pins σ (upd H s.heap.objs.size (.lst ys)) {s with heap:=s.heap.push {cls:=.type "list",data:=.seq its.toArray},toks:=t'}:=
 I.laid (λ_ _ q=>IM _ q) (IU _) ⟨hz,its,0,hv,Jf _ rfl⟩
theorem Inv.fresh(I:Inv X pins σ H s):H s.heap.objs.size=none:=I.bc.fresh (IU _)
theorem Inv.r8(I:Inv X pins σ H s)(hH:H l=some (.lst xs)):xs.length<=sizeLine/\∃(its:List Value) (n:Nat),Vals xs its/\xs.length=its.length/\s.heap.get? l=some {cls:=.type "list",data:=.seq its.toArray n}:=by
 obtain⟨z,its,n,r,e⟩:=I.bc l _ hH;exact⟨z,its,n,r,r.length,e⟩
theorem wK{n:Nat}(h:n<=sizeLine):Builtin.List.listTooLong n=false:=by
 unfold Builtin.List.listTooLong;exact Jq (by lia)
end
section
variable {X:Cx}
noncomputable def AF:V->List V->Hp->VK->Prop:=λx vs H Q=>∃l xs y,x=.ref l/\vs=[y]/\H l=some (.lst xs)/\xs.length<sizeLine/\Q .aT (upd H l (.lst (xs++[y])))
theorem dN:Hs X "list.append" AF:=by
 intro pins s σ H x vs v us Q I rx rv h;obtain⟨l,xs,y,rfl,rfl,hH,hz,q⟩:=h;cases rx;obtain⟨u,rfl,ru⟩:=rv.one;obtain⟨z,its,n,r,hl,e⟩:=I.r8 hH;refine Kw F.slot_list_append ⟨_,e,rfl⟩ F.entry_list_append (F.args_list_append_2 _ _) (PySem.list_append l its.toArray n u (by rw[IS];lia)) ⟨e,?_⟩
 refine⟨.aT,_,I.Ek (its':=its++[u]) hH e (by simp) (r.append (.cons ru .nil)) ?_,rfl,q⟩
 rw[IL,Lw];lia
noncomputable def EG:V->List V->Hp->VK->Prop:=λx vs H Q=>∃l xs i k y,x=.ref l/\vs=[.int i]/\H l=some (.lst xs)/\-(2^63)<=i/\i<2^63/\seqIndex? i xs.length=some k/\xs[k]?=some y/\Q y (upd H l (.lst (xs.eraseIdx k)))
theorem xC:Hs X "list.pop" EG:=by
 intro pins s σ H x vs v us Q I rx rv h;obtain⟨l,xs,i,k,y,rfl,rfl,hH,h1,h2,hk,hy,q⟩:=h;cases rx;obtain⟨u,rfl,ru⟩:=rv.one;obtain⟨t,rfl⟩:=ru;obtain⟨z,its,n,r,hl,e⟩:=I.r8 hH;obtain⟨w,hw,rw'⟩:=r.get hy;refine Kw F.slot_list_pop ⟨_,e,rfl⟩ F.entry_list_pop (F.args_list_pop_2 _ _)
  (MeetsSeq.list_pop_at l its.toArray n i t k w (NO h1 h2) (by rw[IS,<- hl];exact hk) (by rw[<- Jz];exact hw) (by rw[IS];lia)) ⟨e,?_⟩
 refine⟨y,_,I.Ek (its':=its.eraseIdx k) hH e ?_ (r.eraseIdx k) ?_,rw',q⟩
 ·show its.toArray.eraseIdxIfInBounds k=(its.eraseIdx k).toArray;rw[List.eraseIdxIfInBounds_toArray]
 ·have:=lJ xs k;lia
noncomputable def Gh:R2:=λx y H Q=>∃l b xs zs,x=.ref l/\y=.ref b/\H l=some (.lst xs)/\H b=some (.lst zs)/\xs.length+zs.length<=sizeLine/\∀p,H p=none->Q (.ref p) (upd H p (.lst (xs++zs)))
theorem zh:cI X (binaryOp .Add) Gh:=by
 intro pins s σ H x y v u Q I rx ry h;obtain⟨l,b,xs,zs,rfl,rfl,hH,hB,hz,q⟩:=h;cases rx;cases ry;obtain⟨z,its,n,r,hl,e⟩:=I.r8 hH;obtain⟨z2,its2,n2,r2,hl2,e2⟩:=I.r8 hB;refine PySem.P.add_list e e2 ?_ (by rw[IS,IS];lia)
 have ea:its.toArray++its2.toArray=(its++its2).toArray:=by simp
 rw[ea];exact⟨.ref _,_,I.CH (t':=s.toks) (r.append r2) (by rw[IL];lia),rfl,q _ I.fresh⟩
noncomputable def Gu:R2:=λx y H Q=>∃l k xs,x=.ref l/\y=.int k/\H l=some (.lst xs)/\-(2^63)<=k/\k<2^63/\xs.length*k.toNat<=sizeLine /\
 ∀p,H p=none->Q (.ref p) (upd H p (.lst (List.replicate k.toNat xs).flatten))
theorem len_rep(xs:List α)(k:Nat):(List.replicate k xs).flatten.length=k*xs.length:=by
 induction k with
 |zero=>simp
 |succ k ih=>rw[J9,Kl,IL,ih,LN,Nat.add_comm]
theorem D_:cI X (binaryOp .Mult) Gu:=by
 intro pins s σ H x y v u Q I rx ry h;obtain⟨l,k,xs,rfl,rfl,hH,h1,h2,hz,q⟩:=h;cases rx;obtain⟨t,rfl⟩:=ry;obtain⟨z,its,n,r,hl,e⟩:=I.r8 hH;have hlen:its.toArray.size*k.toNat<=sizeLine:=by rw[IS,<- hl];exact hz
 have hcap:¬ its.toArray.size*k.toNat >(2^63-1) / 8:=by
  have:(sizeLine:Nat)<=(2^63-1) / 8:=by decide
  lia
 have hfit:¬ (!Builtin.List.listFitsIndex k)=true:=by
  rw[NO h1 h2];exact Jb
 have hlong:¬ Builtin.List.listTooLong (its.toArray.size*k.toNat)=true:=by
  rw[wK hlen];exact Jb
 have hnew:List.foldl (λx1 x2=>x1++x2) #[] (List.replicate (if its.toArray.isEmpty=true then 0 else k.toNat) its.toArray)=(List.replicate k.toNat its).flatten.toArray:=by
  have f0:∀m:Nat,List.foldl (λx1 x2=>x1++x2) #[] (List.replicate m its.toArray)=(List.replicate m its).flatten.toArray:=λm=>by
   have:=foldl_rep its m [];rw[J_] at this;exact this
  rw[f0]
  cases its with
  |nil=>simp
  |cons a r'=>rw[IT (by simp)]
 refine KL (T:="list") (U:="int") (by decide) ⟨_,e,rfl⟩ (λs'=>Lg s' k t) noFill_list_mul F.fills_int_mul F.slot_int_rmul repeat_list F.slot_int_index.lookup
  (Kw F.slot_int_rmul (Lg s k t) F.entry_int_rmul (F.args_int_rmul_2 _ _) (int___rmul___int_list k t l its.toArray n)
   ⟨e,rfl,⟨_,e,rfl⟩,Kw F.slot_list_mul ⟨_,e,rfl⟩ F.entry_list_mul (F.args_list_mul_2 _ _) (AutoListH.list___mul___list_int_3 l its.toArray n k t hfit hcap hlong) ⟨e,?_⟩⟩)
 rw[hnew];exact⟨.ref _,_,I.CH (t':=s.toks) (r.rep k.toNat) (by rw[len_rep,Nat.mul_comm];exact hz),rfl,q _ I.fresh⟩
end
section
variable {κ:Type} [DecidableEq κ]
noncomputable def gX(kvs:List (κ×V))(k:κ):Option V:=(kvs.find? λkv=>decide (kv.1=k)).map (·.2)
noncomputable def putK(kvs:List (κ×V))(k:κ)(v:V):List (κ×V):=
 if (kvs.any λkv=>decide (kv.1=k))=true then kvs.map (λkv=>if kv.1=k then (kv.1,v) else kv) else kvs++[(k,v)]
theorem jW{p:κ×V}{r:List (κ×V)}{k:κ}(e:p.1=k):gX (p::r) k=some p.2:=by simp[gX,KC,e]
theorem jZ{p:κ×V}{r:List (κ×V)}{k:κ}(e:¬ p.1=k):gX (p::r) k=gX r k:=by simp[gX,KC,e]
theorem iF(k:κ):∀kvs:List (κ×V),(kvs.any λkv=>decide (kv.1=k))=(gX kvs k).isSome
 |[]=>rfl
 |p::r=>by
  rw[Mf];by_cases e:p.1=k
  ·simp only[jW e,Jt e,Bool.true_or,Option.isSome_some]
  ·rw[jZ e,Jq e,Bool.false_or];exact iF k r
theorem fI(kvs:List (κ×V))(k:κ)(v:V):(putK kvs k v).length<=kvs.length+1:=by
 unfold putK;split
 ·rw[IP];lia
 ·rw[IL,Jd,Ka];lia
theorem xg{kvs:List (κ×V)}{k:κ}(v:V)(h:gX kvs k=none):putK kvs k v=kvs++[(k,v)]:=by
 unfold putK;rw[iF,h];exact IT (by decide)
theorem gH.va{u:Option Value}(r:gH o u):o.isSome=u.isSome:=by
 cases o with
 |none=>cases u with
  |none=>rfl
  |some _=>exact (show False from r).elim
 |some _=>cases u with
  |none=>exact (show False from r).elim
  |some _=>rfl
theorem KV.val{kvs:List (κ×V)}{vs:List (κ×Value)}(r:KV kvs vs)(k:κ):gH (gX kvs k) (valueAt vs k):=by
 unfold KV at r
 induction r with
 |nil=>exact True.intro
 |@cons p q ps qs h t ih =>
  obtain⟨h1,h2⟩:=h;by_cases e:p.1=k
  ·have e':q.1=k:=h1.symm.trans e;have b:valueAt (q::qs) k=some q.2:=by simp[valueAt,KC,e']
   rw[jW e,b];exact h2
  ·have e':¬ q.1=k:=λz=>e (h1.trans z);have b:valueAt (q::qs) k=valueAt qs k:=by simp[valueAt,KC,e']
   rw[jZ e,b];exact ih
theorem KV.any{kvs:List (κ×V)}{vs:List (κ×Value)}(r:KV kvs vs)(k:κ):(kvs.any λkv=>decide (kv.1=k))=vs.any λkv=>decide (kv.1=k):=by
 unfold KV at r
 induction r with
 |nil=>rfl
 |cons h t ih=>rw[Mf,Mf,ih,h.1]
theorem KV.DJ{kvs:List (κ×V)}{vs:List (κ×Value)}(r:KV kvs vs)(k:κ)(ry:RelV y u):
  KV (kvs.map λkv=>if kv.1=k then (kv.1,y) else kv) (vs.map λkv=>if kv.1=k then (kv.1,u) else kv):=by
 unfold KV at r ⊢
 induction r with
 |nil=>exact .nil
 |@cons p q ps qs h t ih =>
  rw[Jy,Jy];refine .cons ?_ ih;obtain⟨h1,h2⟩:=h;by_cases e:p.1=k
  ·rw[IW e,IW (h1.symm.trans e)];exact⟨h1,ry⟩
  ·rw[IT e,IT (λz=>e (h1.trans z))];exact⟨h1,h2⟩
theorem KV.put{kvs:List (κ×V)}{vs:List (κ×Value)}(r:KV kvs vs)(k:κ)(ry:RelV y u):KV (putK kvs k y) (stored vs k u):=by
 unfold putK stored;rw[r.any k];by_cases e:(vs.any λkv=>decide (kv.1=k))=true
 ·rw[IW e,IW e];exact r.DJ k ry
 ·rw[IT e,IT e];exact Paired.snoc r ⟨rfl,ry⟩
theorem KV.length{kvs:List (κ×V)}{vs:List (κ×Value)}(r:KV kvs vs):kvs.length=vs.length:=Paired.length r
end
theorem tG{k:Key}(r:RelV (kV k) u):(bZ P w).is k u=true:=by
 cases k with
 |inl i=>obtain⟨t,e⟩:=(show ∃t,u=Value.int i t from r);subst e;exact nW P w i t
 |inr x=>obtain⟨t,e⟩:=(show ∃t,u=Value.str x t from r);subst e;exact pH P w x t
theorem lu:∀{ks:List Key} {us:List Value},Vals (ks.map kV) us->ItemsAre (bZ P w) ks us
 |[],_,r=>by rw[LM] at r;cases r;exact .nil
 |k::ks,_,r=>by
  rw[Jy] at r
  cases r with
  |cons h t=>exact .cons (tG h) (lu t)
abbrev KT(H:Hp):List (List Key×V)->List (List Key×Addr×Value)->Prop:=Paired λp q=>p.1=q.1/\H q.2.1=some (.tup (p.1.map kV))/\RelV p.2 q.2.2
theorem KT.val(r:KT H kvs xs)(k:List Key):gH (gX kvs k) ((atKey xs k).map (·.2)):=by
 induction r with
 |nil=>exact True.intro
 |@cons p q ps qs h t ih =>
  obtain⟨h1,_,h2⟩:=h;by_cases e:p.1=k
  ·have e':q.1=k:=h1.symm.trans e;have b:atKey (q::qs) k=some q.2:=by simp[atKey,KC,e']
   rw[jW e,b];exact h2
  ·have e':¬ q.1=k:=λz=>e (h1.trans z);have b:atKey (q::qs) k=atKey qs k:=by simp[atKey,KC,e']
   rw[jZ e,b];exact ih
theorem KT.DJ(r:KT H kvs xs)(k:List Key)(ry:RelV y u):
  KT H (kvs.map λkv=>if kv.1=k then (kv.1,y) else kv) (xs.map (putAt k u)):=by
 induction r with
 |nil=>exact .nil
 |@cons p q ps qs h t ih =>
  rw[Jy,Jy];refine .cons ?_ ih;obtain⟨h1,h2,h3⟩:=h;unfold putAt;by_cases e:p.1=k
  ·rw[IW e,IW (h1.symm.trans e)];exact⟨h1,h2,ry⟩
  ·rw[IT e,IT (λz=>e (h1.trans z))];exact⟨h1,h2,h3⟩
theorem KT.put(r:KT H kvs xs)(k:List Key){b:Addr}(hb:H b=some (.tup (k.map kV)))(ry:RelV y u):
  KT H (putK kvs k y) (storedH xs k b u):=by
 have e:(kvs.any λkv=>decide (kv.1=k))=(atKey xs k).isSome:=by
  rw[iF,(r.val k).va,Option.isSome_map]
 unfold putK storedH;rw[e];by_cases q:(atKey xs k).isSome=true
 ·rw[IW q,IW q];exact r.DJ k ry
 ·rw[IT q,IT q];exact Paired.snoc r ⟨rfl,hb,ry⟩
theorem KT.keeps(r:KT H kvs xs)(ht:∀b ys,H b=some (.tup ys)->H' b=some (.tup ys)):KT H' kvs xs:=
 Paired.we r λ_ _ z=>⟨z.1,ht _ _ z.2.1,z.2.2⟩
section
variable {P:Program} {w:World} {H:Hp} {h:Heap} {a:Addr}
theorem Cq{u:HO}(ok:ia P w H h)(e:Rd H a u):b6 P w H h a u:=e.ok ok
theorem yB{kvs:List (Key×V)}(ok:ia P w H h)(e:Rd H a (.dK kvs)):kvs.length<=sizeLine/\(a == sysModules)=false/\∃vs,KV kvs vs/\h.DictOf (bZ P w) a vs:=
 show b6 P w H h a (.dK kvs) from Cq ok e
theorem GU{kvs:List (Key×V)}(ok:ia P w H h)(e:H a=some (.dK kvs)):kvs.length<=sizeLine/\(a == sysModules)=false/\∃vs,KV kvs vs/\h.DictOf (bZ P w) a vs:=yB ok (.inl e)
theorem qS{ks:List Key}(ok:ia P w H h)(e:H a=some (.tup (ks.map kV))):(tupleKind (bZ P w)).is h ks a:=by
 obtain⟨_,its,r,o,h1,h2,n,h3,_⟩:=(show b6 P w H h a (.tup (ks.map kV)) from ok a _ e);exact⟨o,its.toArray,n,h1,h2,h3,by simpa using lu r⟩
theorem wD(ok:ia P w H h)(e:Rd H a (.dT kvs)):kvs.length<=sizeLine/\(a == sysModules)=false /\
  ∃xs,KT H kvs xs/\h.DictOfH (tupleKind (bZ P w)) a xs:=by
 obtain⟨z,y,xs,r,o,es,ep,h1,h2,h3,h4,h5⟩:=(show b6 P w H h a (.dT kvs) from Cq ok e);refine⟨z,y,xs,r,o,es,ep,h1,h2,h3,h4,λx hx=>?_,h5⟩;have all:∀{l:List (List Key×V)} {m:List (List Key×Addr×Value)},KT H l m->∀x∈m,(tupleKind (bZ P w)).is h x.1 x.2.1:=by
  intro l m q
  induction q with
  |nil=>intro x hx;exact nomatch hx
  |@cons p q ps qs hq t ih =>
   intro x hx;rcases IX.mp hx with e|hx
   ·subst e;exact qS ok (by rw[<- hq.1];exact hq.2.1)
   ·exact ih x hx
 exact all r x hx
theorem FV(ok:ia P w H h)(e:H a=some (.dT kvs)):kvs.length<=sizeLine/\(a == sysModules)=false /\
  ∃xs,KT H kvs xs/\h.DictOfH (tupleKind (bZ P w)) a xs:=wD ok (.inl e)
end
noncomputable def uX(H:Hp)(a:Addr)(y:V)(r:Option V):Prop:=
 (∃kvs k,Rd H a (.dK kvs)/\y=kV k/\r=gX kvs k)\/∃kvs k b,Rd H a (.dT kvs)/\y=.ref b/\H b=some (.tup (k.map kV))/\r=gX kvs k
noncomputable def CA(H:Hp)(a:Addr)(y v:V)(H':Hp):Prop:=
 (∃kvs k,H a=some (.dK kvs)/\y=kV k/\kvs.length<sizeLine/\H'=upd H a (.dK (putK kvs k v))) \/
 ∃kvs k b,H a=some (.dT kvs)/\y=.ref b/\H b=some (.tup (k.map kV))/\kvs.length<sizeLine/\H'=upd H a (.dT (putK kvs k v))
section
variable {X:Cx} {pins:List (Addr×Obj)} {σ:St} {H:Hp} {s:Shared} {a:Addr} {y v:V} {u r:Value} {o:Option V} {A:Around} {E:Value->Shared->Prop}
theorem Inv.big(I:Inv X pins σ H s):sysModules<s.heap.objs.size:=by
 have h:mainGlobals<s.heap.objs.size:=(I.mod.glob.keeps I.bk).lt;exact LO (by decide) h
theorem ur(hu:A.units+1<cLine)(I:Inv X pins σ H s)(g:uX H a y (some v))(ry:RelV y u)(h:∀w' s',Inv X pins σ H s'->RelV v w'->Q w' s'):
  wpAny (model X.prog X.w) A (getItem (.ref a) u) Q E s:=by
 rcases g with ⟨kvs,k,e,ey,l⟩|⟨kvs,k,b,e,ey,eb,l⟩
 ·subst ey;obtain⟨z,hd,vs,rel,dd⟩:=yB I.bc e;obtain⟨w',hw,rw'⟩:=gH.some_of (v:=v) (o:=valueAt vs k) (by rw[l];exact rel.val k)
  exact wpAny_getItem_of (tG ry) dd.mapOf hw (h w' _ (I.tok _) rw')
 ·subst ey
  cases (show u=Value.ref b from ry)
  obtain⟨z,hd,xs,rel,dd⟩:=wD I.bc e;obtain⟨w',hw,rw'⟩:=gH.some_of (v:=v) (o:=(atKey xs k).map (·.2)) (by rw[l];exact rel.val k)
  obtain⟨p,hp,hp2⟩:=Jp.mp hw;refine wpAny_getItem_heap (tupleKind_room_in1 hu) (qS I.bc eb) dd hp ?_;rw[hp2];exact h w' _ (I.tok _) rw'
theorem si{h':Heap}{t':Nat}{ob:HO}(I:Inv X pins σ H s)(mu:FH (H a))(hs:Heap.SameBut a s.heap h')(he:∃q,h'.get? a=some q)(new:b6 X.prog X.w (upd H a ob) h' a ob):
  Inv X pins σ (upd H a ob) {s with heap:=h',toks:=t'}:=
 I.write (x:=a) (e:=a) mu (.inl rfl) (λb q hb z=>(hs.2 b hb).trans z) he new
theorem xp{h':Heap}{kvs:List (Key×V)}{vs:List (Key×Value)}(z:kvs.length<=sizeLine)(hd:(a == sysModules)=false)(rel:KV kvs vs)(dd:h'.DictOf (bZ P w) a vs):
  b6 P w H' h' a (.dK kvs):=⟨z,hd,vs,rel,dd⟩
theorem uI{Q:Unit->Shared->Prop}(hu:A.units+1<cLine)(I:Inv X pins σ H s)(g:CA H a y v H')(ry:RelV y u)(rv:RelV v r)(h:∀s',Inv X pins σ H' s'->Q () s'):
  wpAny (model X.prog X.w) A (setItem (.ref a) u r) Q E s:=by
 rcases g with ⟨kvs,k,e,ey,l,eH⟩|⟨kvs,k,b,e,ey,eb,l,eH⟩
 ·subst ey eH;obtain⟨z,hd,vs,rel,dd⟩:=GU I.bc e;have hz:vs.length<=sizeLine:=by rw[<- rel.length];exact z
  have hl:(putK kvs k v).length<=sizeLine:=by have:=fI kvs k v;lia
  refine wpAny_setItem_pairs (hsz:=hz) (tG ry) dd λh' dd' hs=>h _ ?_;have he:∃q,h'.get? a=some q:=let ⟨q,_,_,hq,_⟩:=dd';⟨q,hq⟩
  exact si I (by rw[e];exact True.intro) hs he (xp hl hd (rel.put k rv) dd')
 ·subst ey eH
  cases (show u=Value.ref b from ry)
  obtain⟨z,hd,xs,rel,dd⟩:=FV I.bc e;have hz:xs.length<=sizeLine:=by rw[<- Paired.length rel];exact z
  have hl:(putK kvs k v).length<=sizeLine:=by have:=fI kvs k v;lia
  refine wpAny_setItem_heap (hsz:=hz) (tupleKind_room_in1 hu) (qS I.bc eb) dd λh' dd' hs=>h _ ?_;obtain⟨q,es,ep,hq,h2,h3,h4,_,h5⟩:=dd';refine si I (by rw[e];exact True.intro) hs ⟨q,hq⟩ ⟨hl,hd,_,(rel.put k eb rv).keeps λc ys ec=>?_,q,es,ep,hq,h2,h3,h4,h5⟩
  rw[af (FD ec e (λz=>nomatch z))];exact ec
end
noncomputable def yu(i:Expr):Prop:=∀ov iv,subscripted i false ov iv=operate [ov,iv] (getItem ov iv)
theorem tS{prog:Program}{A:Around}{E:Value->Shared->Prop}{s:Shared}{env:Env}{value slice:Expr}{pos:Pos}{T id:String}
  (hl:typeLookup (.type T) "__getitem__"=pure (some (.builtin id))) (hs:yu slice)
  (h:wpAny (model prog w) A (eval value env) (λo s₁=>wpAny (model prog w) A (eval slice env) (λi s₂=>s₂.TypeIs o T/\wpAny (model prog w) A (getItem o i) Q E s₂) E s₁) E s) :
  wpAny (model prog w) A (eval (.Subscript value slice pos) env) Q E s:=by
 refine Subscript_ (JO h (λo s₁ h₁=>JO h₁ (λi s₂ h₂=>?_) λ_ _ x=>x) λ_ _ x=>x);obtain⟨hT,h₂⟩:=h₂;unfold subscriptTail;refine IK ?_;rw[getitemInPython_of_ne hT.not_modules];refine IK (wpAny_specialOf hT hl ?_);have fin:wpAny (model prog w) A (subscripted slice false o i) (λr s₃=>wpAny (model prog w) A (letTemporaryGo value o r >>= λ_=>pure r) Q E s₃) E s₂:=by
  rw[hs o i];exact wpAny_operating (JO h₂ (λr s₃ h₃=>IK (wpAny_letTemporaryGo (Ja h₃))) λ_ _ x=>x)
 first
  |exact Ja (IK fin)
  |exact IK (Ja (IK fin))
  |exact IK fin
theorem pw{X:Cx}{s:Shared}{a:Addr}(I:Inv X pins σ H s)(g:uX H a y o):s.TypeIs (.ref a) "dict":=by
 rcases g with ⟨kvs,k,e,_,_⟩|⟨kvs,k,b,e,_,_,_⟩
 ·obtain⟨_,_,vs,_,dd⟩:=yB I.bc e;exact dd.typeIs
 ·obtain⟨_,_,xs,_,dd⟩:=wD I.bc e;exact dd.typeIs
noncomputable def p8(td ty:TE):TE:=λσ H Q=>td σ H λx H1=>ty σ H1 λy H2=>∃a v,x=.ref a/\uX H2 a y (some v)/\Q v H2
noncomputable def oE(td ty tv:TE):TS:=λD σ H=>tv σ H λv H1=>td σ H1 λx H2=>ty σ H2 λy H3=>∃a H4,x=.ref a/\CA H3 a y v H4/\D.nx σ H4
section
variable {X:Cx} {o i e value:Expr} {pos pos' tpos:Pos} {td ty tv:TE}
theorem AL(hu:X.A.units+1<cLine)(ho:PE X o td)(hi:PE X i ty)(hs:yu i):PE X (.Subscript o i pos) (p8 td ty):=by
 intro pins s σ H Q I h;refine tS PySem.F.slot_dict_getitem.lookup hs (bT (ho pins s σ H _ I h) λu s1 ⟨x,H1,I1,rx,q1⟩=>bT (hi pins s1 σ H1 _ I1 q1) λiv s2 hq55=>?_);obtain⟨y,H2,I2,ry,a,v,ex,g,q2⟩:=hq55;subst ex;obtain rfl:u=Value.ref a:=rx;exact⟨pw I2 g,ur hu I2 g ry λw' s3 I3 rw'=>⟨v,H2,I3,rw',q2⟩⟩
theorem zN(hu:X.A.units+1<cLine)(ho:PE X o td)(hi:PE X i ty)(hv:PE X value tv)(hs:swapsWith value (some (.Subscript o i pos')) pos.line X.env=pure false):
  PS X (.Assign [.Subscript o i pos'] value pos) (oE td ty tv):=by
 intro pins s σ H D I h;refine wpAny_Assign_Subscript (bT (hv pins s σ H _ I h) λr s1 ⟨v,H1,I1,rv,q1⟩=>bT (ho pins s1 σ H1 _ I1 q1) λu s2 ⟨x,H2,I2,rx,q2⟩=>bT (hi pins s2 σ H2 _ I2 q2) λiv s3 hq58=>?_) hs;obtain⟨y,H3,I3,ry,a,H4,ex,g,q3⟩:=hq58;subst ex;obtain rfl:u=Value.ref a:=rx;exact uI hu I3 g ry rv λs4 I4=>⟨σ,H4,I4,q3⟩
end
noncomputable def fY(kvs more:List (Key×V)):List (Key×V):=more.foldl (λacc kv=>putK acc kv.1 kv.2) kvs
theorem KV.merge:∀{more:List (Key×V)} {rs:List (Key×Value)} {kvs:List (Key×V)} {vs:List (Key×Value)},KV more rs->KV kvs vs->KV (fY kvs more) (merged vs rs):=by
 intro more rs kvs vs r;unfold KV at r
 induction r generalizing kvs vs with
 |nil=>intro q;exact q
 |@cons p q ps qs h t ih =>
  intro r0;have e:KV (putK kvs p.1 p.2) (stored vs q.1 q.2):=by
   have:=r0.put p.1 h.2;rw[<- h.1];exact this
  exact ih e
theorem gO:∀(more kvs:List (Key×V)),(fY kvs more).length<=kvs.length+more.length
 |[],kvs=>by show kvs.length<=kvs.length+0;lia
 |p::r,kvs=>by
  have h1:=gO r (putK kvs p.1 p.2);have h2:=fI kvs p.1 p.2;show (fY (putK kvs p.1 p.2) r).length<=_;rw[Jd];lia
end L2
namespace Att
open PySem PySem.W PySem.Calls PyProof.Rows
theorem jr{P:Params}{h:Heap}:∀(ns:List Int) (vs:List Value),WellAll P h vs (ns.map WData.int)->IntsAre vs ns:=by
 intro ns
 induction ns with
 |nil =>
  intro vs w;rw[List.map_nil] at w;cases w;exact .nil
 |cons n ns ih =>
  intro vs w;rw[List.map_cons] at w
  cases w with
  |cons a b =>
   cases a;exact .cons _ _ (ih _ b)
theorem vE{l:OpenLaw}{n:Nat}(hn:l.most=some n){P:Params}{h:Heap}{args:List WData}{vals:List Value}
  (hpre:l.row.toRowW.claim.pre args=true) (hwl:WellAll P h vals args) :
  ∃a vs ns,vals=[Value.ref a]/\args=[WData.list (ns.map WData.int)]/\h.get? a=some {cls:=.type "list",data:=.seq vs.toArray}/\IntsAre vs ns/\ns.length<=n:=by
 have hsh:WShape.hasAll [] args [.list .int]=true:=(pre_splitW hpre).1;have hc:l.pre.holds [] {args:=args}=true:=(pre_splitW hpre).2;obtain⟨d,r,rfl,h1,h2⟩:=hasAllW_cons hsh;obtain rfl:=hasAllW_nil h2;obtain⟨xs,rfl,h3⟩:=hasW_list h1;obtain⟨ns,rfl⟩:=items_int h3;have hlen:ns.length<=n:=by
  unfold OpenLaw.pre at hc;have h4:(WTm.not (.lt (.lit (.int (n:Int))) (.len (.arg 0)))).holds [] {args:=[.list (ns.map .int)]}=true:=by
   have h4:=(holds_andW hc).1;rw[hn] at h4;exact h4
  have h5:=condW_of h4 (w_not (w_lt w_lit (w_len_list (w_arg rfl))));rw[List.length_map] at h5;refine Nat.le_of_not_lt λq=>?_;have q':(n:Int)<((ns.length:Nat):Int):=by lia
  first
   | (rw[decide_eq_true q'] at h5;exact absurd h5 (by decide))
   | (simp at h5;lia)
 cases hwl with
 |cons w1 w2 =>
  cases w2
  cases w1 with
  |list ho hall=>exact⟨_,_,ns,rfl,rfl,ho,jr ns _ hall,hlen⟩
theorem uj(l:OpenLaw)(args:List WData):l.row.toRowW.claim.post args (.bool true) args=true:=
 postW_of (r:=l.row.toRowW) (X:=(true == true))
  (show WShape.has [] (.bool true) .bool=true by first|rfl|decide|simp[WShape.has,WShape.arms,WShape.armsAll])
  (show (WTm.eq .res (.lit (.bool true))).value [] {args:=args,res:=some (.bool true),after:=args}=some (.bool (true == true)) from w_eq_bool (w_res rfl) w_lit) rfl
theorem oA{l:OpenLaw}{n:Nat}{q:Program}{loose:List Str}{XP:(Str->Option Value)->Heap->Prop}{YP:World->Heap->Prop}{d:DefRec}
  (hn:l.most=some n) (hdf:d.params.defaults=[])
  (call:∀(w:World) (s₀ s₁:Shared) (mg mb:Str->Option Value) (fa:Addr) (o:Obj) (pm cd doc:Value) (a:Addr) (vs:List Value) (ns:List Int),
   Ground q loose [] XP w s₀ mg mb s₁.heap->YP w s₁.heap ->
   s₁.heap.get? fa=some o->o.data=.func (docDef d.name d.params d.body d.scope pm cd doc)->s₁.heap.CodeRec cd d.name->mg d.name=some (.ref fa) ->
   s₁.heap.get? a=some {cls:=.type "list",data:=.seq vs.toArray}->IntsAre vs ns->ns.length<=n->s₁.gens=#[] ->
   codeAny (model l.prog w) callerA (.call (.ref fa) ⟨[.ref a],[]⟩) (λr s'=>r=.ok (.ret (.bool true))/\OldK s₁.heap s'.heap/\s'.os=s₁.os/\AllBare s'.gens) s₁) :
  WalkO q loose XP YP l.row.toRowW d [] (λf vs=>PySem.call f vs):=by
 intro w s₀ s₁ mg mb G Y fa o pm cd doc dV kV ho hd fH hD hmg hg args vals as hpre hlay hrd hwl hlo;obtain rfl:dV=.none:=Dflts.none hD hdf;obtain rfl:kV=.none:=Dflts.noKw hD;obtain⟨a,vs,ns,rfl,rfl,hobj,hints,hlen⟩:=vE hn hpre hwl;refine enter_call (codeAny_mono (call w s₀ s₁ mg mb fa o pm cd doc a vs ns G Y ho (fd_plain hd) fH hmg hobj hints hlen hg) λr s' hq=>?_);obtain⟨rfl,h2,h3,h4⟩:=hq;exact⟨.inl ⟨.bool true,.bool true,[],rfl,λ_=>rfl,.bool true,uj l _,λ_=>⟨List.Pairwise.nil,λ_ hm=>(nomatch hm)⟩⟩,h2,h3,h4⟩
end Att
namespace L2
open PySem PySem.Spec PyProof.Rows
variable{P prog q:Program}{K:Og}{N ON loose own:List Str}{mb mg:Str->Option Value}{base h:Heap}{b e elt iter tg:Expr}{o:HO}{t:String}{w:World}{CX:pC}{i j k:Nat}{a f it p:Addr}{fd:FuncData}{qual x:Str}{sp:Sp}{ns:List Int}{X:Cx}{st:Stmt}{osc scope:Scope}{env:Env}{cells:List (Str×Addr)}{α:Type}{E Q:Value->Shared->Prop}{es ifs:List Expr}{g:TG}{tc:TT}{te:TE}{pins:List (Addr×Obj)}{σ:St}{H H':Hp}{RR:Value->Addr->Result->Shared->Prop}{r:List V->Hp->VK->Prop}{ws xs:List V}{items:Array Value}{ex fp:List Addr}{lo:Int}{its its2:List Value}
theorem lX:∀{vs:List Value} {ns:List Int},IntsAre vs ns->Vals (ns.map V.int) vs
 |_,_,.nil=>.nil
 |_,_,.cons n t h=>.cons ⟨t,rfl⟩ (lX h)
structure iI (q:Program) (K:Og):Prop where
 nt:PySem.W.noTabs K=true
 nd:((bV K).map (·.2.1)).Nodup
 fd:∀x∈e7,PySem.W.tabIn K x=none\/((recsOf q).find? (λe=>e.name == x)).isSome=true
theorem iI.at{mean:ExcName->Option Value}(L:iI q K)(T:Top q loose mean mg mb h)(X:K.In h):∀t∈bV K,PySem.W.CodeHd h t.1 t.2.1/\h.get? t.2.1=some (PySem.W.tabObj #[]):=λt ht=>by
 unfold bV at ht;obtain⟨x,hx,e⟩:=LL.mp ht;obtain⟨p,e1,e2⟩:=Jp.mp e;obtain⟨c,Pt⟩:=p;subst e2;rcases L.fd x hx with z|z
 ·rw[z] at e1;cases e1
 ·obtain⟨d,hd⟩:=Nr.mp z;exact PySem.W.tab_of T X hd e1
noncomputable def mB:List (Addr×Addr×Str)->Addr->Option HO
 |[],_=>none
 |t::r,b=>if b=t.2.1 then some (.xt #[.str t.2.2 0]) else mB r b
theorem gG{b:Addr}:∀{l:List (Addr×Addr×Str)},mB l b=some o->∃t∈l,b=t.2.1/\o=.xt #[.str t.2.2 0]
 |t::r,e=>by
  unfold mB at e;by_cases z:b=t.2.1
  ·rw[IW z] at e;cases e;exact⟨t,.head _,z,rfl⟩
  ·rw[IT z] at e;obtain⟨u,hu,q⟩:=gG e;exact⟨u,.tail _ hu,q⟩
theorem oZ{t:Addr×Addr×Str}:∀{l:List (Addr×Addr×Str)},(l.map (·.2.1)).Nodup->t∈l->mB l t.2.1=some (.xt #[.str t.2.2 0])
 |u::r,nd,m=>by
  obtain⟨n1,n2⟩:=Ko.mp nd;unfold mB;rcases IX.mp m with rfl|m
  ·rw[IW rfl]
  ·rw[IT λz=>n1 (JD.mpr ⟨t,m,z⟩)];exact oZ n2 m
theorem yz{fa:Addr}{s₁:Shared}{vs:List Value}
  (KX:K.In s₁.heap) (hns:s₁.heap.Ns mainGlobals mg) (hb:s₁.heap.Ns builtinsNs mb) (hbb:∀x:Str,x≠"__name__"->mb x=bootBuiltins x) (hlim:s₁.heap.NoLimit) (hbm:Dw mg s₁.heap)
  (hT:∀t∈bV K,PySem.W.CodeHd s₁.heap t.1 t.2.1/\s₁.heap.get? t.2.1=some (PySem.W.tabObj #[])) (L:iI q K) (hg:s₁.gens=#[])
  (ha:s₁.heap.get? a=some {cls:=.type "list",data:=.seq vs.toArray}) (hi:IntsAre vs ns) (hl:ns.length<=sizeLine) (hr:bI k callerA)
  (F:∀base:Heap,K.In base->base.Ns mainGlobals mg->cG P w K mg base CX k fa fd [x] sp) (hbind:∀(s:Shared) (u:Value),BindsTo s fd ⟨[u],[]⟩ [(x,u)])
  (nR:∀H:Hp,True->ck K H a (ns.map V.int)->sp [.ref a] H (λv _=>v=.bl true) λ_ _ _=>False)
  (hCX:∀H e s',CX [] H s₁ (λ_ _ _=>False) e s'->False) :
  codeAny (model P w) callerA (.call (.ref fa) ⟨[.ref a],[]⟩) (λr s'=>r=.ok (.ret (.bool true))/\OldK s₁.heap s'.heap/\s'.os=s₁.os/\AllBare s'.gens) s₁:=by
 have rv:=lX hi;have lenV:=hi.length;have naT:∀t∈bV K,t.2.1≠a:=λt ht z=>by
  have e:=(hT t ht).2;rw[z,ha] at e;cases e
 let oS:Obj:={cls:=.type "list",data:=.seq vs.toArray}
 have core:∀S:Option HO,(S=none\/S=some (.iY oS (.lst (ns.map V.int))))->(S≠none->K.lookup a=none)->ck K (λb=>if b=a then S else mB (bV K) b) a (ns.map V.int) ->
   codeAny (model P w) callerA (.call (.ref fa) ⟨[.ref a],[]⟩) (λr s'=>r=.ok (.ret (.bool true))/\OldK s₁.heap s'.heap/\s'.os=s₁.os/\AllBare s'.gens) s₁:=by
  intro S hS hK hSq;generalize hH:(λb=>if b=a then S else mB (bV K) b)=H at hSq
  have hA:H a=S:=by rw[<- hH];exact IW rfl
  have hB:∀b,b≠a->H b=mB (bV K) b:=λb z=>by rw[<- hH];exact IT z
  have free:∀{b:Addr} {o:Obj},s₁.heap.get? b=some o->o≠PySem.W.tabObj #[]->(b=a->S=none)->H b=none:=λ{b o} e hn hz=>by
   by_cases z:b=a
   ·rw[z,hA];exact hz z
   ·rw[hB b z]
    cases q:mB (bV K) b with
    |none=>rfl
    |some u =>
     obtain⟨t,ht,e1,_⟩:=gG q;have e2:=(hT t ht).2;rw[<- e1,e] at e2;exact absurd (Option.some.inj e2) hn
  have nsK:∀{b:Addr} {m:Str->Option Value},s₁.heap.Ns b m->(kZ s₁.heap H).Ns b m:=λ{b m} ⟨o,es,ep,e,d,r⟩=>⟨o,es,ep,i4 e (free e (λz=>by rw[z] at d;cases d) λz=>by rw[z,ha] at e;cases e;cases d),d,r⟩
  have hKb:K.In (kZ s₁.heap H):=λb o e=>i4 (KX b o e) (free (KX b o e) (λz=>by
    have h2:=Kq.mp L.nt (b,o) (PySem.W.mem_of_lookupK e);subst z;exact absurd (show false=true from h2) Jb) λz=>by
    cases q:S with
    |none=>rfl
    |some u=>rw[z,hK (by rw[q];simp)] at e;cases e)
  have fH:∀t∈bV K,PySem.W.CodeHd (kZ s₁.heap H) t.1 t.2.1:=λt ht=>by
   obtain⟨o,us,fl,tf,fg,tg,inF,tx,tt,e1,e2,r⟩:=(hT t ht).1;exact⟨o,us,fl,tf,fg,tg,inF,tx,tt,i4 e1 (free e1 (λz=>by rw[z] at e2;cases e2) λz=>by rw[z,ha] at e1;cases e1;exact absurd (Value.type.inj e2) (by decide)),e2,r⟩
  have hbm':Dw mg (kZ s₁.heap H):=by
   obtain⟨bm,ob,b1,b2,b3,b4,b5⟩:=hbm;exact⟨bm,ob,b1,b2,i4 b3 (free b3 (λz=>by rw[z] at b4;cases b4) λz=>by rw[z,ha] at b3;cases b3;exact absurd (Value.type.inj b4) (by decide)),b4,b5⟩
  have bc:ia P w H s₁.heap:=λb u e=>by
   by_cases z:b=a
   ·rw[z,hA] at e;rcases hS with h0|h0
    ·rw[h0] at e;cases e
    ·rw[h0] at e;cases e;subst z;exact⟨ha,by rw[IP];exact hl,vs,_,rv,ha⟩
   ·rw[hB b z] at e;obtain⟨t,ht,e1,e2⟩:=gG e;subst e2;exact⟨#[],by rw[e1];exact (hT t ht).2,trivial,λpos cv c=>by cases (show (none:Option Value)=some cv from c)⟩
  have hM:Mod K mg (kZ s₁.heap H):=⟨hKb,nsK hns,⟨mb,nsK hb,hbb⟩,let ⟨mc,h1,h2⟩:=hlim;⟨mc,nsK h1,h2⟩,fH,hbm'⟩
  have e0:qW P w K mg (kZ s₁.heap H) callerA [] s₁ H:=⟨rfl,hM,λb o e=>Bz e,Nq (v7 _ _),trivial,λb hb=>absurd (show b∈([]:List Addr) from hb) (by simp),bc,.of_eq hg,λt ht=>⟨#[],by
   rw[hB _ (naT t ht),oZ L.nd ht,MX]⟩⟩
  refine Ob ((F _ hKb (nsK hns)).run callerA [] s₁ H ⟨[.ref a],[]⟩ [.ref a] [.ref a] _ _ hr e0 (hbind s₁ (.ref a)) (.cons rfl .nil) (nR H trivial hSq)) λr s' h=>?_
  cases r with
  |error e=>exact (hCX H e s' h).elim
  |ok fl =>
   cases fl with
   |next=>exact False.elim h
   |brk=>exact False.elim h
   |cont=>exact False.elim h
   |ret u =>
    obtain⟨v,H',os,bare,un,hok',r',qv⟩:=h;have q':v=.bl true:=qv;subst q';obtain rfl:u=Value.bool true:=r';have each:∀b o,s₁.heap.get? b=some o->s'.heap.get? b=some o\/∃c,PySem.W.CodeHd s₁.heap c b/\o=PySem.W.tabObj #[]/\∃ps,s'.heap.get? b=some (PySem.W.tabObj ps):=λb o e=>by
     cases qb:H b with
     |none=>exact .inl (un.keep b o e qb (by intro z;exact absurd (show b∈([]:List Addr) from z) (by simp)) (by simp))
     |some u =>
      by_cases z:b=a
      ·rw[z,hA] at qb;rcases hS with h0|h0
       ·rw[h0] at qb;cases qb
       ·have z2:=un.mF a oS _ (by rw[hA,h0])
        obtain⟨e2,_⟩:=hok' a _ z2;rw[z,ha] at e;cases e;exact .inl (by rw[z];exact e2)
      ·have qt:=qb;rw[hB b z] at qt;obtain⟨t,ht,e1,e2⟩:=gG qt;obtain⟨h1,h2⟩:=hT t ht;rw[<- e1] at h1 h2;rw[e] at h2;cases h2;subst e2;obtain⟨more,e3⟩:=un.kQ b _ qb;obtain⟨qs,e4,_⟩:=hok' b _ e3;exact .inr ⟨_,h1,rfl,qs,e4⟩
    refine⟨rfl,⟨λb o e=>?_,λb o e=>?_⟩,os,bare⟩
    ·rcases each b o e with z|⟨c,hc,z,ps,hp⟩
     ·exact .inl z
     ·subst z;exact .inr (.inl ⟨(hc.tab e).isCodeTable,rfl,#[],ps,rfl,by rw[Array.empty_append];exact hp⟩)
    ·rcases each b o e with z|⟨c,hc,z,ps,hp⟩
     ·exact⟨o,z⟩
     ·exact⟨_,hp⟩
 cases hk:K.lookup a with
 |some o =>
  have e:=KX a o hk;rw[ha] at e;cases e;exact core none (.inl rfl) (λz=>absurd rfl z) (.inr ⟨_,vs.toArray,_,hk,rfl,rfl,rfl,by rw[IS,lenV];exact hl,by simpa using rv⟩)
 |none=>exact core (some (.iY oS (.lst (ns.map V.int)))) (.inr rfl) (λ_=>hk) (.inl (.inr ⟨oS,IW rfl⟩))
theorem Bi{l:PySem.W.OpenLaw}{n:Nat}{XP:(Str->Option Value)->Heap->Prop}{YP:World->Heap->Prop}{d:DefRec}{K:Params->Og}{CX:World->pC}{sp:World->Sp}
  (hn:l.most=some n) (hn2:n<=sizeLine) (hdf:d.params.defaults=[]) (hr:bI k callerA)
  (hY:∀(w:World) (h:Heap),YP w h->(K w.params).In h)
  (F:∀(w:World) (mg:Str->Option Value) (fa:Addr) (h:Heap),(K w.params).In h->h.Ns mainGlobals mg->mg d.name=some (.ref fa) ->
   ∃fd:FuncData,(∀(s:Shared) (u:Value),BindsTo s fd ⟨[u],[]⟩ [(x,u)]) /\
    ∀base:Heap,(K w.params).In base->base.Ns mainGlobals mg->cG l.prog w (K w.params) mg base (CX w) k fa fd [x] (sp w))
  (nR:∀(w:World) (H:Hp) (a:Addr) (ns:List Int),ns.length<=n->True->ck (K w.params) H a (ns.map V.int)->sp w [.ref a] H (λv _=>v=.bl true) λ_ _ _=>False)
  (hCX:∀(w:World) (H:Hp) (s:Shared) (e:Value) (s':Shared),CX w [] H s (λ_ _ _=>False) e s'->False) (hL:∀(w:World) (h:Heap),(K w.params).In h->iI q (K w.params)) :
  PySem.W.WalkO q loose XP YP l.row.toRowW d [] (λf vs=>PySem.call f vs):=by
 refine Att.oA hn hdf λw s₀ s₁ mg mb fa o pm cd doc a vs ns G Y ho hd fH hmg hobj hints hlen hg=>?_;have KX:=hY w _ Y;obtain⟨fd,hb,hF⟩:=F w mg fa _ KX G.T.g hmg;have L:=hL w _ KX;exact yz KX G.T.g G.T.b G.T.builtins G.T.nolimit G.T.bmain (L.at G.T KX) L hg hobj hints (IY hlen hn2) hr hF hb (λH hO hS=>nR w H a ns hlen hO hS) λH e s'=>hCX w H s₁ e s'
noncomputable def inClass(s:Stmt)(j:Nat):Stmt:=match s with
 |.ClassDef _ _ _ body _ _ _ _ _ _ _=>body.getD j (.Pass ⟨0,0,0,0⟩)
 |_=>.Pass ⟨0,0,0,0⟩
noncomputable def bQ(s:Stmt):Arguments:=match s with
 |.FunctionDef _ a _ _ _ _ _ _ _ _=>a
 |_=>{posonlyargs:=[],args:=[],vararg:=none,kwonlyargs:=[],kw_defaults:=[],kwarg:=none,defaults:=[]}
noncomputable def aU(s:Stmt):List Stmt:=match s with
 |.FunctionDef _ _ b _ _ _ _ _ _ _=>b
 |_=>[]
noncomputable def ae(s:Stmt):Scope:=match s with
 |.FunctionDef _ _ _ _ _ _ sc _ _ _=>sc
 |_=>{kind:=.function,names:=[],isGenerator:=false,isCoroutine:=false}
abbrev bq:pC:=λ_ _ _ _ _ _=>False
abbrev E0:XK:=λ_ _ _=>False
theorem av:Passes bq X E0:=λ_ _ _ _ _ _ _ h=>h.elim
structure jS (K:Og) (x qual:Str) (st:Stmt) (f:Addr) (fd:FuncData):Prop where
 ex:∃(oc:Value) (od:Option Addr) (kV doc pm:Value) (an:Option Addr) (cdv ct:Value) (osl:Array (Option Value)),
  fd=PySem.W.fnOf x qual (bQ st) (aU st) (ae st) .none kV doc pm an cdv ct/\K.lookup f=some ⟨oc,od,.func fd,osl⟩/\PySem.W.codeIn K cdv qual=true
 kp:PySem.W.keepIn K (.ref f)=true
section
variable {P:Program} {w:World} {K:Og} {mg:Str->Option Value} {base:Heap}
theorem jS.ok{ps:List Str}(F:jS K x qual st f fd)(S:ay N ps (ae st))(len:∀vs H Q E,sp vs H Q E->vs.length=ps.length)
  (hbody:∀(cdv:Value) (A:Around) (outer:List Env) (s:Shared) (H:Hp) (vs:List V) (Q:VK) (E:XK),bI k (A.deeper (envOfC qual (ae st) s.heap.objs.size f cdv))->sp vs H Q E ->
   ∃t,rN (fT bq P w K mg base N qual (ae st) f cdv A outer s H E).qd (aU st) t/\t {nx:=λ_ H'=>Q .aT H',rt:=Q} (start N vs) H):cG P w K mg base bq (k+1) f fd ps sp:=by
 obtain⟨oc,od,kV,doc,pm,an,cdv,ct,osl,rfl,lk,fH⟩:=F.ex;refine BU lk fH S len λA outer s H vs Q E hr nR=>?_;obtain⟨t,h,q⟩:=hbody cdv A outer s H vs Q E hr nR;exact⟨t,h.qd,q⟩
theorem jS.binds{ps:List Str}(F:jS K x qual st f fd)
  (h:∀(kV doc pm:Value) (an:Option Addr) (cdv ct:Value) (us:List Value),us.length=ps.length->bindArgs (PySem.W.fnOf x qual (bQ st) (aU st) (ae st) .none kV doc pm an cdv ct) ⟨us,[]⟩=pure (ps.zip us)):Binds K fd ps []:=by
 obtain⟨oc,od,kV,doc,pm,an,cdv,ct,osl,rfl,lk,fH⟩:=F.ex;exact .all (h kV doc pm an cdv ct)
theorem cz{oc:Value}{od an:Option Addr}{osl:Array (Option Value)}{kV doc pm cdv ct:Value}(l:K.lookup f=some ⟨oc,od,.func (PySem.W.fnOf x qual (bQ st) (aU st) (ae st) .none kV doc pm an cdv ct),osl⟩)
  (c:PySem.W.codeIn K cdv qual=true) (k:PySem.W.keepIn K (.ref f)=true):jS K x qual st f (PySem.W.fnOf x qual (bQ st) (aU st) (ae st) .none kV doc pm an cdv ct):=⟨⟨oc,od,kV,doc,pm,an,cdv,ct,osl,rfl,l,c⟩,k⟩
end
theorem bo{A:Around}(hr:bI k A):A.units+1<cLine:=JU (Nat.add_le_add_left (by decide:1<=64) _) hr.units
section
variable {X:Cx}
theorem pv(i:Nat){pos:Pos}(hN:autoParam (X.N[i]?=some x) ℜ0)(hv:autoParam (GS X.env.scope x) ℜ4)(hd:autoParam ((x ==("__debug__":Str))=false) ℜ1)
  (fH:autoParam ((x ==("__classdict__":Str))=false) ℜ1):PE X (.Name x pos) (uQ i):=EL hN hv hd fH
end
noncomputable def wQ(H H':Hp):Prop:=∀b o,H b=some o->H' b=some o
theorem wQ.refl(H:Hp):wQ H H:=λ_ _ h=>h
section
variable {κ:Type} [DecidableEq κ]
theorem zZ{kvs:List (κ×V)}{k:κ}{v:V}(h:gX kvs k=some v):k∈kvs.map (·.1):=by
 have q:(kvs.any λkv=>decide (kv.1=k))=true:=by
  rw[iF,h]
  all_goals rfl
 obtain⟨p,hp,e⟩:=List.any_eq_true.mp q;exact JD.mpr ⟨p,hp,JJ e⟩
end
noncomputable def ee(cells:List (Str×Addr)):List (Str×NameKind)->List (Str×Addr)->List (Str×Addr)
 |[],acc=>acc
 | (n,k)::r,acc=>if k=.free then ee cells r ((n,(cells.lookup n).getD 0)::acc) else ee cells r acc
theorem gR(h:∀x∈scope.names,x.2=.free->∃c,env.cells.lookup x.1=some c):closureFor scope env=pure (ee env.cells scope.names []):=by
 have all:∀(l:List (Str×NameKind)) (acc:List (Str×Addr)),(∀x∈l,x.2=.free->∃c,env.cells.lookup x.1=some c) ->
   (forIn l acc λ(x:Str×NameKind) (cs:List (Str×Addr))=>(match x with | (name,kind)=>if (kind == NameKind.free)=true then (do let c <- cellOf env name;pure (ForInStep.yield ((name,c)::cs))) else pure (ForInStep.yield cs):Sem (ForInStep (List (Str×Addr)))))=(pure (ee env.cells l acc):Sem (List (Str×Addr))):=by
  intro l
  induction l with
  |nil=>intro acc _;rfl
  |cons x r ih =>
   intro acc hl;obtain⟨n,k⟩:=x;rw[M0];by_cases hk:k=.free
   ·subst hk;obtain⟨c,hc⟩:=hl (n,.free) IZ rfl;have e:cellOf env n=pure c:=by unfold cellOf;rw[hc]
    simp only[JW,Mo,e,ee,pure_bind];rw[ih _ λy hy=>hl y (IV _ hy),hc];rfl
   ·have hb:(k == NameKind.free)=false:=by simpa using hk
    simp only[hb,K7,KP,ee,hk,pure_bind];exact ih _ λy hy=>hl y (IV _ hy)
 unfold closureFor;simp only[bind_pure];exact all scope.names [] h
theorem i_:∀{l:List (Str×NameKind)} {acc:List (Str×Addr)},(∀x∈l,x.2=.free->∃c,cells.lookup x.1=some c)->(∀x c,acc.lookup x=some c->cells.lookup x=some c) ->
  ∀x c,(ee cells l acc).lookup x=some c->cells.lookup x=some c
 |[],_,_,h,x,c,e=>h x c e
 | (n,k)::r,acc,hl,h,x,c,e=>by
  unfold ee at e;have hr:∀y∈r,y.2=.free->∃c,cells.lookup y.1=some c:=λy hy=>hl y (IV _ hy)
  split at e
  ·rename_i hk;refine i_ hr (λy d q=>?_) x c e;rw[JI] at q
   split at q
   ·rename_i hy;obtain⟨c',hc'⟩:=hl (n,k) IZ hk;have hy':y=n:=by simpa using hy
    subst hy';simp only[] at hc';rw[hc'] at q ⊢;exact q
   ·exact h y d q
  ·exact i_ hr h x c e
theorem iL:∀{l:List (Str×NameKind)} {acc:List (Str×Addr)},(∃c,acc.lookup x=some c)->∃c,(ee cells l acc).lookup x=some c
 |[],_,h=>h
 | (n,k)::r,acc,h=>by
  unfold ee;split
  ·refine iL ?_;rw[JI];split
   ·exact⟨_,rfl⟩
   ·exact h
  ·exact iL h
theorem gB:∀{l:List (Str×NameKind)} {acc:List (Str×Addr)},(x,NameKind.free)∈l->∃c,(ee cells l acc).lookup x=some c
 |[],_,h=>by simp at h
 | (n,k)::r,acc,h=>by
  unfold ee;rcases IX.mp h with e|h
  ·cases e;rw[IW rfl];exact iL ⟨(cells.lookup x).getD 0,by rw[JI];simp⟩
  ·split
   ·exact gB h
   ·exact gB h
noncomputable def bj(X:Cx)(scope:Scope)(N:List Str)(C:Addr)(s:Shared)(H:Hp)(fp:List Addr):Cx where
 prog:=X.prog
 w:=X.w
 K:=X.K
 mg:=X.mg
 base:=X.base
 A:=X.A
 N:=N
 s₀:=s
 H₀:=H
 env:=compEnvC scope (ee X.env.cells scope.names []) C X.env
 outer:=X.stack
 stack:=X.stack
 ex:=fp
 calm:=X.calm
 fn:=λ_=>false
 pn:=[]
 xe:=λ_ _=>False
structure dM (osc:Scope) (ON:List Str) (scope:Scope) (own N:List Str):Prop where
 kind:scope.kind=.function
 nd:N.Nodup
 len:N.length=own.length+ON.length
 km:∀y∈scope.names,y.2≠.cell
 loc:∀y∈scope.names,y.2=.local->scope.names.lookup y.1=some .local
 free:∀y∈scope.names,y.2=.free->osc.names.lookup y.1=some .cell\/osc.names.lookup y.1=some .free
 out:∀p∈ON.zip (N.drop own.length),p.1=p.2\/scope.names.lookup p.2=none
 own:∀x∈N.drop own.length,scope.names.lookup x≠some .local
theorem cQ(x:Str)(hn:∀y∈scope.names,y.2≠.cell):((relabel scope env).names.lookup x=some .local->scope.names.lookup x=some .local) /\
  ((relabel scope env).names.lookup x=some .cell\/(relabel scope env).names.lookup x=some .free->scope.names.lookup x=some .free):=by
 unfold relabel;simp only;revert hn;generalize scope.names=l;intro hn
 induction l with
 |nil=>simp
 |cons y r ih =>
  obtain⟨n,k⟩:=y;have ih:=ih λy hy=>hn y (IV _ hy);have hk:k≠.cell:=hn (n,k) IZ;rw[Jy];simp only;by_cases hc:(k == NameKind.free && env.scope.kind == ScopeKind.function && env.kindOf n == some NameKind.cell)=true
  ·rw[IW hc,JI,JI];have hf:k=.free:=by
    simp only[JQ] at hc
    simpa using hc.1.1
   split
   ·subst hf;simp
   ·exact ih
  ·rw[IT hc,JI,JI];split
   ·constructor
    ·exactλh=>h
    ·rintro (h|h)
     ·exact absurd (Option.some.inj h) hk
     ·exact h
   ·exact ih
noncomputable def Df(X:Cx)(ifs:List Expr)(t:TT):Prop:=
 ∀(pins:List (Addr×Obj)) (s:Shared) (σ:St) (H:Hp) (Q:Bool->Hp->Prop),Inv X pins σ H s->t σ H Q ->
  wpAny (model X.prog X.w) X.A (forIn ifs true λc r=>if r=true then do let ok <- isTrue c X.env (eval c X.env);pure (ForInStep.yield ok) else pure (ForInStep.yield r)) (TP X pins σ Q) X.xe s
noncomputable def gL:TT:=λ_ H Q=>Q true H
theorem Ad:Df X [] gL:=λ_ _ _ H _ I h=>wpAny_tests_nil ⟨H,I,h⟩
theorem Aq{c:Expr}{t:TT}(h:PT X c t):Df X [c] t:=λpins s σ H Q I hw=>wpAny_tests_one (h pins s σ H Q I hw)
theorem uy{M:Model}{A:Around}{s:Shared}{m:Sem α}{Q' Q:α->Shared->Prop}(h:wpAny M A m Q' (λ_ _=>False) s)(k:∀x s',Q' x s'->Q x s'):wpAny M A m Q E s:=JO h k λ_ _ z=>z.elim
theorem lp{A:Around}{R:Result->Shared->Prop}{s:Shared}{target:Expr}{pos:Pos}{it acc:Value}{XE:Value->Shared->Prop}(I:Nat->Shared->Prop)(hx:∀x s',XE x s'->notedBy (model prog w) A env (λv s''=>R (.error v) s'') x s')
  (turn:∀n s,I n s->wpAny (model prog w) A (pyNext it) (λr s₁=>match r with
   |none=>R (.ok .next) s₁
   |some v=>wpAny (model prog w) A (letOwnedTupleGo target it v) (λ_ s₁'=>wpAny (model prog w) A (assign target env v) (λ_ s₂ =>
     wpAny (model prog w) A (forIn ifs true λc r=>if r=true then do let ok <- isTrue c env (eval c env);pure (ForInStep.yield ok) else pure (ForInStep.yield r)) (λok s₃ =>
      if ok=true then wpAny (model prog w) A (eval elt env) (λx s₄ =>
       wpAny (model prog w) A (call (.builtin "list.append") [acc,x]) (λ_ s₅=>∃m,m<n/\I m s₅) XE s₄) XE s₃
      else ∃m,m<n/\I m s₃) XE s₂) XE s₁') XE s₁) XE s)
  (n:Nat) (h:I n s):codeAny (model prog w) A (.compLoop (.ListComp elt [⟨target,iter,ifs,0⟩] scope pos) 0 it acc env) R s:=by
 refine codeAny_loop rfl I (λn s hI=>?_) n h;show wpAny _ A ((compTurn (.ListComp elt [⟨target,iter,ifs,0⟩] scope pos) 0 it acc env).onRaise (λx=>do noteFrame x env;theTreesLotGoes x)) _ _ s
 refine wpAny_noted ?_;rw[compTurn_list];refine IK (Nc (IK (JO (turn n s hI) (λr s₁ h₁=>?_) hx)))
 cases r with
 |none=>exact Ja h₁
 |some v =>
  refine IK (JO h₁ (λ_ s₁' h₁'=>?_) hx);refine IK (JO h₁' (λ_ s₂ h₂=>IK (JO h₂ (λok s₃ h₃=>?_) hx)) hx)
  cases ok with
  |false=>exact Ja ⟨rfl,h₃⟩
  |true =>
   exact IK (IK (JO h₃ (λx s₄ h₄=>IK (JO h₄ (λ_ s₅ h₅=>Ja (Ja ⟨rfl,h₅⟩)) hx)) hx))
noncomputable def kg(wi:TI)(k:Nat)(g:TG)(tc:TT)(te:TE):TE:=λσ H Q=>wi σ H λJ H1=>∀D,H1 D=none ->
 ∃W:Nat->Nat->List V->St->Hp->Prop,(∃m,W 0 m [] (List.replicate k none++σ) (upd H1 D (.lst [])))/\∀i m ys σ' H',W i m ys σ' H'->H' D=some (.lst ys) /\
  ((J.stop i H'/\Q (.ref D) H')\/(J.go i H'/\ys.length<sizeLine/\∀x H2,J.BX i H' x H2->g x σ' H2 λσ3 H3=>tc σ3 H3 λb H4 =>
   if b=true then te σ3 H4 λv H5=>H5 D=some (.lst ys)/\∃m',m'<m/\W (i+1) m' (ys++[v]) σ3 (upd H5 D (.lst (ys++[v])))
   else ∃m',m'<m/\W (i+1) m' ys σ3 H4))
theorem rR{pos:Pos}{wi:TI}(S:dM osc ON scope own N)(hosc:X.env.scope=osc)(hON:X.N=ON)(hc:X.calm=true)(hi:PI X tg iter wi)
  (hg:∀C s H fp,PG (bj X scope N C s H fp) tg g) (ht:∀C s H fp,Df (bj X scope N C s H fp) ifs tc) (XE:Addr->Shared->Hp->List Addr->Value->Shared->Prop)
  (he:∀C s H fp pins s' σ' H' Q',(∀b∈fp,∃o,(b,o)∈pins)->Inv (bj X scope N C s H fp) pins σ' H' s'->te σ' H' Q'->wpAny (model X.prog X.w) X.A (eval elt (bj X scope N C s H fp).env) (EP (bj X scope N C s H fp) pins σ' Q') (XE C s H fp) s')
     {s:Shared} {Q:VK} (I:Inv X pins σ H s) (h:kg wi own.length g tc te σ H Q) 
  (fin:∀(D C:Addr) (H':Hp) (s':Shared) (m:Str->Option Value),Inv X pins σ H' s'->Q (.ref D) H'->H' C=none->X.s₀.heap.objs.size<=C->C≠X.env.locals->(∀x c,X.env.cells.lookup x=some c->c≠C)->(∀p∈X.pn++pins,p.1≠C) ->
   s'.heap.Ns C m->RR (.ref D) C (.ok .next) s')
  (hx:∀(D C:Addr) (s3:Shared) (H3:Hp) (fp:List Addr),C=s3.heap.objs.size->Inv X pins σ H3 s3->(∀{pins':List (Addr×Obj)} {σ':St} {H':Hp} {s':Shared},Inv (bj X scope N C s3 H3 fp) pins' σ' H' s'->Inv X pins σ H' s') ->
   X.s₀.heap.objs.size<=C->C≠X.env.locals->(∀x c,X.env.cells.lookup x=some c->c≠C)->(∀p∈X.pn++pins,p.1≠C)->∀x s',XE C s3 H3 fp x s'->notedBy (model X.prog X.w) X.A (bj X scope N C s3 H3 fp).env (λv s''=>RR (.ref D) C (.error v) s'') x s') :
  wpAny (model X.prog X.w) X.A (eval iter X.env) (λx s₁=>wpAny (model X.prog X.w) X.A (pyIter x) (λit s₂=>wpAny (model X.prog X.w) X.A (newList []) (λacc s₃ =>
   wpAny (model X.prog X.w) X.A (newFunctionEnv scope X.env.globals (ee X.env.cells scope.names []) [] X.env.qual none .none (some X.env)) (λcenv s₄ =>
    codeAny (model X.prog X.w) X.A (.compStart (.ListComp elt [⟨tg,iter,ifs,0⟩] scope pos) 0 it acc {cenv with scope:=relabel scope X.env}) (RR acc cenv.locals) s₄) X.xe s₃) X.xe s₂) X.xe s₁) X.xe s:=by
 refine bT (hi pins s σ H _ I h) λv s1 h1=>bT h1 λitv s2 h2=>?_;obtain⟨it,fp,tn,J,H2,e,I2,T,st2,f2,q⟩:=h2;subst e;refine Km (wpAny_newFunctionEnv S.km (by intro y hy;simp at hy) (λh₁ hns₁ hsb₁=>?_) S.kind)
 dsimp only at hns₁ hsb₁ ⊢;have I3:Inv X pins σ (upd H2 s2.heap.objs.size (.lst [])) {s2 with heap:=s2.heap.push {cls:=.type "list",data:=.seq ([]:List Value).toArray},toks:=s2.toks}:=I2.CH (t':=s2.toks) .nil (Nat.zero_le _)
 have hD2:H2 s2.heap.objs.size=none:=I2.fresh;obtain⟨W,⟨m0,w0⟩,turn⟩:=q _ hD2;generalize hs3:({s2 with heap:=s2.heap.push {cls:=.type "list",data:=.seq ([]:List Value).toArray},toks:=s2.toks}:Shared)=s3 at I3
 have eh3:s3.heap=s2.heap.push {cls:=.type "list",data:=.seq ([]:List Value).toArray}:=by rw[<- hs3]
 generalize hD:s2.heap.objs.size=D at I3 turn w0 hD2 ⊢;generalize hH3:upd H2 D (.lst [])=H3 at I3 w0;rw[<- eh3] at hns₁ hsb₁ ⊢;have hC3:H3 s3.heap.objs.size=none:=I3.fresh;have hsz3:s3.heap.objs.size=D+1:=by rw[eh3,JY,hD]
 have fp2:∀b∈fp,b<s2.heap.objs.size:=λb hb=>by
  obtain⟨o,e,_⟩:=T.obj _ _ st2 b hb;exact Jh e
 have f3:∀b∈fp,la X pins H3 b:=λb hb=>by
  obtain⟨g0,g1⟩:=f2 b hb;refine⟨?_,g1⟩;rw[<- hH3,af (by rw[<- hD];exact Jr (fp2 b hb))]
  exact g0
 have neC:∀b o,s3.heap.get? b=some o->b≠s3.heap.objs.size:=λb o e=>Jr (Jh e);have old:∀b o,s3.heap.get? b=some o->h₁.get? b=some o:=λb o e=>hsb₁.extBut b o (neC b o e) (IM _ e);have hk:=S.kind;have hfr:∀y∈scope.names,y.2=.free->∃c,X.env.cells.lookup y.1=some c:=λy hy hf=>I3.ok.has _ (by subst hosc;exact S.free y hy hf)
 have sub:=i_ (acc:=[]) hfr (by intro x c e;simp at e)
 have JB:∀tk,Inv (bj X scope N s3.heap.objs.size s3 H3 fp) [] (List.replicate own.length none++σ) H3 {s3 with heap:=h₁,toks:=tk}:=λtk=>by
  refine⟨⟨I3.ok.mod,S.kind,I3.ok.glob,I3.ok.blt,IU _,λx y c e1 e2=>I3.ok.inj x y c (sub x c e1) (sub y c e2),λx hx=>?_,λx c hf _=>(by cases hf),I3.ok.hd,I3.ok.frames,.inl rfl,λb hb=>?_,I3.bs,IY I3.ok.zD I3.sz,λb o e hb=>?_,λb hb hf=>?_,I3.stack,I3.mV,I3.ok.tabs.un I3.base⟩,
   rfl,I3.bare,Un.kept old,⟨_,hns₁,λi x v e1 e2 e3=>?_⟩,λx c e=>?_,hC3,λx c e=>I3.fD x c (sub x c e),λp hp=>absurd (show p∈([]:List (Addr×Obj)) from hp) (by simp),I3.bc.kept old,?_⟩
  ·have q:=(cQ (env:=X.env) x S.km).2 hx;exact gB (PySem.mem_of_lookup q)
  ·have hb:b∈fp:=hb;obtain⟨_,g1,g2,g3,g4,g5⟩:=f3 b hb;refine⟨?_,λx c e=>g4 x c (sub x c e)⟩;have:=fp2 b hb;show b≠s3.heap.objs.size;rw[hsz3,<- hD];exact Jr (Lr this)
  ·have hb:b∈fp:=hb;obtain⟨_,g1,g2,g3,g4,g5⟩:=f3 b hb;rcases g3 with g3|g3
   ·exact I3.ok.zx b o e g3
   ·exact absurd (Ju (Jh e) (IY I3.ok.zD g3)) (Kf _)
  ·have hb:b∈fp:=hb;obtain⟨_,g1,g2,g3,g4,g5⟩:=f3 b hb;rcases IX.mp (I3.nE b hf) with z|z
   ·exact g1 z
   ·exact g2 z
  ·have hi:own.length<=i:=by
    rcases JL i own.length with hlt|hge
    ·rw[Jx (by simpa using hlt),LX] at e2
     split at e2<;>cases e2
    ·exact hge
   rw[Jk (by simpa using hi),Je] at e2
   have e1:N[own.length+(i-own.length)]?=some x:=by rw[Nat.add_sub_cancel' hi];exact e1
   have e1d:(N.drop own.length)[i-own.length]?=some x:=by rw[Kc];exact e1
   have nl:scope.names.lookup x≠some .local:=S.own x (JF e1d);have vis:scope.names.lookup x=some .free:=by
    rcases e3 with z|z
    ·exact absurd ((cQ (env:=X.env) x S.km).1 z) nl
    ·exact (cQ (env:=X.env) x S.km).2 z
   have hlen:=I3.len;have hlt:i-own.length<X.N.length:=by
    rw[<- hlen];exact (IQ.mp e2).1
   have hxN:X.N[i-own.length]?=some x:=by
    rw[IJ hlt];have mz:(X.N[i-own.length],x)∈ON.zip (N.drop own.length):=by
     rw[<- hON];refine JF (i:=i-own.length) ?_;rw[List.getElem?_zip_eq_some];exact⟨IJ hlt,e1d⟩
    rcases S.out _ mz with z|z
    ·exact JH some z
    ·exact absurd z (by rw[vis];simp)
   have hko:X.env.scope.names.lookup x=some .cell\/X.env.scope.names.lookup x=some .free:=by subst hosc;exact S.free _ (PySem.mem_of_lookup vis) rfl
   obtain⟨m,hn,hl⟩:=I3.loc;have hv:GS X.env.scope x:=by
    rcases hko with z|z
    ·exact .inr (.inl z)
    ·exact .inr (.inr z)
   obtain⟨u,ru,lk⟩:=hl _ x v hxN e2 hv;refine⟨u,ru,.inr ⟨?_,?_⟩⟩
   ·rcases e3 with z|z
    ·exact absurd ((cQ (env:=X.env) x S.km).1 z) nl
    ·exact z
   ·rcases lk with ⟨k,_⟩|⟨_,c,ec,hcell⟩
    ·exfalso
     have k':X.env.scope.names.lookup x=some .local:=k;rcases hko with z|z
     ·rw[k'] at z;cases z
     ·rw[k'] at z;cases z
    ·obtain⟨c',ec'⟩:=gB (cells:=X.env.cells) (acc:=[]) (PySem.mem_of_lookup vis);have:=sub x c' ec';rw[ec] at this;cases this;obtain⟨o,ho,hd⟩:=hcell;exact⟨c,ec',o,old c o ho,hd⟩
  ·obtain⟨v,o,ho,hd⟩:=I3.cell x c (sub x c e);exact⟨v,o,old c o ho,hd⟩
  ·show (List.replicate own.length none++σ).length=N.length;rw[S.len,IL,Je,I3.len,hON]
 have stat:∀{H':Hp},(∀b∈fp,H' b=none)->∀b∈fp,la (bj X scope N s3.heap.objs.size s3 H3 fp) [] H' b:=λ{H'} hn b hb=>by
  obtain⟨_,g1,g2,g3,g4,g5⟩:=f3 b hb;refine⟨hn b hb,?_,λhf=>?_,.inl hb,λx c e=>g4 x c (sub x c e),λp hp=>absurd (show p∈([]:List (Addr×Obj)) from hp) (by simp)⟩
  ·have:=fp2 b hb;show b≠s3.heap.objs.size;rw[hsz3,<- hD];exact Jr (Lr this)
  ·rcases IX.mp (I3.nE b hf) with z|z
   ·exact g1 z
   ·exact g2 z
 have st4:tn 0 h₁:=T.keep _ _ _ st2 λb hb o e=>old b o (by rw[eh3];exact IM _ e)
 have o3:∀x c,X.env.cells.lookup x=some c->c≠s3.heap.objs.size:=λx c e z=>by
  obtain⟨v,o,ho,_⟩:=I3.cell x c e;exact absurd (Jh ho) (by rw[z];exact Kf _)
 have o4:∀p∈X.pn++pins,p.1≠s3.heap.objs.size:=λp hp z=>absurd (Jh (I3.pin p hp).1) (by rw[z];exact Kf _)
 have outI:∀{pins':List (Addr×Obj)} {σ':St} {H':Hp} {s':Shared},Inv (bj X scope N s3.heap.objs.size s3 H3 fp) pins' σ' H' s'->Inv X pins σ H' s':=λI6=>by
  refine I3.Gx (ch:=fp) I6.os I6.base I6.bc I6.bare λb hb=>?_;obtain⟨_,g1,g2,g3,g4,g5⟩:=f3 b hb;exact⟨g3,g1,g4,g5⟩
 have loop:∀s4:Shared,s4={s3 with heap:=h₁,toks:=s2.toks+([]:List (Str×Value)).length} ->
   codeAny (model X.prog X.w) X.A (.compLoop (.ListComp elt [⟨tg,iter,ifs,0⟩] scope pos) 0 (.ref it) (.ref D) (bj X scope N s3.heap.objs.size s3 H3 fp).env) (RR (.ref D) s3.heap.objs.size) s4:=by
  rintro s4 rfl;refine lp (XE:=XE s3.heap.objs.size s3 H3 fp) (λn s'=>∃i ys σ' H',Inv (bj X scope N s3.heap.objs.size s3 H3 fp) [] σ' H' s'/\tn i s'.heap/\(∀b∈fp,H' b=none)/\W i n ys σ' H') (hx D _ s3 H3 fp rfl I3 outI I3.sz (Kv I3.lt) o3 o4) ?_ m0 ⟨0,[],_,H3,JB _,st4,λb hb=>(f3 b hb).1,w0⟩;rintro n s5 ⟨i,ys,σ5,H5,I5,st5,fr5,w5⟩;obtain⟨hD5,ways⟩:=turn i n ys σ5 H5 w5;rcases ways with ⟨stop,qn⟩|⟨go,hys,step⟩
  ·refine uy (T.done (bj X scope N s3.heap.objs.size s3 H3 fp) rfl rfl rfl hc i [] s5 σ5 H5 _ I5 (stat fr5) st5 stop) λr s6 hq1=>?_;obtain⟨hr,I6⟩:=hq1;subst hr;obtain⟨m,hn,_⟩:=I6.loc;exact fin D _ H5 s6 m (outI I6) qn I6.free I3.sz (Kv I3.lt) o3 o4 hn
  ·refine uy (T.item (bj X scope N s3.heap.objs.size s3 H3 fp) rfl rfl rfl hc i [] s5 σ5 H5 _ I5 (stat fr5) st5 go) λr s6 hq2=>?_;obtain⟨u,hr,h6⟩:=hq2;subst hr;refine uy h6 λ_ s7 hq3=>?_;obtain⟨x,H7,I7,r7,y7,st7,fr7⟩:=hq3;have I7':=I7.pinned (stat fr7) (T.obj _ _ st7);have back:∀{σ8:St} {H8:Hp} {s8:Shared},Inv (bj X scope N s3.heap.objs.size s3 H3 fp) ([]++iW fp s7.heap) σ8 H8 s8->tn (i+1) s8.heap/\∀b∈fp,H8 b=none:=λ{σ8 H8 s8} I8=>by
    refine⟨T.keep _ _ _ st7 λb hb o e=>(I8.pin (b,o) (Jo _ (Jo _ (d_ hb e)))).1,λb hb=>?_⟩;obtain⟨o,e,d⟩:=T.obj _ _ st7 b hb;exact (I8.pin (b,o) (Jo _ (Jo _ (d_ hb e)))).2.1
   have hcov:∀b∈fp,∃o,(b,o)∈([]:List (Addr×Obj))++iW fp s7.heap:=λb hb=>by
    obtain⟨o,e,_⟩:=T.obj _ _ st7 b hb;exact⟨o,Jo _ (d_ hb e)⟩
   refine uy (hg _ _ _ _ _ s7 σ5 H7 x u _ I7' r7 (step x H7 y7)) λ_ s8 hq4=>?_;obtain⟨σ8,H8,I8,q8⟩:=hq4;refine uy (ht _ _ _ _ _ s8 σ8 H8 _ I8 q8) λok s9 hq5=>?_;obtain⟨H9,I9,q9⟩:=hq5
   cases ok with
   |false =>
    rw[IT (by simp)] at q9 ⊢
    obtain⟨m',hm,w9⟩:=q9;exact⟨m',hm,i+1,ys,σ8,H9,I9.fR,(back I9).1,(back I9).2,w9⟩
   |true =>
    rw[IW rfl] at q9 ⊢;refine bT (he _ _ _ _ _ s9 σ8 H9 _ hcov I9 q9) λy s10 hq6=>?_;obtain⟨v10,H10,I10,r10,hD10,m',hm,w10⟩:=hq6;refine uy (dN _ s10 σ8 H10 (.ref D) [v10] (.ref D) [y] (λr H11=>r=.aT/\H11=upd H10 D (.lst (ys++[v10]))) I10 rfl (.cons r10 .nil) ⟨D,ys,v10,rfl,rfl,hD10,hys,rfl,rfl⟩) λ_ s11 hq7=>?_;obtain⟨_,H11,I11,_,_,e11⟩:=hq7;subst e11;exact⟨m',hm,i+1,_,σ8,_,I11.fR,(back I11).1,(back I11).2,w10⟩
 have start:=codeAny_compStart_list (R:=RR (.ref D) s3.heap.objs.size) (loop _ rfl) (T.self X.A 0 _ _ _ st4 (loop _ rfl));subst hs3;exact start
theorem lT{pos:Pos}{wi:TI}(S:dM osc ON scope own N)(hosc:X.env.scope=osc)(hON:X.N=ON)(hc:X.calm=true)(hi:PI X tg iter wi)
  (hg:∀C s H fp,PG (bj X scope N C s H fp) tg g) (ht:∀C s H fp,Df (bj X scope N C s H fp) ifs tc) (he:∀C s H fp,PE (bj X scope N C s H fp) elt te)
     {s:Shared} {Q:VK} (I:Inv X pins σ H s) (h:kg wi own.length g tc te σ H Q) 
  (fin:∀(D C:Addr) (H':Hp) (s':Shared) (m:Str->Option Value),Inv X pins σ H' s'->Q (.ref D) H'->H' C=none->X.s₀.heap.objs.size<=C->C≠X.env.locals->(∀x c,X.env.cells.lookup x=some c->c≠C)->(∀p∈X.pn++pins,p.1≠C) ->
   s'.heap.Ns C m->RR (.ref D) C (.ok .next) s') :
  wpAny (model X.prog X.w) X.A (eval iter X.env) (λx s₁=>wpAny (model X.prog X.w) X.A (pyIter x) (λit s₂=>wpAny (model X.prog X.w) X.A (newList []) (λacc s₃ =>
   wpAny (model X.prog X.w) X.A (newFunctionEnv scope X.env.globals (ee X.env.cells scope.names []) [] X.env.qual none .none (some X.env)) (λcenv s₄ =>
    codeAny (model X.prog X.w) X.A (.compStart (.ListComp elt [⟨tg,iter,ifs,0⟩] scope pos) 0 it acc {cenv with scope:=relabel scope X.env}) (RR acc cenv.locals) s₄) X.xe s₃) X.xe s₂) X.xe s₁) X.xe s:=
 rR S hosc hON hc hi hg ht (λ_ _ _ _ _ _=>False) (λC s H fp pins s' σ' H' Q' _ I h=>he C s H fp pins s' σ' H' Q' I h) I h fin λ_ _ _ _ _ _ _ _ _ _ _ _ _ _ z=>z.elim
theorem B8{pos:Pos}{wi:TI}(S:dM osc ON scope own N)(hosc:X.env.scope=osc)(hON:X.N=ON)(hc:X.calm=true)(hi:PI X tg iter wi)
  (hg:∀C s H fp,PG (bj X scope N C s H fp) tg g) (ht:∀C s H fp,Df (bj X scope N C s H fp) ifs tc) (he:∀C s H fp,PE (bj X scope N C s H fp) elt te)
  (hs:autoParam (∀x,foldedSetIterable iter X.env x=pure x) ℜ3) :
  PE X (.ListComp elt [⟨tg,iter,ifs,0⟩] scope pos) (kg wi own.length g tc te):=by
 intro pins s σ H Q I h;have hfr:∀y∈scope.names,y.2=.free->∃c,X.env.cells.lookup y.1=some c:=λy hy hf=>I.ok.has _ (by subst hosc;exact S.free y hy hf)
 rw[eval_ListComp];refine Nu (use:=none) rfl hs (gR hfr) S.kind S.loc ?_;refine lT S hosc hON hc hi hg ht he I h (RR:=λacc C=>compPost (model X.prog X.w) X.A X.xe none (EP X pins σ Q) acc C) ?_;intro D C H' s' m I' q h1 h2 h3 h4 h5 hn;exact⟨m,hn,λh'' hs''=>⟨.ref D,H',I'.turned (t':=s'.toks) (λb o hb e=>(hs''.2 b hb).trans e) h1 h3 (.inr h2) h4 h5,rfl,q⟩⟩
theorem rn{pos spos py:Pos}{wi:TI}{y:Str}(hN:X.N.Nodup)(hj:X.N[j]?=some y)(hx:Loc X.env.scope y)(S:dM osc ON scope own N)(hosc:X.env.scope=osc)(hON:X.N=ON)(hc:X.calm=true)(hi:PI X tg iter wi)
  (hg:∀C s H fp,PG (bj X scope N C s H fp) tg g) (ht:∀C s H fp,Df (bj X scope N C s H fp) ifs tc) (he:∀C s H fp,PE (bj X scope N C s H fp) elt te)
  (hsw:autoParam (swapsWith (.ListComp elt [⟨tg,iter,ifs,0⟩] scope pos) (some (.Name y py)) spos.line X.env=pure true) ℜ0)
  (hf:autoParam (X.fn y=true\/X.env.scope.names.lookup y=some .local) ℜ2)
  (hs:autoParam (∀x,foldedSetIterable iter X.env x=pure x) ℜ3) :
  PS X (.Assign [.Name y py] (.ListComp elt [⟨tg,iter,ifs,0⟩] scope pos) spos) (nA (kg wi own.length g tc te) (bC j)):=by
 intro pins s σ H Dn I h;have hfr:∀y∈scope.names,y.2=.free->∃c,X.env.cells.lookup y.1=some c:=λy hy hf=>I.ok.has _ (by subst hosc;exact S.free y hy hf)
 rw[exec_Assign_Name_used _ _ _ _ hsw];refine IK (Nc (IK ?_));show wpAny _ X.A (do let _ <- comprehension (.ListComp elt [⟨tg,iter,ifs,0⟩] scope pos) scope X.env _ (newList []) false (eval iter X.env) (some (assign (.Name y py) X.env))) _ _ s
 refine IK (JO (Nu (use:=some (assign (.Name y py) X.env)) (Q:=λ_ s'=>SP X pins Dn .next s') rfl hs (gR hfr) S.kind S.loc ?_) (λ_ s' hq=>Ja (Ja hq)) λ_ _ e=>e);refine lT S hosc hON hc hi hg ht he I h (RR:=λacc C=>compPost (model X.prog X.w) X.A X.xe (some (assign (.Name y py) X.env)) (λ_ s'=>SP X pins Dn .next s') acc C) ?_;intro D C H' s' m I' q h1 h2 h3 h4 h5 hn;show wpAny _ X.A (assign (.Name y py) X.env (.ref D)) _ _ _;refine wpAny_assign_Name (lH I' hN hj hx (v:=.ref D) rfl (λs'' I'' hsb=>?_) hf);obtain⟨a,sb,ha⟩:=hsb;have nC:C≠a:=by
  rcases ha with ha|ha
  ·rw[ha];exact h3
  ·exact (h4 y a ha).symm
 exact⟨m,hn.sameBut sb nC,λh'' hs''=>⟨_,H',I''.turned (t':=s''.toks) (λb o hb e=>(hs''.2 b hb).trans e) h1 h3 (.inr h2) h4 h5,q⟩⟩
noncomputable def gK(e:Expr):Bool:=match e with
 |.Starred ..=>false
 |_=>true
theorem dA(h:gK e=true):starEach (e::es) env=(false,eval e env)::starEach es env:=by
 cases e<;>first|rfl|cases h
theorem plain_any{pos:Pos}:∀{es:List Expr},es.all gK=true->(backTo pos (starEach es env)).any (·.1)=false
 |[],_=>rfl
 |e::es,h=>by
  rw[Ky,JQ] at h;rw[dA h.1];show (false || (backTo pos (starEach es env)).any (·.1))=false;rw[plain_any h.2];rfl
theorem plain_all{pos:Pos}:∀{es:List Expr},es.all gK=true->(backTo pos (starEach es env)).all (λx=>!x.1)=true
 |[],_=>rfl
 |e::es,h=>by
  rw[Ky,JQ] at h;rw[dA h.1];show (true && (backTo pos (starEach es env)).all (λx=>!x.1))=true;rw[plain_all h.2];rfl
theorem C2{cpos:Pos}(h:(e::es).all gK=true)(hl:(e::es).length<30):
  ((backTo cpos (starEach (e::es) env)).all (λx=>!x.1) && (backToKw cpos (keywordEach [] env)).all (λx=>x.1.isSome) && decide ((e::es).length+([]:List Keyword).length+(if ([]:List Keyword).isEmpty then 0 else 1)<30))=true:=by
 rw[plain_all h];have e2:(backToKw cpos (keywordEach [] env)).all (λx=>x.1.isSome)=true:=rfl;rw[e2];have e3:(e::es).length+([]:List Keyword).length+(if ([]:List Keyword).isEmpty then 0 else 1)<30:=hl
 rw[Jt e3];rfl
section
variable {X:Cx} {e:Expr} {es:List Expr} {te:TE} {t:TA}
theorem HG(ha:PE X e te)(hr:PA X es t)(h:autoParam (gK e=true) ℜ0):PA X (e::es) (jg te t):=tL ha hr (dA h)
theorem FQ{id:String}{p pos:Pos}(hc:bD X (.builtin id) r)(hg:Gl X x)(hm:X.mg x=none)(hv:bootBuiltins x=some (.builtin id))(ha:PA X (e::es) t)(h1:autoParam (gK e=true) ℜ0)(h2:autoParam (es.all gK=true) ℜ0)(hn:autoParam (x≠"__name__") ℜ1)(hdb:autoParam ((x ==("__debug__":Str))=false) ℜ1):
  PE X (.Call (.Name x p) (e::es) [] pos) (Ak r t):=za hc hg hm hv ha hn hdb (dA h1) (plain_any h2)
theorem Gz{T:String}{p pos:Pos}(hc:bD X (.type T) r)(hg:Gl X x)(hm:X.mg x=none)(hv:bootBuiltins x=some (.type T))(ha:PA X (e::es) t)(h1:autoParam (gK e=true) ℜ0)(h2:autoParam (es.all gK=true) ℜ0)(hn:autoParam (x≠"__name__") ℜ1)(hdb:autoParam ((x ==("__debug__":Str))=false) ℜ1):
  PE X (.Call (.Name x p) (e::es) [] pos) (Ak r t):=vd hc hg hm hv ha hn hdb (dA h1) (plain_any h2)
theorem El{o:Expr}{to:TE}{name:Str}{apos cpos:Pos}{T id:String}{r:V->List V->Hp->VK->Prop}(pa:PlainAttrs T)(slot:Slot T name id)(hty:typeOf (.builtin id)=pure (.type "method_descriptor"))(hm:wZ X id r)(ho:PE X o to)(ha:PA X (e::es) t)
  (hbase:attributeBase o name X.env (eval o X.env)=eval o X.env) (hline:(apos.endLine == cpos.line)=true) (h:(e::es).all gK=true) (hl:(e::es).length<30):PE X (.Call (.Attribute o name apos) (e::es) [] cpos) (Fe X.K T r to t):=by
 have h':=h;rw[Ky,JQ] at h';exact FX pa slot hty hm ho ha hbase (C2 h hl) hline (dA h'.1) (plain_any h'.2)
theorem qP{a:Expr}{ta:TA}{p pos:Pos}(hg:Gl X "range")(hm:X.mg "range"=none)(ha:PA X [a] ta)(h:autoParam (gK a=true) ℜ0):PI X tg (.Call (.Name "range" p) [a] [] pos) (m4 ta):=vg hg hm ha (dA h)
end
structure HasFn (K:Og) (mg:Str->Option Value) (x:Str) (st:Stmt) (ps:List Str):Prop where
 ex:∃(f:Addr) (fd:FuncData),jS K x x st f fd/\Binds K fd ps []/\mg x=some (.ref f)
structure aq (P:Program) (w:World) (K:Og) (mg:Str->Option Value) (base:Heap) (CX:pC) (k:Nat) (x:Str) (ps:List Str) (sp:Sp):Prop where
 ex:∃(f:Addr) (fd:FuncData),mg x=some (.ref f)/\PySem.W.keepIn K (.ref f)=true/\Binds K fd ps []/\cG P w K mg base CX k f fd ps sp
section
variable {P:Program} {w:World} {K:Og} {mg:Str->Option Value} {base:Heap}
theorem HasFn.ok{ps:List Str}(F:HasFn K mg x st ps)(S:ay N ps (ae st))(len:∀vs H Q E,sp vs H Q E->vs.length=ps.length)
  (hbody:∀(f:Addr) (cdv:Value) (A:Around) (outer:List Env) (s:Shared) (H:Hp) (vs:List V) (Q:VK) (E:XK),bI k (A.deeper (envOfC x (ae st) s.heap.objs.size f cdv))->sp vs H Q E ->
   ∃t,rN (fT bq P w K mg base N x (ae st) f cdv A outer s H E).qd (aU st) t/\t {nx:=λ_ H'=>Q .aT H',rt:=Q} (start N vs) H):aq P w K mg base bq (k+1) x ps sp:=by
 obtain⟨f,fd,F1,b,m⟩:=F.ex;exact⟨f,fd,m,F1.kp,b,F1.ok S len λcdv A outer s H vs Q E hr h=>hbody f cdv A outer s H vs Q E hr h⟩
end
section
variable {X:Cx} {CX:pC} {k:Nat} {ps:List Str} {sp:Sp} {E:XK} {x:Str} {p pos:Pos} {e:Expr} {es:List Expr} {t:TA}
theorem Fh(F:aq X.prog X.w X.K X.mg X.base CX k x ps sp)(hr:bI k X.A)(hg:Gl X x)(hx:Passes CX X E)(ha:PA X (e::es) t)(h1:autoParam (gK e=true) ℜ0)(h2:autoParam (es.all gK=true) ℜ0)(hdb:autoParam ((x ==("__debug__":Str))=false) ℜ1):
  PE X (.Call (.Name x p) (e::es) [] pos) (i7 sp [] E t):=by
 obtain⟨f,fd,m,kp,b,G⟩:=F.ex;exact Bu G hr hg m kp b .nil hx ha hdb (dA h1) (plain_any h2)
theorem C7(F:aq X.prog X.w X.K X.mg X.base CX k x ps sp)(hr:bI k X.A)(hg:Gl X x)(hx:Passes CX X E)(hdb:autoParam ((x ==("__debug__":Str))=false) ℜ1):
  PE X (.Call (.Name x p) [] [] pos) (i7 sp [] E jq):=by
 obtain⟨f,fd,m,kp,b,G⟩:=F.ex;exact yY G hr hg m kp b .nil hx hdb
end
noncomputable def Ds:Expr->Option V
 |.Constant (.int i) _ _=>some (.int i)
 |.Constant (.str x) _ _=>some (.str x)
 |.Constant (.bool b) _ _=>some (.bl b)
 |.Constant .none _ _=>some .aT
 |_=>none
noncomputable def tJ:List Expr->Option (List V)
 |[]=>some []
 |e::es=>match Ds e,tJ es with
  |some v,some vs=>some (v::vs)
  |_,_=>none
noncomputable def tK(vs:List V):TA:=λ_ H Q=>Q vs H
theorem CS{v:V}(h:Ds e=some v):PE X e (tC v)/\∀es,starEach (e::es) X.env=(false,eval e X.env)::starEach es X.env:=by
 unfold Ds at h
 split at h
 ·cases h;exact⟨xM,λ_=>rfl⟩
 ·cases h;exact⟨xI,λ_=>rfl⟩
 ·cases h;exact⟨Ci,λ_=>rfl⟩
 ·cases h;exact⟨xw,λ_=>rfl⟩
 ·cases h
theorem ma{X:Cx}:∀{es:List Expr} {vs:List V},tJ es=some vs->PA X es (tK vs)
 |[],vs,h=>by cases h;exact wA
 |e::es,vs,h=>by
  unfold tJ at h
  split at h
  ·rename_i v ws e1 e2;cases h;have p:=CS (X:=X) e1;exact tL (te:=tC v) (t:=tK ws) p.1 (ma e2) (p.2 es)
  ·cases h
noncomputable def sq(H:Hp)(p:Addr):Option (Bool×List V):=match H p with
 |some (.lst xs)=>some (true,xs)
 |some (.tup xs)=>some (false,xs)
 |some (.iY _ (.lst xs))=>some (true,xs)
 |some (.iY _ (.tup xs))=>some (false,xs)
 |_=>none
theorem gr(h:sq H p=some (true,xs)):ck K H p xs:=by
 unfold sq at h
 split at h
 ·rename_i e;cases h;exact .inl (.inl e)
 ·cases h
 ·rename_i e;cases h;exact .inl (.inr ⟨_,e⟩)
 ·cases h
 ·cases h
theorem fV(h:sq H p=some (false,xs)):bu K H p xs:=by
 unfold sq at h
 split at h
 ·cases h
 ·rename_i e;cases h;exact .inl (.inl e)
 ·cases h
 ·rename_i e;cases h;exact .inl (.inr ⟨_,e⟩)
 ·cases h
theorem Ex{b:Bool}(h:sq H p=some (b,xs)):ck K H p xs\/bu K H p xs:=by
 cases b with
 |true=>exact .inl (gr h)
 |false=>exact .inr (fV h)
theorem au(h:H p=some (.lst xs)):sq H p=some (true,xs):=by unfold sq;rw[h]
theorem ax(h:H p=some (.tup xs)):sq H p=some (false,xs):=by unfold sq;rw[h]
section
variable {X:Cx}
noncomputable def vv(K:Og):R2:=λx y H Q=>match x,y with
 |.int i,.int j=>Q (.int (i+j)) H
 |.str i,.str j=>i.length+j.length<=sizeLine/\Q (.str (i++j)) H
 |.ref a,.ref b=>match H a,H b with
  |some (.lst xs),some (.lst ys)=>xs.length+ys.length<=sizeLine/\∀p,H p=none->Q (.ref p) (upd H p (.lst (xs++ys)))
  |some (.tup xs),some (.tup ys)=>xs≠[]/\ys≠[]/\xs.length+ys.length<=sizeLine/\∀p,H p=none->Q (.ref p) (upd H p (.tup (xs++ys)))
  |_,_=>False
 |_,_=>False
theorem Bb:cI X (binaryOp .Add) (vv X.K):=by
 intro pins s σ H x y v u Q I rx ry h
 cases x with
 |int i=>cases y with
  |int j=>exact zk pins s σ H _ _ v u Q I rx ry ⟨i,j,rfl,rfl,h⟩
  |_=>exact (show False from h).elim
 |str i=>cases y with
  |str j=>exact jD pins s σ H _ _ v u Q I rx ry ⟨i,j,rfl,rfl,h.1,h.2⟩
  |_=>exact (show False from h).elim
 |ref a=>cases y with
  |ref b =>
   unfold vv at h;simp only at h
   split at h
   ·rename_i xs ys e1 e2;exact zh pins s σ H _ _ v u Q I rx ry ⟨a,b,xs,ys,rfl,rfl,e1,e2,h.1,h.2⟩
   ·rename_i xs ys e1 e2;obtain⟨h1,h2,h3,h4⟩:=h;exact rZ pins s σ H _ _ v u Q I rx ry ⟨a,b,xs,ys,rfl,rfl,bu.of e1,bu.of e2,h1,h3,λz=>absurd z h2,λ_=>h4⟩
   ·exact h.elim
  |_=>exact (show False from h).elim
 |_=>exact (show False from h).elim
noncomputable def DH:R2:=λx y H Q=>match x,y with
 |.int i,.int j=>u7 i j/\Q (.int (i*j)) H
 |.ref a,.int j=>Gu (.ref a) (.int j) H Q
 |_,_=>False
theorem bR:cI X (binaryOp .Mult) DH:=by
 intro pins s σ H x y v u Q I rx ry h
 cases x with
 |int i=>cases y with
  |int j=>exact Dq pins s σ H _ _ v u Q I rx ry ⟨i,j,rfl,rfl,h.1,h.2⟩
  |_=>exact (show False from h).elim
 |ref a=>cases y with
  |int j=>exact D_ pins s σ H _ _ v u Q I rx ry h
  |_=>exact (show False from h).elim
 |_=>exact (show False from h).elim
theorem bB:cI X (compareOp .Eq) BR:=Cb
theorem rg:cI X (compareOp .NotEq) GV:=Co
noncomputable def EJ(K:Og)(neg:Bool):R2:=λx y H Q=>match y with
 |.str j=>∃i,x=.str i/\Q (.bl (if neg then !(!(Builtin.Str.occurrences j i 0 j.length 1).isEmpty) else !(Builtin.Str.occurrences j i 0 j.length 1).isEmpty)) H
 |.ref p=>match sq H p with
  |some (_,xs)=>cK x=true/\xs.all cK=true/\Q (.bl (if neg then !hJ x xs else hJ x xs)) H
  |none=>∃xs,bu K H p xs/\cK x=true/\xs.all cK=true/\Q (.bl (if neg then !hJ x xs else hJ x xs)) H
 |_=>False
theorem yN{neg:Bool}{x:V}{Q:VK}(h:EJ K neg x (.ref p) H Q):Hw K neg x (.ref p) H Q:=by
 unfold EJ at h;simp only at h
 split at h
 ·rename_i xs e;exact⟨p,_,rfl,Ex e,h.1,h.2.1,h.2.2⟩
 ·obtain⟨xs,hq,h⟩:=h;exact⟨p,xs,rfl,.inr hq,h.1,h.2.1,h.2.2⟩
theorem CY(hu:k<cLine):cI X (compareOp .In) (EJ X.K false):=by
 intro pins s σ H x y v u Q I rx ry h
 match y,h with
 |.str j,h =>
  obtain⟨i,rfl,h'⟩:=h;exact vj pins s σ H _ _ v u Q I rx ry ⟨i,j,rfl,rfl,h'⟩
 |.ref p,h=>exact lL pins s σ H _ _ v u Q I rx ry (yN h)
theorem uu(hu:k<cLine):cI X (compareOp .NotIn) (EJ X.K true):=by
 intro pins s σ H x y v u Q I rx ry h
 match y,h with
 |.str j,h =>
  obtain⟨i,rfl,h'⟩:=h;exact mT pins s σ H _ _ v u Q I rx ry ⟨i,j,rfl,rfl,h'⟩
 |.ref p,h=>exact mR pins s σ H _ _ v u Q I rx ry (yN h)
noncomputable def CT(K:Og):R2:=λx y H Q=>match x,y with
 |.str z,.int i=>z.length<=sizeLine/\(match bU z.cps.toList i with|some c=>Q (.str ⟨#[c]⟩) H|none=>False)
 |.ref p,.int i=>match sq H p with
  |some (_,xs)=>(match bU xs i with|some v=>Q v H|none=>False)
  |none=>∃xs v,bu K H p xs/\bU xs i=some v/\Q v H
 |_,_=>False
theorem IE(hu:k<cLine):um X (CT X.K):=by
 intro value slice pins s σ H x y v u Q I rx ry h hs;refine DC value slice pins s σ H x y v u Q I rx ry ?_ hs
 cases x with
 |str z=>cases y with
  |int i =>
   obtain⟨hz,h⟩:=h
   split at h
   ·rename_i c e;exact .inr (.inr ⟨z,i,c,rfl,rfl,hz,e,h⟩)
   ·exact h.elim
  |_=>exact (show False from h).elim
 |ref p=>cases y with
  |int i =>
   unfold CT at h;simp only at h
   split at h
   ·rename_i b xs e
    split at h
    ·rename_i w' e'
     cases b with
     |true=>exact .inl ⟨p,xs,i,w',rfl,rfl,gr e,e',h⟩
     |false=>exact .inr (.inl ⟨p,xs,i,w',rfl,rfl,fV e,e',h⟩)
    ·exact h.elim
   ·obtain⟨xs,w',hq,e',h⟩:=h;exact .inr (.inl ⟨p,xs,i,w',rfl,rfl,hq,e',h⟩)
  |_=>exact (show False from h).elim
 |_=>exact (show False from h).elim
noncomputable def Hj(K:Og):V->Option Int->Option Int->Hp->VK->Prop:=λx lo hi H Q=>match x with
 |.ref p=>match sq H p with
  |some (true,xs)=>∀q,H q=none->Q (.ref q) (upd H q (.lst (eW xs lo hi)))
  |some (false,xs)=>uC K (.ref p) lo hi H Q
  |none=>uC K (.ref p) lo hi H Q
 |_=>False
theorem A0:sJ X (Hj X.K):=by
 intro pins s σ H x v vl vu lo hi sl Q I rx hs pl pu h
 match x,h with
 |.ref p,h =>
  unfold Hj at h;simp only at h
  split at h
  ·rename_i xs e;exact mD pins s σ H _ v vl vu lo hi sl Q I rx hs pl pu ⟨p,xs,rfl,gr e,h⟩
  ·exact qO pins s σ H _ v vl vu lo hi sl Q I rx hs pl pu h
  ·exact qO pins s σ H _ v vl vu lo hi sl Q I rx hs pl pu h
noncomputable def Bs:V->V->V->Hp->(Hp->Prop)->Prop:=λo i v H Q=>match o,i with
 |.ref p,.int k=>match H p with
  |some (.lst xs)=>(match j0 xs.length k with|some j=>Q (upd H p (.lst (xs.set j v)))|none=>False)
  |_=>False
 |_,_=>False
theorem uset:C4 X Bs:=by
 intro pins s σ H o i v ov iv u Q I ro ri rv h
 cases o with
 |ref p=>cases i with
  |int k =>
   unfold Bs at h;simp only at h
   split at h
   ·rename_i xs e
    split at h
    ·rename_i j e';exact set_list pins s σ H _ _ v ov iv u Q I ro ri rv ⟨p,xs,k,j,rfl,rfl,e,e',h⟩
    ·exact h.elim
   ·exact h.elim
  |_=>exact (show False from h).elim
 |_=>exact (show False from h).elim
noncomputable def yE(K:Og):List V->Hp->VK->Prop:=λxs H Q=>match xs with
 |[.str y]=>y.length<=sizeLine/\Q (.int y.length) H
 |[.ref p]=>match sq H p with
  |some (_,ys)=>Q (.int ys.length) H
  |none=>∃ys,bu K H p ys/\Q (.int ys.length) H
 |_=>False
theorem uO:bD X (.builtin "len") (yE X.K):=by
 intro pins s σ H xs us Q I r h;rcases xs with _|⟨x,_|⟨y,xs⟩⟩
 ·exact (show False from h).elim
 rotate_left
 ·cases x<;>exact (show False from h).elim
 cases x with
 |str y=>exact ik pins s σ H _ us Q I r ⟨.str y,_,rfl,⟨h.1,rfl⟩,h.2⟩
 |ref p =>
  unfold yE at h;simp only at h
  split at h
  ·rename_i b ys e;refine ik pins s σ H _ us Q I r ⟨.ref p,ys.length,rfl,?_,h⟩
   cases b with
   |true=>exact .inl ⟨ys,gr e,rfl⟩
   |false=>exact .inr ⟨ys,fV e,rfl⟩
  ·obtain⟨ys,hq,h⟩:=h;exact ik pins s σ H _ us Q I r ⟨.ref p,ys.length,rfl,.inr ⟨ys,hq,rfl⟩,h⟩
 |_=>exact (show False from h).elim
noncomputable def Gr:List V->Hp->VK->Prop:=λxs H Q=>match xs with
 |[.int i,.int j]=>Q (.int (if j<i then j else i)) H
 |_=>False
theorem mm(hc:X.calm=true):bD X (.builtin "min") Gr:=by
 intro pins s σ H xs us Q I r h;rcases xs with _|⟨x,_|⟨y,_|⟨z,xs⟩⟩⟩
 ·exact (show False from h).elim
 ·cases x<;>exact (show False from h).elim
 ·cases x with
  |int i=>cases y with
   |int j=>exact vt hc pins s σ H _ us Q I r ⟨i,j,rfl,h⟩
   |_=>exact (show False from h).elim
  |_=>exact (show False from h).elim
 ·cases x with
  |int i=>cases y<;>exact (show False from h).elim
  |_=>exact (show False from h).elim
noncomputable def FY:List V->Hp->VK->Prop:=λxs H Q=>match xs with
 |[.int i,.int j]=>Q (.int (if j > i then j else i)) H
 |_=>False
theorem uT(hc:X.calm=true):bD X (.builtin "max") FY:=by
 intro pins s σ H xs us Q I r h;rcases xs with _|⟨x,_|⟨y,_|⟨z,zs⟩⟩⟩
 ·exact (show False from h).elim
 ·cases x<;>exact (show False from h).elim
 ·cases x with
  |int i=>cases y with
   |int j=>exact vo hc pins s σ H _ us Q I r ⟨i,j,rfl,h⟩
   |_=>exact (show False from h).elim
  |_=>exact (show False from h).elim
 ·cases x<;>first|exact (show False from h).elim | (cases y<;>exact (show False from h).elim)
noncomputable def nM(K:Og):List V->Hp->VK->Prop:=λxs H Q=>match xs with
 |[.ref p]=>match sq H p with
  |some (true,ys)=>∀l,H l=none->Q (.ref l) (upd H l (.tup ys))
  |some (false,_)=>Q (.ref p) H
  |none=>∃ys,bu K H p ys/\Q (.ref p) H
 |_=>False
theorem pe:bD X (.type "tuple") (nM X.K):=by
 intro pins s σ H xs us Q I r h;rcases xs with _|⟨x,_|⟨y,xs⟩⟩
 ·exact (show False from h).elim
 rotate_left
 ·cases x<;>exact (show False from h).elim
 cases x with
 |ref p =>
  unfold nM at h;simp only at h
  split at h
  ·rename_i ys e;exact eM pins s σ H _ us Q I r ⟨p,ys,rfl,.inl ⟨gr e,h⟩⟩
  ·rename_i ys e;exact eM pins s σ H _ us Q I r ⟨p,ys,rfl,.inr ⟨fV e,h⟩⟩
  ·obtain⟨ys,hq,h⟩:=h;exact eM pins s σ H _ us Q I r ⟨p,ys,rfl,.inr ⟨hq,h⟩⟩
 |_=>exact (show False from h).elim
noncomputable def Hg:List V->Hp->VK->Prop:=λxs H Q=>match xs with
 |[.int i]=>Q (.int i) H
 |[.bl k]=>Q (.int (if k=true then 1 else 0)) H
 |_=>False
theorem lR:bD X (.type "int") Hg:=by
 intro pins s σ H xs us Q I r h;rcases xs with _|⟨x,_|⟨y,ys⟩⟩
 ·exact (show False from h).elim
 ·cases x with
  |int i=>exact lq pins s σ H _ us Q I r (.inl ⟨i,rfl,h⟩)
  |bl k=>exact lq pins s σ H _ us Q I r (.inr ⟨k,rfl,h⟩)
  |_=>exact (show False from h).elim
 ·cases x<;>exact (show False from h).elim
theorem uK(hc:X.calm=true):bD X (.builtin "sum") (λxs H Q=>∃(p:Addr) (ns:List Int),xs=[.ref p]/\ck X.K H p (ns.map V.int)/\Q (.int ns.sum) H):=by
 intro pins s σ H xs us Q I r h;obtain⟨p,ns,rfl,hq,q⟩:=h;obtain⟨u,rfl,ru⟩:=vals1 r;cases ru;obtain⟨its,rv,pl,hz⟩:=I.list hq;have hi:=intsAre_of rv;obtain⟨xs,hx⟩:=hi.allInts.items;have hl':s.heap.IsList p (intItems xs):=by rw[<- hx];exact pl.isList
 refine sum_intListG (I.ok.hd hc) hl' λh' tk t' hk=>?_;have e1:ns=xs.toList.map (·.1):=by rw[<- nums_intItems,<- hx];exact hi.numsOf.symm
 have e2:preSum (numAt xs) xs.size=ns.sum:=by rw[preSum_eq,JR (by simp),e1]
 rw[e2];exact⟨.int ns.sum,H,I.kept hk,⟨_,rfl⟩,q⟩
noncomputable def C1(H:Hp):V->Option String
 |.aT=>some "NoneType"
 |.bl _=>some "bool"
 |.int _=>some "int"
 |.str _=>some "str"
 |.ref a=>match H a with
  |some (.lst _)=>some "list"
  |some (.tup _)=>some "tuple"
  |some (.dK _)=>some "dict"
  |_=>none
 |_=>none
theorem E8{x:V}(h:C1 H x=some t):gW K H x (.type t):=by
 unfold C1 at h
 split at h
 ·cases h;exact .aT
 ·cases h;exact .bl _
 ·cases h;exact .int _
 ·cases h;exact .str _
 ·split at h
  ·rename_i e;cases h;exact .lst e
  ·rename_i e;cases h;exact .tup e
  ·rename_i e;cases h;exact .dK e
  ·cases h
 ·cases h
noncomputable def uN(t c:String):Bool:=decide (t=c) || (t == "bool" && c == "int")
theorem ya{c:String}(ht:t∈["NoneType","bool","int","str","list","tuple","dict"])(hc:c∈["bool","int","str","list","tuple","dict"]):PySem.W.kitOne K (.type t) (.type c)=some (uN t c):=by
 simp only[IX,Js,JT] at ht hc;rcases ht with rfl|rfl|rfl|rfl|rfl|rfl|rfl<;>rcases hc with rfl|rfl|rfl|rfl|rfl|rfl<;>rfl
theorem Dj{x:V}(h:C1 H x=some t):t∈["NoneType","bool","int","str","list","tuple","dict"]:=by
 unfold C1 at h
 split at h
 ·cases h;decide
 ·cases h;decide
 ·cases h;decide
 ·cases h;decide
 ·split at h
  ·cases h;decide
  ·cases h;decide
  ·cases h;decide
  ·cases h
 ·cases h
noncomputable def EA(K:Og):List V->Hp->VK->Prop:=λxs H Q=>match xs with
 |[x,.ty T]=>T∈["bool","int","str","list","tuple","dict"]/\match C1 H x with
  |some t=>Q (.bl (uN t T)) H
  |none=>∃t b,gW K H x t/\PySem.W.kitOne K t (.type T)=some b/\Q (.bl b) H
 |_=>False
theorem u0:bD X (.builtin "isinstance") (EA X.K):=by
 intro pins s σ H xs us Q I r h;rcases xs with _|⟨x,_|⟨y,_|⟨z,xs⟩⟩⟩
 ·exact (show False from h).elim
 ·exact (show False from h).elim
 rotate_left
 ·cases y<;>exact (show False from h).elim
 cases y with
 |ty T =>
  obtain⟨u,w',rfl,r1,r2⟩:=vals2 r;cases r2;obtain⟨hT,h⟩:=h
  split at h
  ·rename_i t e;exact mr I r1 (E8 e) (ya (Dj e) hT) λtk=>⟨.bl _,H,I.tok _,rfl,h⟩
  ·obtain⟨t,b,ty,k,q⟩:=h;exact mr I r1 ty k λtk=>⟨.bl b,H,I.tok _,rfl,q⟩
 |_=>exact (show False from h).elim
theorem CL{T:String}{pos:Pos}(hg:Gl X x)(hm:X.mg x=none)(hv:bootBuiltins x=some (.type T))(hn:autoParam (x≠"__name__") ℜ1)(hd:autoParam ((x ==("__debug__":Str))=false) ℜ1):PE X (.Name x pos) (tC (.ty T)):=zR hg hm hv rfl hn hd
end
section
variable {X:Cx} {e:Expr} {te:TE}
theorem tu(p:Nat->Bool):∀(l:List Nat),l.drop (l.takeWhile p).length=l.dropWhile p
 |[]=>rfl
 |x::l=>by
  by_cases h:p x
  ·simp[MK,LH,h,tu p l]
  ·simp[MK,LH,h]
end
open AutoSeq1 (wpAny_loadPart')
section
variable {prog:Program} {w:World} {A:Around} {E:Value->Shared->Prop} {s:Shared}
theorem js{l:Addr}{x:Value}(hit:s.heap.IsTupleIter it l i)(hl:s.heap.IsTuple l items)(hx:items[i]?=some x)
  (hQ:∀h',h'.IsTupleIter it l (i+1)->Heap.SameBut it s.heap h'->Q x {s with heap:=h'}):wpAny (model prog w) A (Builtin.SmallTypes.nextOf (.ref it)) Q E s:=by
 obtain⟨o,ho,hc,hd⟩:=id hit;obtain⟨ol,hol,_,nl,hdl⟩:=hl;unfold Builtin.SmallTypes.nextOf;refine IK (JM (name:=Str.ofString "__next__") hit.typeIs KG (JS KG hit.typeIs MY ?_ (MQ _)));show wpAny _ _ (field (.ref it) 0 >>= _) _ _ s;refine IK (Lo ho hd (x:=.ref l) rfl ?_);show wpAny _ _ (if (Value.ref l == Value.none)=true then _ else _) _ _ s
 rw[IT (show ¬ ((Value.ref l == Value.none)=true) from Jb)];show wpAny _ _ (field (.ref it) 1 >>= _) _ _ s;refine IK (Lo ho hd (x:=.int i 0) rfl ?_);show wpAny _ _ (seqItems? (.ref l) >>= _) _ _ s;refine IK (Ly hol hdl ?_);simp only[Jw,hx];refine IK (MR ho hd (by simp) (Ja ⟨x,rfl,Ja (hQ _ ?_ (JZ ..))⟩))
 exact⟨_,Lv _ ho (Obj.isFreed_of_fields (LP hd _)),(Obj.cls_mapFields ..).trans hc,by rw[LP hd];simp[rawInt]⟩
theorem jL{l:Addr}(hh:A.handled=none)(hit:s.heap.IsTupleIter it l i)(hl:s.heap.IsTuple l items)(hx:items[i]?=none)
  (hE:∀h' e,Heap.ExtBut it s.heap h'->(∃o,h'.get? e=some o/\o.cls=.type "StopIteration")->E (.ref e) {s with heap:=h'}):wpAny (model prog w) A (Builtin.SmallTypes.nextOf (.ref it)) Q E s:=by
 obtain⟨o,ho,hc,hd⟩:=id hit;obtain⟨ol,hol,_,nl,hdl⟩:=hl;unfold Builtin.SmallTypes.nextOf;refine IK (JM (name:=Str.ofString "__next__") hit.typeIs KG (JS KG hit.typeIs MY ?_ (MQ _)));show wpAny _ _ (field (.ref it) 0 >>= _) _ _ s;refine IK (Lo ho hd (x:=.ref l) rfl ?_);show wpAny _ _ (if (Value.ref l == Value.none)=true then _ else _) _ _ s
 rw[IT (show ¬ ((Value.ref l == Value.none)=true) from Jb)];show wpAny _ _ (field (.ref it) 1 >>= _) _ _ s;refine IK (Lo ho hd (x:=.int i 0) rfl ?_);show wpAny _ _ (seqItems? (.ref l) >>= _) _ _ s;refine IK (Ly hol hdl ?_);simp only[Jw,hx];refine IK (Nh (IK (MR ho hd (by simp) ?_)))
 show wpAny _ _ (newExc (.type "StopIteration") [] >>= _) _ _ _;refine IK ?_;simp only[newExc,newTuple];refine IK (Km ?_ (by size_fits))
 refine IK (m:=firstArgMember _ _) (wpAny_of_eq (a:=Value.none) (by first|rfl | (simp only[firstArgMember];rfl)) ?_)
 refine Km ?_ (by size_fits)
 simp only[raiseNew];refine IK (wpAny_handled ?_)
 first|rw[show A.in1.handled=none from hh]|rw[hh]
 refine IK (Ja (wpAny_throw ?_));exact hE _ _ (((JZ ..).extBut.push _).push _) ⟨_,Jf _ rfl,rfl⟩
theorem iK(hh:A.handled=none)(it l:Addr)(hne:l≠it)(items:Array Value):
  Draws prog w A it [it,l] items.size (λi v=>items[i]?=some v) (λi h=>h.IsTupleIter it l i/\h.IsTuple l items) where
 live:=λ_ _ st=>let ⟨o,ho,_⟩:=st.1;⟨o,ho⟩
 frame:=λ_ _ _ st hk=>⟨let ⟨o,e,r⟩:=st.1;⟨o,hk it (by simp) o e,r⟩,let ⟨o,e,r⟩:=st.2;⟨o,hk l (by simp) o e,r⟩⟩
 item:=λi s Q E hi st hQ=>by
  refine js st.1 st.2 (x:=items[i]) (by simp[hi]) λh' hit' hs'=>?_
  exact hQ _ h' s.toks (by simp[hi]) ⟨hit',st.2.extBut hs'.extBut hne⟩ hs'
 done:=λs Q E st hE=>jL hh st.1 st.2 (by simp) hE
theorem j_(l:Addr)(items:Array Value)(n:Nat)(dct:Option Addr)(sl:Array (Option Value)):
  Meets (Builtin.«enumerate.__new__» ⟨[.type "enumerate",.ref l],[]⟩) (λ_ R s=>s.heap.get? l=some {cls:=.type "tuple",dict:=dct,data:=.seq items n,slots:=sl} /\
   R (.ok (.ret (.ref (s.heap.push {cls:=.type "tuple_iterator",data:=.fields #[.ref l,.int 0 0]}).objs.size)))
    {s with heap:=(s.heap.push {cls:=.type "tuple_iterator",data:=.fields #[.ref l,.int 0 0]}).push {cls:=.type "enumerate",data:=.fields #[.none,.bool false,.ref s.heap.objs.size,rawInt 0,.none,.none]}}):=
 .of_wp λprog w A R s h=>by
  obtain⟨hp,g,d,tk,os⟩:=s;obtain⟨hl,h⟩:=h;have hsub:=sub_enumerate;have hL:Heap.IsTuple (Shared.heap ⟨hp,g,d,tk,os⟩) l items:=⟨_,hl,rfl,n,rfl⟩;wp_walk using N8 hl;refine wpAny_stack_any λst=>Ja ?_;split
  ·rename_i c _ _ _ _ _
   cases (c == Value.type "enumerate")<;>(wp_walk using N8 hl,Lh hL;exact⟨_,rfl,h⟩)
  ·wp_walk using N8 hl,Lh hL;exact⟨_,rfl,h⟩
theorem kX{l:Addr}(hL:s.heap.IsTuple l items)
  (h:∀h',IsEnum h' (s.heap.objs.size+1) s.heap.objs.size 0 .none->h'.IsTupleIter s.heap.objs.size l 0->h'.objs.size=s.heap.objs.size+2 ->
   (∀b o,s.heap.get? b=some o->h'.get? b=some o)->Q (.ref (s.heap.objs.size+1)) {s with heap:=h'}) :
  wpAny (model prog w) A (call (.type "enumerate") [.ref l]) Q E s:=by
 obtain⟨⟨c,dct,dt,sl⟩,hl,hc,n,hd⟩:=hL
 replace hc:c=.type "tuple":=hc
 replace hd:dt=.seq items n:=hd
 subst hc hd;refine Od F.called_enumerate (by decide) (F.typeCall_enumerate_1 _) (F.newCall_enumerate_1 _) (λobj=>F.args_object_init_2 obj _) F.entry_enumerate_new (j_ l items n dct sl) ⟨hl,?_⟩
 have hz:(s.heap.push {cls:=.type "tuple_iterator",data:=.fields #[.ref l,.int 0 0]}).objs.size=s.heap.objs.size+1:=JY ..;show _/\_;rw[hz];have he:IsEnum ((s.heap.push {cls:=.type "tuple_iterator",data:=.fields #[.ref l,.int 0 0]}).push {cls:=.type "enumerate",data:=.fields #[.none,.bool false,.ref s.heap.objs.size,rawInt 0,.none,.none]}) (s.heap.objs.size+1) s.heap.objs.size 0 .none:=by
  have:=Jf (s.heap.push {cls:=.type "tuple_iterator",data:=.fields #[.ref l,.int 0 0]}) (o:={cls:=.type "enumerate",data:=.fields #[.none,.bool false,.ref s.heap.objs.size,rawInt 0,.none,.none]}) rfl;rw[hz] at this;exact this
 refine⟨⟨_,he,rfl⟩,h _ he ⟨_,IM _ (Jf _ rfl),rfl,rfl⟩ (by rw[JY,hz]) λb o x=>IM _ (IM _ x)⟩
end
section
variable {X:Cx} {pins:List (Addr×Obj)} {σ:St} {H:Hp} {s:Shared} {h':Heap}
theorem Inv.turns{t':Nat}(I:Inv X pins σ H s)(hf:∀b∈fp,la X pins H b)(k:∀b o,b∉fp->s.heap.get? b=some o->h'.get? b=some o):Inv X pins σ H {s with heap:=h',toks:=t'}:=by
 have nf:∀b u,H b=some u->b∉fp:=λb u e z=>by rw[(hf b z).1] at e;cases e
 refine I.step (g':=s.gens) (d':=s.drawn) (ch:=fp) (λb hb=>?_) (λb o _ _ hc e _=>k b o hc e) (λb o _ _ hc e _=>⟨o.slots,k b o hc e⟩) (λ_ _ _ _ n=>n)
  (λb o hc e=>⟨o,k b o hc e⟩) (λ_ _ e=>e) (λ_ _ _ e=>e) (λb ps e=>⟨#[],by rw[e];simp⟩) (λm hm=>?_) (λb u e=>?_) I.bare
 ·obtain⟨_,g1,g2,g3,g4,g5⟩:=hf b hb;exact⟨g3,g1,g4,g5⟩
 ·obtain⟨o,es,ep,ho,r⟩:=hm;exact⟨o,es,ep,k _ o (λz=>(hf _ z).2.1 rfl) ho,r⟩
 ·refine (I.bc b u e).mU (λc v hc q=>k c v ?_ q) (λ_ q=>q) (λ_ _ q=>q) λ_ _ _ q=>q;rcases hc with z|z
  ·rw[z];exact nf b u e
  ·exact nf c _ z
theorem Inv.rY{t':Nat}(I:Inv X pins σ H s)(hf:∀b∈fp,la X pins H b)(hp:s.heap.objs.size<=p)(k:∀b o,b∉fp->s.heap.get? b=some o->h'.get? b=some o)
  (new:b6 X.prog X.w (upd H p o) h' p o):Inv X pins σ (upd H p o) {s with heap:=h',toks:=t'}:=by
 have nf:∀b u,H b=some u->b∉fp:=λb u e z=>by rw[(hf b z).1] at e;cases e
 have fr:H p=none:=I.bc.fresh hp;have np:∀b u,H b=some u->b≠p:=λb u e=>ao e fr;have ne:∀b o,s.heap.get? b=some o->b≠p:=λb o e z=>by rw[z] at e;exact absurd (Ju (Jh e) hp) (Kf _)
 refine I.step (g':=s.gens) (d':=s.drawn) (ch:=fp) (λb hb=>?_) (λb o _ _ hc e _=>k b o hc e) (λb o _ _ hc e _=>⟨o.slots,k b o hc e⟩) (λb o _ e n=>by rw[af (ne b o e)];exact n)
  (λb o hc e=>⟨o,k b o hc e⟩) (λb xs e=>by rw[af (np b _ e)];exact e) (λb o u e=>by rw[af (np b _ e)];exact e) (λb ps e=>⟨#[],by rw[af (np b _ e),e];simp⟩) (λm hm=>?_) (λb u e=>?_) I.bare
 ·obtain⟨_,g1,g2,g3,g4,g5⟩:=hf b hb;exact⟨g3,g1,g4,g5⟩
 ·obtain⟨o,es,ep,ho,r⟩:=hm;exact⟨o,es,ep,k _ o (λz=>(hf _ z).2.1 rfl) ho,r⟩
 ·by_cases hb:b=p
  ·subst hb;rw[aa] at e;cases e;exact new
  ·rw[af hb] at e;refine (I.bc b u e).mU (λc v hc q=>k c v ?_ q) (λc q=>by rw[af (np c _ q)];exact q) (λc xs q=>by rw[af (np c _ q)];exact q) λc _ _ q=>by rw[af (np c _ q)];exact q
   rcases hc with z|z
   ·rw[z];exact nf b u e
   ·exact nf c _ z
end
noncomputable def HJ(K:Og)(a:Addr):Nat->Hp->V->Prop:=λi H x=>∃xs,bu K H a xs/\xs[i]?=some x
noncomputable def HK(K:Og)(a:Addr):Nat->Hp->Prop:=λi H=>∃xs,bu K H a xs/\xs.length=i
noncomputable def yD(K:Og)(a:Addr):It:=
 ⟨λi H=>∃x,HJ K a i H x,λi H x H'=>∃p y,(∀xs,bu K H a xs->xs[i]?=some y)/\H p=none/\x=.ref p/\H'=upd H p (.tup [.int i,y]),HK K a⟩
theorem qR{tk:Nat}{tp:Pos}(a it e:Addr)(hne:e≠it):Turn P w K (.Tuple es tk tp) (yD K a) [e,it] e (λi h=>(∃old,IsEnum h e it i old)/\h.IsTupleIter it a i) where
 mem:=by simp
 obj:=λi h st b hb=>by
  obtain⟨⟨old,he⟩,o,eo,c,d⟩:=st;rcases IX.mp hb with z|z
  ·subst z;exact⟨_,he,λv z=>by cases z⟩
  ·have z:b=it:=by simpa using z
   subst z;exact⟨o,eo,λv z=>by rw[d] at z;cases z⟩
 keep:=λi h h' st k=>by
  obtain⟨⟨old,he⟩,o,eo,r⟩:=st;exact⟨⟨old,k e (by simp) _ he⟩,o,k it (by simp) o eo,r⟩
 item:=by
  intro X hP hw hK hc i pins s σ H E I hf st hg;subst hP hw hK;obtain⟨x,xs,hq,hx⟩:=hg;obtain⟨⟨old,he⟩,hit⟩:=st;obtain⟨its,rv,p,hz⟩:=I.tuple hq;obtain⟨u,hu,ru⟩:=rv.get hx;obtain⟨g0,g1,g2,g3,g4,g5⟩:=hf e (by simp)
  obtain⟨f0,f1,f2,f3,f4,f5⟩:=hf it (by simp)
  have ht:s.heap.IsTuple a its.toArray:=p;have ha:a≠it:=by
   rintro rfl;obtain⟨o,e1,c1,_⟩:=hit;obtain⟨o',e2,c2,_⟩:=ht;rw[e1] at e2;cases e2;rw[c1] at c2;exact absurd (Value.type.inj c2) (by decide)
  have hea:e≠a:=by
   rintro rfl;obtain⟨o',e2,c2,_⟩:=ht;have e1:s.heap.get? e=some _:=he;rw[e1] at e2;cases e2;exact absurd (Value.type.inj c2) (by decide)
  have hi:i<its.toArray.size:=by
   have:=(IQ.mp hu).1
   simpa using this
  refine wpAny_pyNext_enum_itemD (iK (A:=X.A.in1) (I.ok.hd hc) it a ha its.toArray) he ⟨hit,ht⟩ hi hne (by simp[hne,hea]) λx' h' tk' hP ho hs' hT hsz hk=>?_
  have ex:x'=u:=by
   have hP':its.toArray[i]?=some x':=hP;rw[KD,hu] at hP';exact (Option.some.inj hP').symm
  subst ex;refine⟨.ref s.heap.objs.size,rfl,wpAny_letOwnedTupleGo_enum ho λh2 he2 hs2=>?_⟩;have fr:H s.heap.objs.size=none:=I.bc.fresh (IU _);have hle:e≠s.heap.objs.size:=Jr (Jh he);have hT2:h2.get? s.heap.objs.size=some {cls:=.type "tuple",data:=.seq #[.int i tk',x']}:=(hs2.2 _ (Kp hle)).trans hT;have I2:Inv X pins σ (upd H s.heap.objs.size (.tup [.int i,x])) {s with heap:=h2,toks:=tk'+1}:=by
   refine I.rY (fp:=[e,it]) hf (IU _) (λb o hb eb=>?_) ⟨by show 2<=sizeLine;decide,[.int i tk',x'],.cons ⟨_,rfl⟩ (.cons ru .nil),⟨_,hT2,rfl,_,rfl,rfl⟩⟩
   have n1:b≠e:=λz=>hb (by simp[z])
   have n2:b≠it:=λz=>hb (by simp[z])
   exact (hs2.2 b n1).trans (hk b o n1 n2 eb)
  refine⟨.ref s.heap.objs.size,_,I2,rfl,⟨s.heap.objs.size,x,λys hy=>by rw[I.iM hy hq];exact hx,fr,rfl,rfl⟩,⟨⟨x',?_⟩,?_⟩,λb hb=>?_⟩
  ·have e:(((i+1:Nat)):Int)=(i:Int)+1:=by lia
   rw[e];exact he2
  ·obtain⟨o,e1,r⟩:=hs'.1;exact⟨o,(hs2.2 it (Kp hne)).trans e1,r⟩
  ·have n:b≠s.heap.objs.size:=by
    rcases IX.mp hb with z|z
    ·subst z;exact hle
    ·have z:b=it:=by simpa using z
     subst z;obtain⟨o,e1,_⟩:=hit;exact Jr (Jh e1)
   rw[af n];exact (hf b hb).1
 done:=by
  intro X hP hw hK hc i pins s σ H E I hf st hg;subst hP hw hK;obtain⟨xs,hq,hx⟩:=hg;obtain⟨⟨old,he⟩,hit⟩:=st;obtain⟨its,rv,p,hz⟩:=I.tuple hq;have ht:s.heap.IsTuple a its.toArray:=p;have ha:a≠it:=by
   rintro rfl;obtain⟨o,e1,c1,_⟩:=hit;obtain⟨o',e2,c2,_⟩:=ht;rw[e1] at e2;cases e2;rw[c1] at c2;exact absurd (Value.type.inj c2) (by decide)
  have hl:=rv.length;have hsz:its.toArray.size=i:=by simp;lia
  refine wpAny_pyNext_enum_endD (iK (A:=X.A.in1) (I.ok.hd hc) it a ha its.toArray) he (by rw[hsz];exact⟨hit,ht⟩) λh' eb=>⟨rfl,?_⟩
  exact I.turns (t':=s.toks) hf λb o hb e1=>eb b o (λz=>hb (by simp[z])) e1
 self:=λA i s Q E st h=>by
  obtain⟨⟨old,he⟩,_⟩:=st;exact wpAny_pyIter_enum he h
section
variable {X:Cx} {es:List Expr} {tk:Nat} {tp:Pos}
noncomputable def oQ(K:Og)(ta:TA):TI:=λσ H R=>ta σ H λvs H1=>∃a,vs=[.ref a]/\(∃xs,bu K H1 a xs)/\R (yD K a) H1
theorem AK{ta:TA}{p pos:Pos}(hg:Gl X "enumerate")(hm:X.mg "enumerate"=none)(ha:PA X [e] ta)(h1:autoParam (gK e=true) ℜ0)(hv:autoParam (bootBuiltins "enumerate"=some (.type "enumerate")) ℜ6):
  PI X (.Tuple es tk tp) (.Call (.Name "enumerate" p) [e] [] pos) (oQ X.K ta):=by
 intro pins s σ H R I h;refine Call_ (hW I hg hm hv (K4 (bT (ha pos pins s σ H _ I h) λus s1 hq1=>?_) (dA h1) rfl));obtain⟨vs,H1,I1,r1,q1⟩:=hq1;obtain⟨a,e,⟨xs,hq⟩,q⟩:=q1;subst e;obtain⟨u,rfl,ru⟩:=vals1 r1;cases ru;obtain⟨its,rv,pt,hz⟩:=I1.tuple hq;refine kX (show s1.heap.IsTuple a its.toArray from pt) λh' he hit hsz hk=>?_;refine wpAny_pyIter_enum he ?_;have I2:Inv X pins σ H1 {s1 with heap:=h'}:=I1.kept (t':=s1.toks) hk
 refine⟨s1.heap.objs.size+1,[s1.heap.objs.size+1,s1.heap.objs.size],_,_,H1,rfl,I2,qR a s1.heap.objs.size (s1.heap.objs.size+1) (Kv (Ml _)),⟨⟨_,he⟩,hit⟩,λb hb=>?_,q⟩;have hb':s1.heap.objs.size<=b:=by
  rcases IX.mp hb with z|z
  ·rw[z];exact Kh _
  ·have z:b=s1.heap.objs.size:=by simpa using z
   rw[z];exact IU _
 exact I1.rL hb' (I1.bc.fresh hb')
noncomputable def vL(K:Og)(tl:TE):TI:=λσ H R=>tl σ H λx H1=>match x with
 |.ref a=>match sq H1 a with
  |some (true,_)=>R (ye K a) H1
  |some (false,_)=>R (sP K a) H1
  |none=>(∃xs,bu K H1 a xs)/\R (sP K a) H1
 |_=>False
theorem DT{l:Expr}{tl:TE}(hl:PE X l tl):PI X tg l (vL X.K tl):=by
 intro pins s σ H R I h;refine bT (hl pins s σ H _ I h) λv s1 hq2=>?_;obtain⟨x,H1,I1,r1,q1⟩:=hq2;obtain⟨a,rfl,q⟩:∃a,x=V.ref a/\(((∃xs,ck X.K H1 a xs)/\R (ye X.K a) H1)\/((∃xs,bu X.K H1 a xs)/\R (sP X.K a) H1)):=by
  match x,q1 with
  |.ref a,q1 =>
   simp only at q1
   split at q1
   ·rename_i xs e;exact⟨a,rfl,.inl ⟨⟨xs,gr e⟩,q1⟩⟩
   ·rename_i xs e;exact⟨a,rfl,.inr ⟨⟨xs,fV e⟩,q1⟩⟩
   ·exact⟨a,rfl,.inr q1⟩
 cases r1;rcases q with ⟨⟨xs,hq⟩,q⟩|⟨⟨xs,hq⟩,q⟩
 ·obtain⟨its,rv,p,hz⟩:=I1.list hq;refine LZ p.isList ?_;refine⟨s1.heap.objs.size,[s1.heap.objs.size],_,_,H1,rfl,I1.kept (t':=s1.toks) λb o e=>IM _ e,lB a _,⟨_,Jf _ rfl,rfl,rfl⟩,λb hb=>?_,q⟩;have e:b=s1.heap.objs.size:=by simpa using hb
  subst e;exact I1.rL (IU _) (I1.bc.fresh (IU _))
 ·obtain⟨its,rv,p,hz⟩:=I1.tuple hq;refine Lh (show s1.heap.IsTuple a its.toArray from p) ?_;refine⟨s1.heap.objs.size,[s1.heap.objs.size],_,_,H1,rfl,I1.kept (t':=s1.toks) λb o e=>IM _ e,jU a _,⟨_,Jf _ rfl,rfl,rfl⟩,λb hb=>?_,q⟩;have e:b=s1.heap.objs.size:=by simpa using hb
  subst e;exact I1.rL (IU _) (I1.bc.fresh (IU _))
end
noncomputable def vq(J:It)(g:TG)(tb:TS)(D:Ends)(σ:St)(H:Hp):Prop:=∃W:Nat->Nat->St->Hp->Prop,(∃m,W 0 m σ H)/\∀i m σ H,W i m σ H ->
 (J.stop i H/\D.nx σ H)\/(J.go i H/\∃N:St->Hp->Prop,(∀σ' H',N σ' H'->∃m',m'<m/\W (i+1) m' σ' H')/\∀x H',J.BX i H x H'->g x σ H' λσ2 H2=>tb {D with nx:=N,ct:=N,bk:=D.nx} σ2 H2)
theorem BH(wi:TI)(g:TG)(tb:TS)(D:Ends)(σ:St)(H:Hp):CP wi g tb D σ H=wi σ H λJ H1=>vq J g tb D σ H1:=rfl
noncomputable def mw(J:It)(k:Nat)(g:TG)(tc:TT)(te:TE)(Q:VK)(σ:St)(H1:Hp):Prop:=∀D,H1 D=none ->
 ∃W:Nat->Nat->List V->St->Hp->Prop,(∃m,W 0 m [] (List.replicate k none++σ) (upd H1 D (.lst [])))/\∀i m ys σ' H',W i m ys σ' H'->H' D=some (.lst ys) /\
  ((J.stop i H'/\Q (.ref D) H')\/(J.go i H'/\ys.length<sizeLine/\∀x H2,J.BX i H' x H2->g x σ' H2 λσ3 H3=>tc σ3 H3 λb H4 =>
   if b=true then te σ3 H4 λv H5=>H5 D=some (.lst ys)/\∃m',m'<m/\W (i+1) m' (ys++[v]) σ3 (upd H5 D (.lst (ys++[v])))
   else ∃m',m'<m/\W (i+1) m' ys σ3 H4))
theorem yn(wi:TI)(k:Nat)(g:TG)(tc:TT)(te:TE)(σ:St)(H:Hp)(Q:VK):kg wi k g tc te σ H Q=wi σ H λJ H1=>mw J k g tc te Q σ H1:=rfl
section
variable {K:Og} {g:TG} {tb:TS} {D:Ends} {σ:St} {H:Hp} {te:TE} {Q:VK}
theorem gC(Pv:Nat->St->Hp->Prop)(h0:Pv 0 σ H)(hl:∀i σ H,i<=xs.length->Pv i σ H->ck K H a xs)
  (hs:∀i x σ H,xs[i]?=some x->Pv i σ H->g x σ H λσ2 H2=>tb {D with nx:=Pv (i+1),ct:=Pv (i+1),bk:=D.nx} σ2 H2) (hd:∀σ H,Pv xs.length σ H->D.nx σ H):vq (ye K a) g tb D σ H:=yq Pv h0 hl hs hd
theorem pB(Pv:Nat->St->Hp->Prop)(h0:Pv 0 σ H)(hl:∀i σ H,i<=xs.length->Pv i σ H->bu K H a xs)
  (hs:∀i x σ H,xs[i]?=some x->Pv i σ H->g x σ H λσ2 H2=>tb {D with nx:=Pv (i+1),ct:=Pv (i+1),bk:=D.nx} σ2 H2) (hd:∀σ H,Pv xs.length σ H->D.nx σ H):vq (sP K a) g tb D σ H:=Av Pv h0 hl hs hd
theorem bY{n:Nat}(Pv:Nat->St->Hp->Prop)(h0:Pv 0 σ H)
  (hs:∀i σ H,i<n->Pv i σ H->g (.int (lo+i)) σ H λσ2 H2=>tb {D with nx:=Pv (i+1),ct:=Pv (i+1),bk:=D.nx} σ2 H2) (hd:∀σ H,Pv n σ H->D.nx σ H):vq (Bg lo n) g tb D σ H:=uF Pv h0 hs hd
theorem qK(Pv:Nat->St->Hp->Prop)(h0:Pv 0 σ H)(hl:∀i σ H,i<=xs.length->Pv i σ H->bu K H a xs)
  (hs:∀i x σ H p,xs[i]?=some x->Pv i σ H->H p=none->g (.ref p) σ (upd H p (.tup [.int i,x])) λσ2 H2=>tb {D with nx:=Pv (i+1),ct:=Pv (i+1),bk:=D.nx} σ2 H2) (hd:∀σ H,Pv xs.length σ H->D.nx σ H) :
  vq (yD K a) g tb D σ H:=by
 refine⟨λi m σ H=>m=xs.length-i/\i<=xs.length/\Pv i σ H,⟨xs.length,by simp,Jj _,h0⟩,?_⟩
 rintro i m σ H ⟨rfl,hi,p⟩;have q:=hl i σ H hi p;by_cases hlt:i<xs.length
 ·refine .inr ⟨⟨xs[i],xs,q,by simp[hlt]⟩,Pv (i+1),λσ' H' p'=>⟨xs.length-(i+1),by lia,rfl,hlt,p'⟩,λx H' y=>?_⟩
  obtain⟨b,y,hy,fr,rfl,rfl⟩:=y;exact hs i y σ H b (hy xs q) p fr
 ·have e:i=xs.length:=by lia
  subst e;exact .inl ⟨⟨xs,q,rfl⟩,hd σ H p⟩
theorem oT{n:Nat}(hn:n<=sizeLine)(Pv:Addr->Nat->List V->Hp->Prop)(h0:∀D,H D=none->Pv D 0 [] (upd H D (.lst [])))(hD:∀D i ys H',Pv D i ys H'->H' D=some (.lst ys)/\ys.length=i)
  (hs:∀D i ys H' (R:VK),i<n->Pv D i ys H'->(∀v H5,H5 D=some (.lst ys)->Pv D (i+1) (ys++[v]) (upd H5 D (.lst (ys++[v])))->R v H5)->te (some (.int (lo+i))::σ) H' R) (hd:∀D ys H',Pv D n ys H'->Q (.ref D) H') :
  mw (Bg lo n) 1 (bC 0) gL te Q σ H:=by
 intro D hD0;refine⟨λi m ys σ' H'=>m=n-i/\i<=n/\Pv D i ys H'/\∃o,σ'=o::σ,⟨n,by simp,Jj _,h0 D hD0,none,rfl⟩,?_⟩
 rintro i m ys σ' H' ⟨rfl,hi,p,o,rfl⟩;obtain⟨hDi,hly⟩:=hD _ _ _ _ p;refine⟨hDi,?_⟩;by_cases hlt:i<n
 ·refine .inr ⟨hlt,by lia,λx H2 y=>?_⟩
  obtain⟨rfl,rfl⟩:=y;unfold bC gL;dsimp only;rw[if_pos rfl];exact hs D i ys H2 _ hlt p λv H5 q1 q2=>⟨q1,n-(i+1),by lia,rfl,hlt,q2,_,rfl⟩
 ·have e:i=n:=by lia
  subst e;exact .inl ⟨IU _,hd D ys H' p⟩
theorem cm(hn:xs.length<=sizeLine)(Pv:Addr->Nat->List V->Hp->Prop)(h0:∀D,H D=none->Pv D 0 [] (upd H D (.lst [])))(hD:∀D i ys H',Pv D i ys H'->H' D=some (.lst ys)/\ys.length=i)
  (hl:∀D i ys H',Pv D i ys H'->bu K H' a xs)
  (hs:∀D i ys H' x (R:VK),xs[i]?=some x->Pv D i ys H'->(∀v H5,H5 D=some (.lst ys)->Pv D (i+1) (ys++[v]) (upd H5 D (.lst (ys++[v])))->R v H5)->te (some x::σ) H' R) (hd:∀D ys H',Pv D xs.length ys H'->Q (.ref D) H') :
  mw (sP K a) 1 (bC 0) gL te Q σ H:=by
 intro D hD0;refine⟨λi m ys σ' H'=>m=xs.length-i/\i<=xs.length/\Pv D i ys H'/\∃o,σ'=o::σ,⟨xs.length,by simp,Jj _,h0 D hD0,none,rfl⟩,?_⟩
 rintro i m ys σ' H' ⟨rfl,hi,p,o,rfl⟩;obtain⟨hDi,hly⟩:=hD _ _ _ _ p;have q:=hl _ _ _ _ p;refine⟨hDi,?_⟩;by_cases hlt:i<xs.length
 ·refine .inr ⟨⟨xs,xs[i],q,by simp[hlt]⟩,by lia,λx H2 y=>?_⟩
  obtain⟨rfl,y⟩:=y;unfold bC gL;dsimp only;rw[if_pos rfl];exact hs D i ys H2 x _ (y xs q) p λv H5 q1 q2=>⟨q1,xs.length-(i+1),by lia,rfl,hlt,q2,_,rfl⟩
 ·have e:i=xs.length:=by lia
  subst e;exact .inl ⟨⟨xs,q,IU _⟩,hd D ys H' p⟩
end
namespace Ap
theorem uQ(i:Nat)(σ:St)(H:Hp)(Q:VK):L2.uQ i σ H Q=∃v,σ[i]?=some (some v)/\Q v H:=rfl
theorem tC(v:V)(σ:St)(H:Hp)(Q:VK):L2.tC v σ H Q=Q v H:=rfl
theorem xO(r:R2)(ta tb:TE)(σ:St)(H:Hp)(Q:VK):L2.xO r ta tb σ H Q=ta σ H λx H1=>tb σ H1 λy H2=>r x y H2 Q:=rfl
theorem FG(r:V->Hp->VK->Prop)(ta:TE)(σ:St)(H:Hp)(Q:VK):L2.FG r ta σ H Q=ta σ H λx H1=>r x H1 Q:=rfl
theorem kH(t:TE)(σ:St)(H:Hp)(Q:Bool->Hp->Prop):L2.kH t σ H Q=t σ H λx H'=>∃k,x=.bl k/\Q k H':=rfl
theorem Gb(t:TT)(ta tb:TE)(σ:St)(H:Hp)(Q:VK):L2.Gb t ta tb σ H Q=t σ H λc H1=>if c=true then ta σ H1 Q else tb σ H1 Q:=rfl
theorem ym(t u:TT)(σ:St)(H:Hp)(Q:Bool->Hp->Prop):L2.ym t u σ H Q=t σ H λc H1=>if c=true then u σ H1 Q else Q false H1:=rfl
theorem GW(t u:TT)(σ:St)(H:Hp)(Q:Bool->Hp->Prop):L2.GW t u σ H Q=t σ H λc H1=>if c=true then Q true H1 else u σ H1 Q:=rfl
theorem vO(t:TT)(σ:St)(H:Hp)(Q:Bool->Hp->Prop):L2.vO t σ H Q=t σ H λc H1=>Q (!c) H1:=rfl
theorem pX(ta tb:TE)(σ:St)(H:Hp)(Q:VK):L2.pX ta tb σ H Q=ta σ H λx H1=>∃c,x=.bl c/\if c=true then tb σ H1 Q else Q (.bl false) H1:=rfl
theorem kl(r r':R2)(ta tb tc:TE)(σ:St)(H:Hp)(Q:VK):L2.kl r r' ta tb tc σ H Q=ta σ H λx H1=>tb σ H1 λy H2=>r x y H2 λz H3=>∃k,z=.bl k/\(if k=true then tc σ H3 λw' H4=>r' y w' H4 Q else Q (.bl false) H3):=rfl
theorem tK(vs:List V)(σ:St)(H:Hp)(Q:List V->Hp->Prop):L2.tK vs σ H Q=Q vs H:=rfl
theorem jq(σ:St)(H:Hp)(Q:List V->Hp->Prop):L2.jq σ H Q=Q [] H:=rfl
theorem jg(ta:TE)(tr:TA)(σ:St)(H:Hp)(Q:List V->Hp->Prop):L2.jg ta tr σ H Q=ta σ H λx H1=>tr σ H1 λxs H2=>Q (x::xs) H2:=rfl
theorem zm(t:TA)(σ:St)(H:Hp)(Q:VK):L2.zm t σ H Q=t σ H λxs H1=>xs.length<=sizeLine/\∀p,H1 p=none->Q (.ref p) (upd H1 p (.tup xs)):=rfl
theorem yR(t:TA)(σ:St)(H:Hp)(Q:VK):L2.yR t σ H Q=t σ H λxs H1=>xs.length<=sizeLine/\∀p,H1 p=none->Q (.ref p) (upd H1 p (.lst xs)):=rfl
theorem i7(sp:Sp)(dvs:List V)(E:XK)(t:TA)(σ:St)(H:Hp)(Q:VK):L2.i7 sp dvs E t σ H Q=t σ H λvs H1=>sp (vs++dvs) H1 Q E:=rfl
theorem Ak(r:List V->Hp->VK->Prop)(t:TA)(σ:St)(H:Hp)(Q:VK):L2.Ak r t σ H Q=t σ H λvs H1=>r vs H1 Q:=rfl
theorem Fe(K:Og)(T:String)(r:V->List V->Hp->VK->Prop)(to:TE)(t:TA)(σ:St)(H:Hp)(Q:VK):L2.Fe K T r to t σ H Q=to σ H λx H1=>FR K T x H1/\t σ H1 λxs H2=>r x xs H2 Q:=rfl
theorem xi(K:Og)(T:String)(r:V->List V->Hp->VK->Prop)(to:TE)(σ:St)(H:Hp)(Q:VK):L2.xi K T r to σ H Q=to σ H λx H1=>FR K T x H1/\r x [] H1 Q:=rfl
theorem Fu(r:V->Option Int->Option Int->Hp->VK->Prop)(te:TE)(tl th:TO)(σ:St)(H:Hp)(Q:VK):L2.Fu r te tl th σ H Q=te σ H λx H1=>tl σ H1 λl H2=>th σ H2 λu H3=>r x l u H3 Q:=rfl
theorem iA(σ:St)(H:Hp)(Q:Option Int->Hp->Prop):L2.iA σ H Q=Q none H:=rfl
theorem pS(t:TE)(σ:St)(H:Hp)(Q:Option Int->Hp->Prop):L2.pS t σ H Q=t σ H λx H1=>∃i,x=.int i/\Q (some i) H1:=rfl
theorem uR(t u:TS)(D:Ends)(σ:St)(H:Hp):L2.uR t u D σ H=t {D with nx:=u D} σ H:=rfl
theorem nA(te:TE)(g:TG)(D:Ends)(σ:St)(H:Hp):L2.nA te g D σ H=te σ H λx H1=>g x σ H1 D.nx:=rfl
theorem bC(i:Nat)(v:V)(σ:St)(H:Hp)(Q:St->Hp->Prop):L2.bC i v σ H Q=Q (σ.set i (some v)) H:=rfl
theorem xq(to ti:TE)(t:A6)(v:V)(σ:St)(H:Hp)(Q:St->Hp->Prop):L2.xq to ti t v σ H Q=to σ H λo H1=>ti σ H1 λi H2=>t o i v H2 λH3=>Q σ H3:=rfl
theorem ij(t:TG)(u:yc)(v:V)(vs:List V)(σ:St)(H:Hp)(Q:St->Hp->Prop):L2.ij t u (v::vs) σ H Q=t v σ H λσ' H'=>u vs σ' H' Q:=by
 refine propext ⟨λhq1=>?_,λh=>⟨v,vs,rfl,h⟩⟩;obtain⟨a,b,e,h⟩:=hq1
 cases e;exact h
theorem qr(σ:St)(H:Hp)(Q:St->Hp->Prop):L2.qr [] σ H Q=Q σ H:=propext ⟨λh=>h.2,λh=>⟨rfl,h⟩⟩
theorem yS(te:TE)(D:Ends)(σ:St)(H:Hp):L2.yS te D σ H=te σ H D.rt:=rfl
theorem ph(te:TE)(D:Ends)(σ:St)(H:Hp):L2.ph te D σ H=te σ H λ_ H1=>D.nx σ H1:=rfl
theorem ng(c:TT)(t u:TS)(D:Ends)(σ:St)(H:Hp):L2.ng c t u D σ H=c σ H λb H1=>if b=true then t D σ H1 else u D σ H1:=rfl
theorem p7(D:Ends)(σ:St)(H:Hp):L2.p7 D σ H=D.nx σ H:=rfl
theorem m4(ta:TA)(σ:St)(H:Hp)(R:It->Hp->Prop):L2.m4 ta σ H R=ta σ H λvs H1=>∃j:Int,vs=[.int j]/\-(2^62)<=j/\j<2^62/\R (Bg 0 j.toNat) H1:=rfl
theorem vL(K:Og)(tl:TE)(σ:St)(H:Hp)(R:It->Hp->Prop):L2.vL K tl σ H R=tl σ H λx H1=>match x with
 |.ref a=>match sq H1 a with
  |some (true,_)=>R (ye K a) H1
  |some (false,_)=>R (sP K a) H1
  |none=>(∃xs,bu K H1 a xs)/\R (sP K a) H1
 |_=>False:=rfl
theorem oQ(K:Og)(ta:TA)(σ:St)(H:Hp)(R:It->Hp->Prop):L2.oQ K ta σ H R=ta σ H λvs H1=>∃a,vs=[.ref a]/\(∃xs,bu K H1 a xs)/\R (yD K a) H1:=rfl
theorem rI(C:Int->Int->Prop)(g:Int->Int->V)(i j:Int)(H:Hp)(Q:VK):L2.rI C g (.int i) (.int j) H Q=(C i j/\Q (g i j) H):=by
 refine propext ⟨λhq2=>?_,λh=>⟨i,j,rfl,rfl,h⟩⟩;obtain⟨a,b,e1,e2,h⟩:=hq2
 cases e1;cases e2;exact h
theorem vb(g:Int->Int->V)(i j:Int)(H:Hp)(Q:VK):L2.vb g (.int i) (.int j) H Q=Q (g i j) H:=by
 refine propext ⟨λhq3=>?_,λh=>⟨i,j,rfl,rfl,h⟩⟩;obtain⟨a,b,e1,e2,h⟩:=hq3
 cases e1;cases e2;exact h
theorem rU(g:Int->V)(i:Int)(H:Hp)(Q:VK):L2.rU g (.int i) H Q=Q (g i) H:=by
 refine propext ⟨λhq4=>?_,λh=>⟨i,rfl,h⟩⟩;obtain⟨a,e1,h⟩:=hq4
 cases e1;exact h
theorem BW(K:Og)(i j:Int)(H:Hp)(Q:VK):vv K (.int i) (.int j) H Q=Q (.int (i+j)) H:=rfl
theorem Fz(K:Og)(i j:Str)(H:Hp)(Q:VK):vv K (.str i) (.str j) H Q=(i.length+j.length<=sizeLine/\Q (.str (i++j)) H):=rfl
theorem Gp(i j:Int)(H:Hp)(Q:VK):DH (.int i) (.int j) H Q=(u7 i j/\Q (.int (i*j)) H):=rfl
theorem HN(i j:Int)(H:Hp)(Q:VK):BR (.int i) (.int j) H Q=Q (.bl (decide (i=j))) H:=by
 have e:decide (V.int i=V.int j)=decide (i=j):=by rw[KQ];constructor<;>intro h<;>(try cases h)<;>(try rw[h])<;>rfl
 unfold BR;rw[e];exact propext ⟨λh=>h.2,λh=>⟨rfl,h⟩⟩
theorem DZ(i j:Str)(H:Hp)(Q:VK):BR (.str i) (.str j) H Q=Q (.bl (decide (i=j))) H:=by
 have e:decide (V.str i=V.str j)=decide (i=j):=by rw[KQ];constructor<;>intro h<;>(try cases h)<;>(try rw[h])<;>rfl
 unfold BR;rw[e];exact propext ⟨λh=>h.2,λh=>⟨rfl,h⟩⟩
theorem HP(i j:Str)(H:Hp)(Q:VK):GV (.str i) (.str j) H Q=Q (.bl (!decide (i=j))) H:=by
 have e:decide (V.str i=V.str j)=decide (i=j):=by rw[KQ];constructor<;>intro h<;>(try cases h)<;>(try rw[h])<;>rfl
 unfold GV;rw[e];exact propext ⟨λh=>h.2,λh=>⟨rfl,h⟩⟩
theorem HC(K:Og)(b:Bool)(H:Hp)(k:Bool):yO K (.bl b) H k=(k=b):=rfl
end Ap
noncomputable def KB(ex:List Addr)(H H':Hp):Prop:=∀b o,H b=some o->b∉ex->H' b=some o
theorem KB.refl(ex:List Addr)(H:Hp):KB ex H H:=λ_ _ e _=>e
theorem KB.trans{H1 H2:Hp}(a:KB ex H H1)(b:KB ex H1 H2):KB ex H H2:=λc o e n=>b c o (a c o e n) n
theorem KB.mono{ex':List Addr}(h:KB ex H H')(s:∀b∈ex,b∈ex'):KB ex' H H':=λb o e n=>h b o e λz=>n (s b z)
theorem KB.all(h:KB [] H H'):KB ex H H':=h.mono (by simp)
theorem KB.new(h:H p=none):KB ex H (upd H p o):=λb u e _=>by rw[af (ao e h)];exact e
theorem KB.set(h:p∈ex):KB ex H (upd H p o):=λb u e n=>by rw[af (λ(z:b=p)=>n (by rw[z];exact h))];exact e
theorem KB.free(h:KB ex H H'){b:Addr}(n:b∉ex)(e:H' b=none):H b=none:=by
 cases q:H b with
 |none=>rfl
 |some o=>rw[h b o q n] at e;cases e
theorem KB.Gf(h:KB ex H H')(n:a∉ex)(q:ck K H a xs):ck K H' a xs:=by
 rcases q with (q|⟨o,q⟩)|q
 ·exact .inl (.inl (h _ _ q n))
 ·exact .inl (.inr ⟨o,h _ _ q n⟩)
 ·exact .inr q
theorem kD(x:α)(r:List α):bU (x::r) 0=some x:=b7 (j:=0) rfl
theorem jt(a x:α)(r:List α):bU (a::x::r) 1=some x:=b7 (j:=1) rfl
theorem BB(a b x:α)(r:List α):bU (a::b::x::r) 2=some x:=b7 (j:=2) rfl
theorem HV(a b c x:α)(r:List α):bU (a::b::c::x::r) 3=some x:=b7 (j:=3) rfl
theorem mY{n:Nat}{i:Int}(h0:0<=i)(h:i<n):j0 n i=some i.toNat:=by unfold j0;rw[IW h0,IW h]
namespace Ap
theorem fC(K:Og)(p:Addr)(i:Int)(H:Hp)(Q:VK):CT K (.ref p) (.int i) H Q=(match sq H p with
  |some (_,xs)=>(match bU xs i with|some v=>Q v H|none=>False)
  |none=>∃xs v,bu K H p xs/\bU xs i=some v/\Q v H):=rfl
theorem Fg(K:Og)(z:Str)(i:Int)(H:Hp)(Q:VK):CT K (.str z) (.int i) H Q=(z.length<=sizeLine/\(match bU z.cps.toList i with|some c=>Q (.str ⟨#[c]⟩) H|none=>False)):=rfl
theorem setRef(p:Addr)(k:Int)(v:V)(H:Hp)(Q:Hp->Prop):Bs (.ref p) (.int k) v H Q=(match H p with
  |some (.lst xs)=>(match j0 xs.length k with|some j=>Q (upd H p (.lst (xs.set j v)))|none=>False)
  |_=>False):=rfl
theorem vP(K:Og)(p:Addr)(H:Hp)(Q:VK):yE K [.ref p] H Q=(match sq H p with
  |some (_,ys)=>Q (.int ys.length) H
  |none=>∃ys,bu K H p ys/\Q (.int ys.length) H):=rfl
theorem Er(K:Og)(y:Str)(H:Hp)(Q:VK):yE K [.str y] H Q=(y.length<=sizeLine/\Q (.int y.length) H):=rfl
theorem FO(i j:Int)(H:Hp)(Q:VK):Gr [.int i,.int j] H Q=Q (.int (if j<i then j else i)) H:=rfl
theorem Gy(i j:Int)(H:Hp)(Q:VK):FY [.int i,.int j] H Q=Q (.int (if j > i then j else i)) H:=rfl
theorem HA(k:Bool)(H:Hp)(Q:VK):Hg [.bl k] H Q=Q (.int (if k=true then 1 else 0)) H:=rfl
theorem qG(K:Og)(p:Addr)(H:Hp)(Q:VK):nM K [.ref p] H Q=(match sq H p with
  |some (true,ys)=>∀l,H l=none->Q (.ref l) (upd H l (.tup ys))
  |some (false,_)=>Q (.ref p) H
  |none=>∃ys,bu K H p ys/\Q (.ref p) H):=rfl
theorem Hd(K:Og)(p:Addr)(lo hi:Option Int)(H:Hp)(Q:VK):Hj K (.ref p) lo hi H Q=(match sq H p with
  |some (true,xs)=>∀q,H q=none->Q (.ref q) (upd H q (.lst (eW xs lo hi)))
  |some (false,xs)=>uC K (.ref p) lo hi H Q
  |none=>uC K (.ref p) lo hi H Q):=rfl
theorem Fy(K:Og)(neg:Bool)(x:V)(p:Addr)(H:Hp)(Q:VK):EJ K neg x (.ref p) H Q=(match sq H p with
  |some (_,xs)=>cK x=true/\xs.all cK=true/\Q (.bl (if neg then !hJ x xs else hJ x xs)) H
  |none=>∃xs,bu K H p xs/\cK x=true/\xs.all cK=true/\Q (.bl (if neg then !hJ x xs else hJ x xs)) H):=rfl
theorem HX(K:Og)(x:V)(T:String)(H:Hp)(Q:VK):EA K [x,.ty T] H Q=(T∈["bool","int","str","list","tuple","dict"]/\match C1 H x with
  |some t=>Q (.bl (uN t T)) H
  |none=>∃t b,gW K H x t/\PySem.W.kitOne K t (.type T)=some b/\Q (.bl b) H):=rfl
theorem Eh(H:Hp)(p:Addr)(xs:List V):sq (upd H p (.lst xs)) p=some (true,xs):=au aa
theorem B1(H:Hp)(p:Addr)(xs:List V):sq (upd H p (.tup xs)) p=some (false,xs):=ax aa
end Ap
theorem ar{t u:TS}{D:Ends}(h:∀N,N=u D->t {D with nx:=N} σ H):uR t u D σ H:=h _ rfl
structure QE (X:Cx) (e:Expr) (t:TE):Prop where h:PE X e t
structure QT (X:Cx) (e:Expr) (t:TT):Prop where h:PT X e t
structure QW (X:Cx) (e:Expr) (t:TT):Prop where h:PW X e t
structure QA (X:Cx) (es:List Expr) (t:TA):Prop where h:PA X es t
structure QS (X:Cx) (st:Stmt) (t:TS):Prop where h:PS X st t
structure QB (X:Cx) (sts:List Stmt) (t:TS):Prop where h:rN X sts t
structure QI (X:Cx) (tg it:Expr) (t:TI):Prop where h:PI X tg it t
structure QG (X:Cx) (e:Expr) (t:TG):Prop where h:PG X e t
structure Ho (X:Cx) (es:List Expr) (t:yc):Prop where h:Hf X es t
structure QO (X:Cx) (e:Option Expr) (t:TO):Prop where h:PO X e t
structure Hk (X:Cx) (es:List Expr) (t:TT):Prop where h:Df X es t
namespace Z
noncomputable def sim(b:Expr):Bool:=match b with
 |.Name .. |.Constant .. |.Call .. |.BinOp .. |.Subscript .. |.Attribute .. |.UnaryOp .. |.Compare .. |.IfExp ..=>true
 |_=>false
theorem Ib(h:sim b=true):r_ b:=by
 cases b<;>first | (intro _ _;rfl)|cases h
noncomputable def Il(b:Expr):Bool:=match b with
 |.Name .. |.Call .. |.Subscript .. |.Attribute ..=>true
 |_=>false
theorem ptr(h:Il b=true):∀whole,isTrue b env whole=(do let v <- whole;standAt b.pos;holding [v] (truthy v)):=by
 cases b<;>first | (intro _;rfl)|cases h
noncomputable def H_(b:Expr):Bool:=match b with
 |.ListComp .. |.SetComp .. |.DictComp ..=>false
 |_=>true
theorem Ii{tg:Option Expr}{l:Nat}(h:H_ b=true):swapsWith b tg l env=pure false:=by
 cases b<;>first|rfl|cases h
section
variable {X:Cx}
theorem aR(K:Og)(hK:X.K=K):cI X (binaryOp .Add) (vv K):=by subst hK;exact Bb
theorem x_(K:Og)(hK:X.K=K)(hu:k<cLine):cI X (compareOp .In) (EJ K false):=by subst hK;exact CY hu
theorem B9(K:Og)(hK:X.K=K)(hu:k<cLine):cI X (compareOp .NotIn) (EJ K true):=by subst hK;exact uu hu
theorem az(K:Og)(hK:X.K=K)(hu:k<cLine):um X (CT K):=by subst hK;exact IE hu
theorem G_(K:Og)(hK:X.K=K):sJ X (Hj K):=by subst hK;exact A0
theorem BZ(K:Og)(hK:X.K=K):sJ X (DR K):=by subst hK;exact mD
theorem cw(K:Og)(hK:X.K=K):bD X (.builtin "len") (yE K):=by subst hK;exact uO
theorem CI(K:Og)(hK:X.K=K):bD X (.builtin "len") (λxs H Q=>∃x n,xs=[x]/\Gi K x H n/\Q (.int n) H):=by subst hK;exact ik
theorem F_(K:Og)(hK:X.K=K):bD X (.builtin "isinstance") (EA K):=by subst hK;exact u0
theorem dC(K:Og)(hK:X.K=K):bD X (.type "tuple") (nM K):=by subst hK;exact pe
theorem Gg(K:Og)(hK:X.K=K)(hc:X.calm=true):bD X (.builtin "sum") (λxs H Q=>∃(p:Addr) (ns:List Int),xs=[.ref p]/\ck K H p (ns.map V.int)/\Q (.int ns.sum) H):=by subst hK;exact uK hc
end
section
variable {X:Cx} {a b c e o:Expr} {es:List Expr} {ta tb tc te to:TE} {t:TA} {pos p p2:Pos} {tA tB':TT} {rest:List Expr} {x:Str}
theorem int{i:Int}:QE X (.Constant (.int i) j pos) (tC (.int i)):=⟨xM⟩
theorem bl{i:Bool}:QE X (.Constant (.bool i) j pos) (tC (.bl i)):=⟨Ci⟩
theorem aT:QE X (.Constant .none j pos) (tC .aT):=⟨xw⟩
theorem str{i:Str}:QE X (.Constant (.str i) j pos) (tC (.str i)):=⟨xI⟩
theorem v(i:Nat)(hN:autoParam (X.N[i]?=some x) ℜ0)(hv:autoParam (GS X.env.scope x) ℜ4)(hd:autoParam ((x ==("__debug__":Str))=false) ℜ1)
  (fH:autoParam ((x ==("__classdict__":Str))=false) ℜ1):QE X (.Name x pos) (uQ i):=⟨pv i hN hv hd fH⟩
theorem glob{w:V}{u:Value}(hg:Gl X x)(hm:X.mg x=some u)(r:RelV w u)(hd:autoParam ((x ==("__debug__":Str))=false) ℜ1):QE X (.Name x pos) (tC w):=⟨tF hg hm r hd⟩
theorem op{o:Operator}{r:R2}(ho:cI X (binaryOp o) r)(ha:QE X a ta)(hb:QE X b tb):QE X (.BinOp a o b pos) (xO r ta tb):=⟨Fq ho ha.h hb.h⟩
theorem un{o:UnaryOp}{r:V->Hp->VK->Prop}(ho:Hn X (unaryOp o) r)(ha:QE X a ta):QE X (.UnaryOp o a pos) (FG r ta):=⟨GQ ho ha.h⟩
theorem cmp{o:CmpOp}{r:R2}(ho:cI X (compareOp o) r)(ha:QE X a ta)(hb:QE X b tb)(hm:autoParam (behindInMarks o b=false) ℜ0):QE X (.Compare a [o] [b] pos) (xO r ta tb):=⟨Ax ho ha.h hb.h hm⟩
theorem and(ha:QE X a ta)(hb:QE X (.BoolOp .And (b::rest) pos) tb):QE X (.BoolOp .And (a::b::rest) pos) (pX ta tb):=⟨Dg ha.h hb.h⟩
theorem one{o:BoolOp}(ha:QE X a ta):QE X (.BoolOp o [a] pos) ta:=⟨Dp ha.h⟩
theorem EY(hc:QT X c tA)(ha:QE X a ta)(hb:QE X b tb):QE X (.IfExp c a b pos) (Gb tA ta tb):=⟨ze hc.h ha.h hb.h⟩
theorem slice{r:V->Option Int->Option Int->Hp->VK->Prop}{lo hi:Option Expr}{tl th:TO}(hr:sJ X r)(he:QE X e te)(hl:QO X lo tl)(hu:QO X hi th):QE X (.Subscript e (.Slice lo hi none p2) pos) (Fu r te tl th):=⟨yt hr he.h hl.h hu.h⟩
theorem yy:QO X none iA:=⟨zX⟩
theorem qu(he:QE X e te):QO X (some e) (pS te):=⟨Am he.h⟩
theorem ix{r:R2}(hr:um X r)(ha:QE X a ta)(hb:QE X b tb)(hs:autoParam (sim b=true) ℜ0):QE X (.Subscript a b pos) (xO r ta tb):=⟨BN hr ha.h hb.h (Ib hs)⟩
theorem tup(h:QA X es t):QE X (.Tuple es k pos) (zm t):=⟨Dh h.h⟩
theorem lst(h:QA X es t):QE X (.List es pos) (yR t):=⟨Ee h.h⟩
theorem nil:QA X [] jq:=⟨wA⟩
theorem cons(ha:QE X e te)(hr:QA X es t)(h:autoParam (gK e=true) ℜ0):QA X (e::es) (jg te t):=⟨HG ha.h hr.h h⟩
theorem consts{vs:List V}(h:tJ es=some vs):QA X es (tK vs):=⟨ma h⟩
theorem cb{id:String}(hc:bD X (.builtin id) r)(hg:Gl X x)(hm:X.mg x=none)(hv:bootBuiltins x=some (.builtin id))(ha:QA X (e::es) t)(h1:autoParam (gK e=true) ℜ0)(h2:autoParam (es.all gK=true) ℜ0)(hn:autoParam (x≠"__name__") ℜ1)(hdb:autoParam ((x ==("__debug__":Str))=false) ℜ1):
  QE X (.Call (.Name x p) (e::es) [] pos) (Ak r t):=⟨FQ hc hg hm hv ha.h h1 h2 hn hdb⟩
theorem ct{T:String}(hc:bD X (.type T) r)(hg:Gl X x)(hm:X.mg x=none)(hv:bootBuiltins x=some (.type T))(ha:QA X (e::es) t)(h1:autoParam (gK e=true) ℜ0)(h2:autoParam (es.all gK=true) ℜ0)(hn:autoParam (x≠"__name__") ℜ1)(hdb:autoParam ((x ==("__debug__":Str))=false) ℜ1):
  QE X (.Call (.Name x p) (e::es) [] pos) (Ak r t):=⟨Gz hc hg hm hv ha.h h1 h2 hn hdb⟩
theorem Iw{T:String}(hg:Gl X x)(hm:X.mg x=none)(hv:bootBuiltins x=some (.type T))(hn:autoParam (x≠"__name__") ℜ1)(hd:autoParam ((x ==("__debug__":Str))=false) ℜ1):QE X (.Name x pos) (tC (.ty T)):=⟨CL hg hm hv hn hd⟩
theorem fn{ps:List Str}{E:XK}(F:aq X.prog X.w X.K X.mg X.base CX k x ps sp)(hr:bI k X.A)(hg:Gl X x)(hx:Passes CX X E)(ha:QA X (e::es) t)(h1:autoParam (gK e=true) ℜ0)(h2:autoParam (es.all gK=true) ℜ0)(hdb:autoParam ((x ==("__debug__":Str))=false) ℜ1):
  QE X (.Call (.Name x p) (e::es) [] pos) (i7 sp [] E t):=⟨Fh F hr hg hx ha.h h1 h2 hdb⟩
theorem IB{ps:List Str}{E:XK}(F:aq X.prog X.w X.K X.mg X.base CX k x ps sp)(hr:bI k X.A)(hg:Gl X x)(hx:Passes CX X E)(hdb:autoParam ((x ==("__debug__":Str))=false) ℜ1):
  QE X (.Call (.Name x p) [] [] pos) (i7 sp [] E jq):=⟨C7 F hr hg hx hdb⟩
theorem bm(K:Og)(hK:X.K=K){name:Str}{apos:Pos}{T id:String}{r:V->List V->Hp->VK->Prop}(pa:PlainAttrs T)(slot:Slot T name id)(hty:typeOf (.builtin id)=pure (.type "method_descriptor"))(hm:wZ X id r)(ho:QE X o to)(ha:QA X (e::es) t)
  (hbase:autoParam (attributeBase o name X.env (eval o X.env)=eval o X.env) ℜ0) (hline:autoParam ((apos.endLine == pos.line)=true) ℜ0) (h:autoParam ((e::es).all gK=true) ℜ0) (hl:autoParam ((e::es).length<30) ℜ1):QE X (.Call (.Attribute o name apos) (e::es) [] pos) (Fe K T r to t):=by
 subst hK;exact⟨El pa slot hty hm ho.h ha.h hbase hline h hl⟩
theorem comp{wi:TI}{tc:TT}(S:dM osc ON scope own N)(hosc:X.env.scope=osc)(hON:X.N=ON)(hc:X.calm=true)(hi:QI X tg iter wi)
  (hg:∀C s H fp,QG (bj X scope N C s H fp) tg g) (ht:∀C s H fp,Hk (bj X scope N C s H fp) ifs tc) (he:∀C s H fp,QE (bj X scope N C s H fp) elt te) (hs:autoParam (∀x,foldedSetIterable iter X.env x=pure x) ℜ3) :
  QE X (.ListComp elt [⟨tg,iter,ifs,0⟩] scope pos) (kg wi own.length g tc te):=⟨B8 S hosc hON hc hi.h (λC s H fp=>(hg C s H fp).h) (λC s H fp=>(ht C s H fp).h) (λC s H fp=>(he C s H fp).h) hs⟩
theorem bf{o:CmpOp}{r:R2}(ho:cI X (compareOp o) r)(ha:QE X a ta)(hb:QE X b tb)(hm:autoParam (behindInMarks o b=false) ℜ0):QT X (.Compare a [o] [b] pos) (kH (xO r ta tb)):=⟨AX ho ha.h hb.h hm⟩
theorem C0{o o':CmpOp}{r r':R2}(ho:cI X (compareOp o) r)(ho':cI X (compareOp o') r')(ha:QE X a ta)(hb:QE X b tb)(hc:QE X c tc)(hm:autoParam (lastMarks [o,o'] [b,c]=false) ℜ5):QT X (.Compare a [o,o'] [b,c] pos) (kH (kl r r' ta tb tc)):=⟨vM ho ho' ha.h hb.h hc.h hm⟩
theorem tw(h:QW X e tA):QT X e tA:=⟨h.h.pt⟩
theorem zU(ha:QT X a tA):QT X (.UnaryOp .Not a pos) (vO tA):=⟨Ez ha.h⟩
noncomputable def Ay(K:Og)(ta:TE):TT:=λσ H Q=>ta σ H λx H'=>∃k,yO K x H' k/\Q k H'
theorem qi(K:Og)(hK:X.K=K)(ha:QE X a ta)(he:autoParam (Il a=true) ℜ0):QT X a (Ay K ta):=by subst hK;exact⟨zi ha.h (ptr he)⟩
theorem lU(ha:QT X a tA):QW X (.BoolOp .And [a] pos) tA:=⟨AQ ha.h⟩
theorem DU(ha:QT X a tA):QW X (.BoolOp .Or [a] pos) tA:=⟨EV ha.h⟩
theorem vk(ha:QT X a tA)(hb:QW X (.BoolOp .And (b::rest) pos) tB'):QW X (.BoolOp .And (a::b::rest) pos) (ym tA tB'):=⟨Ej ha.h hb.h⟩
theorem Ht(ha:QT X a tA)(hb:QW X (.BoolOp .Or (b::rest) pos) tB'):QW X (.BoolOp .Or (a::b::rest) pos) (GW tA tB'):=⟨Gw ha.h hb.h⟩
theorem bp(hN:X.N.Nodup)(hi:X.N[i]?=some x)(hx:Loc X.env.scope x)(hf:autoParam (X.fn x=true\/X.env.scope.names.lookup x=some .local) ℜ2):QG X (.Name x pos) (bC i):=⟨Bv hN hi hx hf⟩
theorem zu(K:Og)(hK:X.K=K){n:Nat}{tg:yc}(hc:X.calm=true)(h:Ho X es tg)(hn:autoParam ((assignEach es X.env).length=n) ℜ0)(hst:autoParam ((assignEach es X.env).findIdx? (·.1)=none) ℜ0):QG X (.Tuple es k pos) (Ag K n tg):=by subst hK;exact⟨Es hc h.h hn hst⟩
theorem pL:Ho X [] qr:=⟨AI⟩
theorem dW{u:yc}(h1:QG X e g)(h2:Ho X es u)(hs:autoParam ((assignEach (e::es) X.env).map (·.2)=assign e X.env::(assignEach es X.env).map (·.2)) ℜ0):Ho X (e::es) (ij g u):=⟨vN h1.h h2.h hs⟩
theorem qE{i:Expr}{ti:TE}(ho:QE X o to)(hi:QE X i ti)
  (ha:autoParam (∀v,assign (.Subscript o i pos) X.env v=(do
   let ov <- holding [v] (eval o X.env)
   let iv <- holding [v,ov] (eval i X.env)
   standAt pos
   holding [v,ov,iv] (setItem ov iv v)
   release [v,ov,iv] [])) ℜ3):QG X (.Subscript o i pos) (xq to ti Bs):=⟨EN ho.h hi.h uset ha⟩
theorem k_{ta:TA}(hg:Gl X "range")(hm:X.mg "range"=none)(ha:QA X [a] ta)(h:autoParam (gK a=true) ℜ0):QI X tg (.Call (.Name "range" p) [a] [] pos) (m4 ta):=⟨qP hg hm ha.h h⟩
theorem enum(K:Og)(hK:X.K=K){tp:Pos}{ta:TA}(hg:Gl X "enumerate")(hm:X.mg "enumerate"=none)(ha:QA X [e] ta)(h1:autoParam (gK e=true) ℜ0):QI X (.Tuple es k tp) (.Call (.Name "enumerate" p) [e] [] pos) (oQ K ta):=by subst hK;exact⟨AK hg hm ha.h h1⟩
theorem any(K:Og)(hK:X.K=K){l:Expr}{tl:TE}(hl:QE X l tl):QI X tg l (vL K tl):=by subst hK;exact⟨DT hl.h⟩
theorem sH:Hk X [] gL:=⟨Ad⟩
theorem Iy(h:QT X c tA):Hk X [c] tA:=⟨Aq h.h⟩
end
section
variable {X:Cx} {e o tg:Expr} {te to:TE} {st:Stmt} {sts xs ys:List Stmt} {t u:TS} {pos pos':Pos} {x:Str}
theorem bG:QB X [] p7:=⟨A9⟩
theorem aA(h:QS X st t):QB X [st] t:=⟨BF h.h⟩
theorem ai(h:QS X st t)(h2:QB X sts u):QB X (st::sts) (uR t u):=⟨xJ h.h h2.h⟩
theorem set(hN:X.N.Nodup)(hi:X.N[i]?=some x)(hx:Loc X.env.scope x)(he:QE X e te)(hs:autoParam (H_ e=true) ℜ0)(hf:autoParam (X.fn x=true\/X.env.scope.names.lookup x=some .local) ℜ2):
  QS X (.Assign [.Name x pos'] e pos) (nA te (bC i)):=⟨Em hN hi hx he.h (Ii hs) hf⟩
theorem setC{p2:Pos}{wi:TI}(hN:X.N.Nodup)(hj:X.N[j]?=some x)(hx:Loc X.env.scope x)(S:dM osc ON scope own N)(hosc:X.env.scope=osc)(hON:X.N=ON)(hc:X.calm=true)(hi:QI X tg iter wi)
  (hg:∀C s H fp,QG (bj X scope N C s H fp) tg g) (ht:∀C s H fp,Hk (bj X scope N C s H fp) ifs tc) (he:∀C s H fp,QE (bj X scope N C s H fp) elt te)
  (hsw:autoParam (swapsWith (.ListComp elt [⟨tg,iter,ifs,0⟩] scope p2) (some (.Name x pos')) pos.line X.env=pure true) ℜ0)
  (hf:autoParam (X.fn x=true\/X.env.scope.names.lookup x=some .local) ℜ2) (hs:autoParam (∀x,foldedSetIterable iter X.env x=pure x) ℜ3) :
  QS X (.Assign [.Name x pos'] (.ListComp elt [⟨tg,iter,ifs,0⟩] scope p2) pos) (nA (kg wi own.length g tc te) (bC j)):=⟨rn hN hj hx S hosc hON hc hi.h (λC s H fp=>(hg C s H fp).h) (λC s H fp=>(ht C s H fp).h) (λC s H fp=>(he C s H fp).h) hsw hf hs⟩
theorem asg(he:QE X e te)(hg:QG X tg g)(hs:autoParam (swapsWithSole [tg] e pos.line X.env=pure false) ℜ0)(hw:autoParam (swappedStores [tg] e X.env=pure none) ℜ0)
  (h1:autoParam ((assignEach [tg] X.env).map (·.2)=[assign tg X.env]) ℜ0):QS X (.Assign [tg] e pos) (nA te g):=⟨DB he.h hg.h hs hw h1⟩
theorem ret(he:QE X e te):QS X (.Return (some e) pos) (yS te):=⟨CN he.h⟩
theorem expr(he:QE X e te)(hs:autoParam (H_ e=true) ℜ0):QS X (.Expr e pos) (ph te):=⟨AO he.h (Ii hs)⟩
theorem d9{c:Expr}(hc:QT X c tc)(ha:QB X xs t)(hb:QB X ys u):QS X (.If c xs ys pos) (ng tc t u):=⟨Gj hc.h ha.h hb.h⟩
theorem fQ{wi:TI}(hp:PassesOwn (model X.prog X.w) X.A X.env X.xe)(hc:X.calm=true)(hi:QI X tg iter wi)(hg:QG X tg g)(hb:QB X xs t)(hs:autoParam (∀x,foldedSetIterable iter X.env x=pure x) ℜ3):QS X (.For tg iter xs [] pos) (CP wi g t):=⟨DS hp hc hi.h hg.h hb.h hs⟩
theorem yZ{c:Expr}(hp:PassesOwn (model X.prog X.w) X.A X.env X.xe)(hc:QT X c tc)(hb:QB X xs t):QS X (.While c xs [] pos) (zf tc t):=⟨wb hp hc.h hb.h⟩
end
end Z
namespace Ap
theorem Ay(K:Og)(ta:TE)(σ:St)(H:Hp)(Q:Bool->Hp->Prop):L2.Z.Ay K ta σ H Q=ta σ H λx H'=>∃k,yO K x H' k/\Q k H':=rfl
end Ap
theorem HasFn.gU{ps:List Str}(F:HasFn K mg x st ps)(S:ay N ps (ae st))(len:∀vs H Q E,sp vs H Q E->vs.length=ps.length)
  (hbody:∀(f:Addr) (cdv:Value) (A:Around) (outer:List Env) (s:Shared) (H:Hp) (vs:List V) (Q:VK) (E:XK),bI k (A.deeper (envOfC x (ae st) s.heap.objs.size f cdv))->sp vs H Q E ->
   ∃t,QB (fT bq P w K mg base N x (ae st) f cdv A outer s H E).qd (aU st) t/\t {nx:=λ_ H'=>Q .aT H',rt:=Q} (start N vs) H):aq P w K mg base bq (k+1) x ps sp:=
 F.ok S len λf cdv A outer s H vs Q E hr h=>let ⟨t,q,r⟩:=hbody f cdv A outer s H vs Q E hr h;⟨t,q.h,r⟩
theorem AD{ps:List Str}(F:jS K x x st f fd)(S:ay N ps (ae st))(len:∀vs H Q E,sp vs H Q E->vs.length=ps.length)
  (hbody:∀(cdv:Value) (A:Around) (outer:List Env) (s:Shared) (H:Hp) (vs:List V) (Q:VK) (E:XK),bI k (A.deeper (envOfC x (ae st) s.heap.objs.size f cdv))->sp vs H Q E ->
   ∃t,QB (fT bq P w K mg base N x (ae st) f cdv A outer s H E).qd (aU st) t/\t {nx:=λ_ H'=>Q .aT H',rt:=Q} (start N vs) H):cG P w K mg base bq (k+1) f fd ps sp:=
 F.ok S len λcdv A outer s H vs Q E hr h=>let ⟨t,q,r⟩:=hbody cdv A outer s H vs Q E hr h;⟨t,q.h,r⟩
noncomputable def Ih(e:Addr)(cls:Value)(d:Option Addr)(h:Heap):Prop:=∃o vs,h.get? e=some o/\o.cls=cls/\o.dict=d/\o.data=.fields vs
noncomputable def HH(c:Addr)(n:Nat)(h:Heap):Prop:=∃(its:List Value) (m:Nat),h.get? c=some {cls:=.type "list",data:=.seq its.toArray m}/\its.length=n/\∀v∈its,∃(i:Int) (t:Tok),v=.int i t/\0<=i
inductive T where
 |il (n:Nat)|aT|bl (b:Bool)|int (i:Int)|str (x:Str)|tup (ts:List T)|lst (ts:List T)|Ir (ts:List T)|ml (lo hi:Int)|Ie (ts:List T)|Ip (ks:List Key) (ts:List T)|exc (c:Value) (f:Option (Str×Int))|adr (a:Addr)|ins (a c:Addr) (ks:List Str) (ts:List T)
variable{u:T}{ts ys:List T}
abbrev kJ:=Addr->Prop
noncomputable def Fp(K:Og)(a:Addr)(xs:List V):Prop:=∃(o:Obj) (its:Array Value) (n:Nat),K.lookup a=some o/\o.cls=.type "tuple"/\o.data=.seq its n/\its.size<=sizeLine/\Vals xs its.toList
noncomputable def ID(K:Og)(a:Addr)(xs:List V):Prop:=∃(o:Obj) (its:Array Value) (n:Nat),K.lookup a=some o/\o.cls=.type "list"/\o.dict=none/\o.data=.seq its n/\its.size<=sizeLine/\Vals xs its.toList
noncomputable def LB(K:Og)(H:Hp)(B:kJ)(a:Addr)(xs:List V):Prop:=(¬ B a/\Rd H a (.lst xs))\/ID K a xs
mutual
inductive Rep (K:Og) (H:Hp) (B:kJ):V->T->Prop
 |aT:Rep K H B .aT .aT
 |bl (b:Bool):Rep K H B (.bl b) (.bl b)
 |int (i:Int):Rep K H B (.int i) (.int i)
 |str (x:Str):Rep K H B (.str x) (.str x)
 |tup {a:Addr} {vs:List V} {ts:List T} (n:¬ B a) (h:H a=some (.tup vs)) (r:cX K H B vs ts):Rep K H B (.ref a) (.tup ts)
 |Ie {a:Addr} {vs:List V} {ts:List T} (h:Fp K a vs) (r:cX K H B vs ts):Rep K H B (.ref a) (.Ie ts)
 |lst {a:Addr} {vs:List V} {ts:List T} (n:¬ B a) (h:H a=some (.lst vs)) (r:cX K H B vs ts):Rep K H B (.ref a) (.lst ts)
 |Ir {a:Addr} {vs:List V} {ts:List T} (h:LB K H B a vs) (r:cX K H B vs ts):Rep K H B (.ref a) (.Ir ts)
 |ml {a:Addr} {lo hi:Int} (n:¬ B a) (h:H a=some (.ml lo hi)):Rep K H B (.ref a) (.ml lo hi)
 |Ip {a:Addr} {ks:List Key} {vs:List V} {ts:List T} (n:¬ B a) (h:Rd H a (.dK (ks.zip vs))) (l:ks.length=vs.length) (r:cX K H B vs ts):Rep K H B (.ref a) (.Ip ks ts)
 |exc {a:Addr} {c:Value} (n:¬ B a) (h:H a=some (.ext (Ih a c none))):Rep K H B (.ref a) (.exc c none)
 |II {a d:Addr} {c:Value} {x:Str} {i:Int} (n:¬ B a) (h:H a=some (.ext (Ih a c (some d)))) (m:¬ B d) (g:H d=some (.xd [(x,.int i)])):Rep K H B (.ref a) (.exc c (some (x,i)))
 |il {a:Addr} {n:Nat} (m:¬ B a) (h:H a=some (.ext (HH a n))):Rep K H B (.ref a) (.il n)
 |adr (a:Addr):Rep K H B (.ref a) (.adr a)
 |ins {a dx c:Addr} {ks:List Str} {vs:List V} {ts:List T} (n:¬ B a) (h:H a=some (.ins c dx (ks.zip vs))) (l:ks.length=vs.length) (r:cX K H B vs ts):Rep K H B (.ref a) (.ins a c ks ts)
inductive cX (K:Og) (H:Hp) (B:kJ):List V->List T->Prop
 |nil:cX K H B [] []
 |cons {v:V} {t:T} {vs:List V} {ts:List T} (h:Rep K H B v t) (r:cX K H B vs ts):cX K H B (v::vs) (t::ts)
end
section
variable {K:Og} {H:Hp} {B:kJ} {v:V}
theorem cX.HU{vs:List V}(h:cX K H B vs []):vs=[]:=by cases h;rfl
theorem cX.Cu{vs:List V}{t:T}(h:cX K H B vs (t::ts)):∃v ws,vs=v::ws/\Rep K H B v t/\cX K H B ws ts:=by cases h with|cons h r=>exact⟨_,_,rfl,h,r⟩
end
theorem Paired.qF{β:Type}{P:α->β->Prop}{ys:List β}(h:Paired P [] ys):ys=[]:=by cases h;rfl
theorem Paired.gP{β:Type}{P:α->β->Prop}{x:α}{xs:List α}{ys:List β}(h:Paired P (x::xs) ys):∃y zs,ys=y::zs/\P x y/\Paired P xs zs:=by cases h with|cons h r=>exact⟨_,_,rfl,h,r⟩
section
variable {K:Og} {H H':Hp} {B B':kJ}
theorem cX.length{vs:List V}(r:cX K H B vs ts):vs.length=ts.length:=by
 induction ts generalizing vs with
 |nil=>obtain rfl:=r.HU;rfl
 |cons t ts ih=>obtain⟨v,ws,rfl,_,r⟩:=r.Cu;exact JH (·+1) (ih r)
theorem cX.get{vs:List V}{i:Nat}{t:T}(r:cX K H B vs ts)(e:ts[i]?=some t):∃v,vs[i]?=some v/\Rep K H B v t:=by
 induction ts generalizing vs i with
 |nil=>cases e
 |cons u ts ih =>
  obtain⟨v,ws,rfl,h,r⟩:=r.Cu
  cases i with
  |zero=>cases e;exact⟨_,rfl,h⟩
  |succ i=>exact ih (vs:=ws) (i:=i) r e
end
noncomputable def lS:T->Bool
 |.aT|.bl _|.int _|.str _=>true
 |_=>false
inductive Sl where
 |un|tr (t:T)|bx (c:T)|pb (c:T)
abbrev Mu:=List Sl
inductive R where
 |tr (t:T)|br (i:Nat)|fr (c:T)
structure Fx where
 K:Og
 H0:Hp
 P:Nat->Option Addr
 Bc:kJ
 bh:∀b,Bc b->∃o,H0 b=some o
 G:Addr->Option HO
noncomputable def more(B:kJ)(a:Addr):kJ:=λb=>b=a\/B b
abbrev UE:=Mu->(R->Mu->Prop)->Prop
abbrev UT:=Mu->(Bool->Mu->Prop)->Prop
abbrev UA:=Mu->(List R->Mu->Prop)->Prop
structure Ed where
 nx:Mu->Prop
 rt:R->Mu->Prop
 bk:Mu->Prop:=λ_=>False
 ct:Mu->Prop:=λ_=>False
abbrev US:=Ed->Mu->Prop
namespace Y
noncomputable def Cm(K:Og):R2:=λx y H Q=>∃a b xs ys,x=.ref a/\y=.ref b/\bu K H a xs/\bu K H b ys/\xs.length+ys.length<=sizeLine /\
 (xs=[]->Q (.ref b) H)/\(xs≠[]->ys=[]->Q (.ref a) H)/\(xs≠[]->ys≠[]->∀p,H p=none->Q (.ref p) (upd H p (.tup (xs++ys))))
theorem vX{A:Around}{s:Shared}{t b:Addr}{ws:List Value}(ht:IsTup s.heap t ([]:List Value).toArray)(hb:IsTup s.heap b ws.toArray)(h0:Q (.ref b) s):wpAny (model prog w) A (binaryOp .Add (.ref t) (.ref b)) Q E s:=by
 obtain⟨⟨cls,dd,data,sl⟩,ho,hc,n,hd⟩:=id ht;obtain⟨⟨cls2,dd2,data2,Bw⟩,ho2,hc2,n2,hd2⟩:=id hb;simp only at hc hd hc2 hd2;subst hc hd hc2 hd2;exact concat_meets ⟨_,ho,rfl⟩ ⟨_,ho2,rfl⟩ noFill_tuple_add seq_tuple_add PySem.F.slot_tuple_add PySem.F.entry_tuple_add (PySem.F.args_tuple_add_2 _ _)
   (tuple_addW0 t b _ ws.toArray n n2 dd dd2 sl Bw (by simp)) ⟨ho,ho2,h0⟩
theorem Be:cI X (binaryOp .Add) (Cm X.K):=by
 intro pins s σ H x y v u Q I rx ry h;obtain⟨a,b,xs,ys,rfl,rfl,ha,hb,hz,q0,q1,q2⟩:=h;by_cases hx:xs=[]
 ·subst hx
  cases rx;cases ry
  obtain⟨its,r1,p1,_⟩:=I.tuple ha;obtain⟨its2,r2,p2,_⟩:=I.tuple hb;obtain rfl:=Paired.qF r1;exact vX p1 p2 ⟨.ref b,H,I,rfl,q0 rfl⟩
 ·exact rZ pins s σ H _ _ v u Q I rx ry ⟨a,b,xs,ys,rfl,rfl,ha,hb,hx,hz,q1 hx,q2 hx⟩
noncomputable def Ca(K:Og):R2:=λx y H Q=>(∃i j,x=.int i/\y=.int j/\Q (.int (i+j)) H)\/(∃i j,x=.str i/\y=.str j/\i.length+j.length<=sizeLine/\Q (.str (i++j)) H)\/Gh x y H Q\/Cm K x y H Q
theorem sj(K:Og)(hK:X.K=K):cI X (binaryOp .Add) (Ca K):=by subst hK;exact zk.or (jD.or (zh.or Be))
noncomputable def Cr:T->T->Bool
 |.aT,.aT=>true
 |.bl a,.bl b=>a == b
 |.bl a,.int b=>(if a then 1 else 0) == b
 |.int a,.bl b=>a ==(if b then 1 else 0)
 |.int a,.int b=>a == b
 |.str a,.str b=>a == b
 |_,_=>false
theorem GF{B:kJ}{x y:V}{t:T}(h1:Rep K H B x t)(h2:Rep K H B y u)(f1:lS t=true)(f2:lS u=true):cK x=true/\cK y=true/\vF x y=Cr t u:=by
 cases h1<;>first | (cases f1;done) | (cases h2<;>first | (cases f2;done)|exact⟨rfl,rfl,rfl⟩)
noncomputable def Bd(K:Og)(neg:Bool):R2:=λx y H Q=>∃a b xs ys,x=.ref a/\y=.ref b/\((ck K H a xs/\ck K H b ys)\/(bu K H a xs/\bu K H b ys))/\xs.all cK=true/\ys.all cK=true /\
 ∀c,c=(xs.length == ys.length && (List.range (min xs.length ys.length)).all λj=>match xs[j]?,ys[j]? with|some x,some y=>vF x y|_,_=>true)->Q (.bl (if neg then !c else c)) H
theorem CU(hu:X.A.units<cLine):cI X (compareOp .Eq) (Bd X.K false):=by
 intro pins s σ H x y v u Q I rx ry h;obtain⟨a,b,xs,ys,rfl,rfl,hq,fx,fy,q⟩:=h
 cases rx;cases ry
 have item:∀(its its2:List Value),Vals xs its->Vals ys its2->∀j (h1:j<its.toArray.size) (h2:j<its2.toArray.size),SeqAt.EqAt X.A.in1 s its.toArray[j] its2.toArray[j] (match xs[j]?,ys[j]? with|some x,some y=>vF x y|_,_=>true):=λits its2 r1 r2 j h1 h2=>by
  have l1:=r1.length;have l2:=r2.length;rw[IS] at h1 h2;obtain⟨u1,e1,g1⟩:=r1.get (i:=j) (x:=xs[j]) (IJ (by lia))
  obtain⟨u2,e2,g2⟩:=r2.get (i:=j) (x:=ys[j]) (IJ (by lia))
  rw[IJ (show j<xs.length by lia),IJ (show j<ys.length by lia)]
  have z1:its.toArray[j]=u1:=by
   rw[IJ h1] at e1;simpa using e1
  have z2:its2.toArray[j]=u2:=by
   rw[IJ h2] at e2;simpa using e2
  rw[z1,z2];exact mZ g1 g2 (Kq.mp fx _ (Ji _)) (Kq.mp fy _ (Ji _))
 rcases hq with ⟨ha,hb⟩|⟨ha,hb⟩
 ·obtain⟨its,r1,p1,_⟩:=I.list ha;obtain⟨its2,r2,p2,_⟩:=I.list hb;have l1:=r1.length;have l2:=r2.length;by_cases e:xs.length=ys.length
  ·refine N9 p1.isList p2.isList (by rw[IS,IS];lia) hu (item its its2 r1 r2) ⟨.bl _,H,I,rfl,q _ ?_⟩
   rw[IS,<- l1,<- e,Kx,JW,Bool.true_and]
  ·refine LY p1.isList p2.isList (by rw[IS,IS,Ni];lia) hu ⟨.bl _,H,I,rfl,q _ ?_⟩
   rw[Jv.mpr e,MP]
 ·obtain⟨its,r1,p1,_⟩:=I.tuple ha;obtain⟨its2,r2,p2,_⟩:=I.tuple hb;have l1:=r1.length;have l2:=r2.length;refine SeqAt.eq_tupleAt p1 p2 hu (item its its2 r1 r2) ⟨.bl _,H,I,rfl,q _ ?_⟩;rw[IS,IS,<- l1,<- l2,Bool.and_comm];rfl
noncomputable def Ha(K:Og):R2:=λx y H Q=>BR x y H Q\/Bd K false x y H Q
theorem Ef(K:Og)(hK:X.K=K)(hu:X.A.units<cLine):cI X (compareOp .Eq) (Ha K):=by subst hK;exact Cb.or (CU hu)
theorem gS:∀(n:Nat) (acc:List Value) (k:Nat),acc.length=n->(∀j v,acc[j]?=some v->∃t,v=Value.int (lo+((k+j:Nat):Int)) t)->Vals ((List.range' k n).map λk=>V.int (lo+(k:Nat))) acc
 |0,acc,k,h,_=>by cases acc with|nil=>exact .nil|cons a b=>cases h
 |n+1,[],k,h,_=>by cases h
 |n+1,a::acc,k,h,g=>by
  rw[L6,Jy];refine .cons ?_ (gS n acc (k+1) (by simpa using h) λj v e=>?_)
  ·obtain⟨t,e⟩:=g 0 a rfl;exact⟨t,by simpa using e⟩
  ·obtain⟨t,e2⟩:=g (j+1) v (by simpa using e)
   exact⟨t,by rw[e2];congr 2;lia⟩
noncomputable def Ac:List V->Hp->VK->Prop:=λxs H Q=>(∃j,xs=[.int j]/\∀p,H p=none->Q (.ref p) (upd H p (.ml 0 j)))\/(∃i j,xs=[.int i,.int j]/\∀p,H p=none->Q (.ref p) (upd H p (.ml i j)))
theorem oa:bD X (.type "range") Ac:=by
 intro pins s σ H xs us Q I r h;rcases h with ⟨j,rfl,q⟩|⟨i,j,rfl,q⟩
 ·obtain⟨u,rfl,t,rfl⟩:=vals1 r;refine call_range_1 ?_;exact⟨.ref s.heap.objs.size,_,I.laid (o:=.ml 0 j) (λb ob q=>IM _ q) (IU _) (show b6 X.prog X.w _ _ _ (.ml 0 j) from⟨_,_,_,Jf _ rfl⟩),rfl,q _ (I.bc.fresh (IU _))⟩
 ·obtain⟨u,w',rfl,⟨t,rfl⟩,⟨t',rfl⟩⟩:=vals2 r;refine call_range_2 ?_;exact⟨.ref s.heap.objs.size,_,I.laid (o:=.ml i j) (λb ob q=>IM _ q) (IU _) (show b6 X.prog X.w _ _ _ (.ml i j) from⟨_,_,_,Jf _ rfl⟩),rfl,q _ (I.bc.fresh (IU _))⟩
section
variable {X:Cx} {a b c e o:Expr} {es rest:List Expr} {ua ub uc ue uo:UE} {uA uB:UT} {us:UA} {pos p p2 p3:Pos} {x:Str}
noncomputable def rS(xs:List α)(lo hi:Option Int):List α:=(xs.drop (HT.bP xs.length 0 lo)).take (HT.bP xs.length xs.length hi-HT.bP xs.length 0 lo)
noncomputable def Ge(K:Og):V->Option Int->Option Int->Hp->VK->Prop:=λx lo hi H Q=>∃a xs,x=.ref a/\bu K H a xs/\HT.bP xs.length 0 lo=0/\HT.bP xs.length xs.length hi=xs.length/\Q (.ref a) H
theorem ic{A:Around}{s:Shared}{t sl:Addr}{vl vu:Value}{lo hi:Option Int}(ht:IsTup s.heap t items)(hs:s.heap.IsSliceOf sl vl vu .none)(pl:IsPart vl lo)(pu:IsPart vu hi)
  (h1:HT.bP items.size 0 lo=0) (h2:HT.bP items.size items.size hi=items.size) (h:Q (.ref t) s):wpAny (model prog w) A (getItem (.ref t) (.ref sl)) Q E s:=by
 obtain⟨os,hos,hcs,sh⟩:=id hs;have hTs:s.TypeIs (.ref sl) "slice":=⟨os,hos,hcs⟩;unfold getItem
 try with_reducible refine JN ?_
 first|refine IK (Ja ?_)|skip
 refine IK (wpAny_sequenceKey ht.typeIs (by decide) ?_)
 refine IK (JM (name:=Str.ofString "__getitem__") ht.typeIs Kt
  (JS Kt ht.typeIs entry_tuple_getitem ?_ (args_tuple_getitem _ _)))
 show wpAny _ _ (Builtin.Tuple.tupleItemsOf (.ref t) >>= _) _ _ s;refine IK (tupleItemsOf_ ht ?_);refine IK (M6 hTs ?_);rw[IW (by decide)]
 refine IK (HT.eY hs pl pu ?_);show wpAny _ _ (if (((HT.bP items.size 0 lo:Nat):Int) == 0 && (1:Int) == 1 && (HT.bP items.size items.size hi-HT.bP items.size 0 lo) == items.size)=true then _ else _) _ _ s
 rw[IW (by rw[h1,h2];simp)]
 unfold Builtin.Tuple.tupleIsExact;refine IK ?_;refine IK (M6 ht.typeIs (Ja ?_));rw[IW (by decide)]
 exact IK (Nh (Ja ⟨_,rfl,Ja h⟩))
theorem ES:sJ X (Ge X.K):=by
 intro pins s σ H x v vl vu lo hi sl Q I rx hs pl pu h;obtain⟨a,xs,rfl,hx,h1,h2,q⟩:=h;cases rx;obtain⟨its,r,ht,hz⟩:=I.tuple hx;have hlen:its.toArray.size=xs.length:=by rw[IS];exact r.length.symm
 exact⟨"tuple",_,Kt.lookup,ht.typeIs,ic ht hs pl pu (by rw[hlen];exact h1) (by rw[hlen];exact h2) ⟨.ref a,H,I,rfl,q⟩⟩
noncomputable def Ei(K:Og):V->Option Int->Option Int->Hp->VK->Prop:=λx lo hi H Q=>DR K x lo hi H Q\/uC K x lo hi H Q\/Ge K x lo hi H Q
theorem Ai(K:Og)(hK:X.K=K):sJ X (Ei K):=by subst hK;exact mD.or (qO.or ES)
end
end Y
abbrev UI:=Mu->(List T->Option (Nat×List T)->Mu->Prop)->Prop
noncomputable def w_(K:Og)(tl:TE):TI:=λσ H R=>tl σ H λx H1=>∃a,x=V.ref a/\(((∃xs,ck K H1 a xs)/\R (ye K a) H1)\/((∃xs,bu K H1 a xs)/\R (sP K a) H1))
theorem DE{l:Expr}{tl:TE}(hl:PE X l tl):PI X tg l (w_ X.K tl):=by
 intro pins s σ H R I h;refine bT (hl pins s σ H _ I h) λv s1 hq2=>?_;obtain⟨x,H1,I1,r1,q1⟩:=hq2;obtain⟨a,rfl,q⟩:=q1;cases r1;rcases q with ⟨⟨xs,hq⟩,q⟩|⟨⟨xs,hq⟩,q⟩
 ·obtain⟨its,rv,p,hz⟩:=I1.list hq;refine LZ p.isList ?_;refine⟨s1.heap.objs.size,[s1.heap.objs.size],_,_,H1,rfl,I1.kept (t':=s1.toks) λb o e=>IM _ e,lB a _,⟨_,Jf _ rfl,rfl,rfl⟩,λb hb=>?_,q⟩;have e:b=s1.heap.objs.size:=by simpa using hb
  subst e;exact I1.rL (IU _) (I1.bc.fresh (IU _))
 ·obtain⟨its,rv,p,hz⟩:=I1.tuple hq;refine Lh (show s1.heap.IsTuple a its.toArray from p) ?_;refine⟨s1.heap.objs.size,[s1.heap.objs.size],_,_,H1,rfl,I1.kept (t':=s1.toks) λb o e=>IM _ e,jU a _,⟨_,Jf _ rfl,rfl,rfl⟩,λb hb=>?_,q⟩;have e:b=s1.heap.objs.size:=by simpa using hb
  subst e;exact I1.rL (IU _) (I1.bc.fresh (IU _))
namespace Y
theorem uG{α:Type _}{l:List α}(h:l.length=1):∃y,l=[y]:=by
 rcases l with _|⟨a,_|⟨b,t⟩⟩
 ·cases h
 ·exact⟨a,rfl⟩
 ·cases h
theorem xX{α:Type _}{l:List α}(h:l.length=2):∃y z,l=[y,z]:=by
 rcases l with _|⟨a,t⟩
 ·cases h
 ·obtain⟨b,rfl⟩:=uG (Nat.succ.inj h);exact⟨a,b,rfl⟩
theorem pZ{α:Type _}{l:List α}(h:l.length=3):∃x y z,l=[x,y,z]:=by
 rcases l with _|⟨a,t⟩
 ·cases h
 ·obtain⟨b,c,rfl⟩:=xX (Nat.succ.inj h);exact⟨a,b,c,rfl⟩
theorem CM{α:Type _}{l:List α}(h:l.length=4):∃w x y z,l=[w,x,y,z]:=by
 rcases l with _|⟨a,t⟩
 ·cases h
 ·obtain⟨b,c,d,rfl⟩:=pZ (Nat.succ.inj h);exact⟨a,b,c,d,rfl⟩
theorem HS{α:Type _}{l:List α}(h:l.length=5):∃v w x y z,l=[v,w,x,y,z]:=by
 rcases l with _|⟨a,t⟩
 ·cases h
 ·obtain⟨b,c,d,e,rfl⟩:=CM (Nat.succ.inj h);exact⟨a,b,c,d,e,rfl⟩
end Y
abbrev Ig:=List T->(R->List T->Prop)->Prop
noncomputable def Ah(K:Og)(f:Addr)(cdv:Value):Prop:=∃(o:Obj) (fd:FuncData),K.lookup f=some o/\o.data=.func fd/\fd.code=cdv
noncomputable def nH(K:Og)(k:Bool)(H:Hp)(a:Addr)(xs:List V):Prop:=if k=true then ck K H a xs else bu K H a xs
noncomputable def j9(k:Bool)(h:Heap)(it a:Addr)(i:Nat):Prop:=if k=true then h.IsListIter it a i else h.IsTupleIter it a i
noncomputable def cZ(k:Bool)(h:Heap)(a:Addr)(items:Array Value):Prop:=if k=true then h.IsList a items else h.IsTuple a items
theorem su{A:Around}(k:Bool)(hh:A.handled=none)(it l:Addr)(hne:l≠it)(items:Array Value):Draws prog w A it [it,l] items.size (λi v=>items[i]?=some v) (λi h=>j9 k h it l i/\cZ k h l items):=by
 cases k with
 |true=>exact Draws.list hh it l hne items
 |false=>exact iK hh it l hne items
theorem Inv.vA{s:Shared}{k:Bool}(I:Inv X pins σ H s)(h:nH X.K k H a xs):∃its:List Value,Vals xs its/\cZ k s.heap a its.toArray:=by
 cases k with
 |true=>obtain⟨its,r,p,_⟩:=I.list h;exact⟨its,r,p.isList⟩
 |false=>obtain⟨its,r,p,_⟩:=I.tuple h;exact⟨its,r,p⟩
theorem Inv.zv{s:Shared}{k:Bool}{ys:List V}(I:Inv X pins σ H s)(h:nH X.K k H a xs)(h':nH X.K k H a ys):xs=ys:=by
 cases k with
 |true=>exact I.pW h h'
 |false=>exact I.iM h h'
theorem cZ.ty{k:Bool}(x:cZ k h a items):∃o,h.get? a=some o/\(o.cls=.type "list"\/o.cls=.type "tuple")/\∃n,o.data=.seq items n:=by
 cases k with
 |true=>obtain⟨o,e,c,n,d⟩:=(show h.IsList a items from x);exact⟨o,e,.inl c,n,d⟩
 |false=>obtain⟨o,e,c,n,d⟩:=(show h.IsTuple a items from x);exact⟨o,e,.inr c,n,d⟩
theorem j9.ty{k:Bool}(x:j9 k h it a i):∃o,h.get? it=some o/\(o.cls=.type "list_iterator"\/o.cls=.type "tuple_iterator")/\o.data=.fields #[.ref a,.int i 0]:=by
 cases k with
 |true=>obtain⟨o,e,c,d⟩:=(show h.IsListIter it a i from x);exact⟨o,e,.inl c,d⟩
 |false=>obtain⟨o,e,c,d⟩:=(show h.IsTupleIter it a i from x);exact⟨o,e,.inr c,d⟩
noncomputable def vS(k:Bool):String:=if k=true then "list_iterator" else "tuple_iterator"
theorem yQ(x:h.IsTuple a items)(o:Obj):(h.push o).IsTuple a items:=by
 obtain⟨ob,e,r⟩:=x;exact⟨ob,IM _ e,r⟩
theorem Fl{k:Bool}(e:h.get? it=some {cls:=.type (vS k),data:=.fields #[.ref a,.int 0 0]}):j9 k h it a 0:=by
 cases k with
 |true=>exact⟨_,e,rfl,rfl⟩
 |false=>exact⟨_,e,rfl,rfl⟩
noncomputable def nV(K:Og):Sp:=λvs H Q _=>∃(a:Addr) (ns:List Int),vs=[.ref a]/\ck K H a (ns.map V.int)/\ns.length<=63/\∀H',Q (.bl true) H'
namespace Y
theorem Dz(hu:X.A.units<cLine):cI X (compareOp .NotEq) (Bd X.K true):=by
 intro pins s σ H x y v u Q I rx ry h;obtain⟨a,b,xs,ys,rfl,rfl,hq,fx,fy,q⟩:=h
 cases rx;cases ry
 have item:∀(its its2:List Value),Vals xs its->Vals ys its2->∀j (h1:j<its.toArray.size) (h2:j<its2.toArray.size),SeqAt.EqAt X.A.in1 s its.toArray[j] its2.toArray[j] (match xs[j]?,ys[j]? with|some x,some y=>vF x y|_,_=>true):=λits its2 r1 r2 j h1 h2=>by
  have l1:=r1.length;have l2:=r2.length;rw[IS] at h1 h2;obtain⟨u1,e1,g1⟩:=r1.get (i:=j) (x:=xs[j]) (IJ (by lia))
  obtain⟨u2,e2,g2⟩:=r2.get (i:=j) (x:=ys[j]) (IJ (by lia))
  rw[IJ (show j<xs.length by lia),IJ (show j<ys.length by lia)]
  have z1:its.toArray[j]=u1:=by
   rw[IJ h1] at e1;simpa using e1
  have z2:its2.toArray[j]=u2:=by
   rw[IJ h2] at e2;simpa using e2
  rw[z1,z2];exact mZ g1 g2 (Kq.mp fx _ (Ji _)) (Kq.mp fy _ (Ji _))
 rcases hq with ⟨ha,hb⟩|⟨ha,hb⟩
 ·obtain⟨its,r1,p1,_⟩:=I.list ha;obtain⟨its2,r2,p2,_⟩:=I.list hb;have l1:=r1.length;have l2:=r2.length;by_cases e:xs.length=ys.length
  ·refine SeqAt.RcNeAt.lists p1.isList p2.isList (by rw[IS,IS];lia) hu (item its its2 r1 r2) X.prog X.w X.xe _ ⟨.bl _,H,I,rfl,q _ ?_⟩
   rw[IS,<- l1,<- e,Kx,JW,Bool.true_and]
   try rfl
  ·refine Nd p1.isList p2.isList (by rw[IS,IS,Ni];lia) hu X.prog X.w X.xe _ ⟨.bl true,H,I,rfl,?_⟩
   exact q false (by rw[Jv.mpr e,MP])
 ·obtain⟨its,r1,p1,_⟩:=I.tuple ha;obtain⟨its2,r2,p2,_⟩:=I.tuple hb;have l1:=r1.length;have l2:=r2.length;refine SeqAt.RcNeAt.tuples p1 p2 hu (item its its2 r1 r2) X.prog X.w X.xe _ ⟨.bl _,H,I,rfl,q _ ?_⟩;rw[IS,IS,<- l1,<- l2,Bool.and_comm]
  try rfl
noncomputable def Gk(K:Og):R2:=λx y H Q=>GV x y H Q\/Bd K true x y H Q
theorem DL(K:Og)(hK:X.K=K)(hu:X.A.units<cLine):cI X (compareOp .NotEq) (Gk K):=by subst hK;exact Co.or (Dz hu)
theorem dQ:fillsNumberSlot (.type "tuple") "mul"=pure false:=
 PySem.fillsNumberSlot_seq (id:="tuple.__mul__") (r:=some (.builtin "tuple.__rmul__")) PySem.F.slot_tuple_mul.lookup (by decide +kernel) PySem.F.slot_tuple_rmul.lookup (by decide +kernel)
theorem hX:seqRepeat? (.type "tuple")=pure (some (.builtin "tuple.__mul__")):=by
 unfold seqRepeat?;rw[PySem.seqSlot_of (T:="tuple") (name:="__mul__") (id:="tuple.__mul__") PySem.F.slot_tuple_mul.lookup (by decide +kernel),PySem.seqSlot_of (T:="tuple") (name:="__rmul__") (id:="tuple.__rmul__") PySem.F.slot_tuple_rmul.lookup (by decide +kernel)];rfl
theorem jM(a:Int)(t:Tok)(l:Addr)(ob:Obj)(items:Array Value)(n:Nat)(hc:ob.cls=.type "tuple")(hd:ob.data=.seq items n):
  Meets (Builtin.«int.__rmul__» ⟨[.int a t,.ref l],[]⟩) (λ_ R s=>s.heap.get? l=some ob/\R (.ok (.ret Value.notImplemented)) s):=
 .of_wp λprog w A R s h=>by
  obtain⟨hp,g,d,tk,os⟩:=s;obtain⟨hl,h⟩:=h;obtain⟨c,dd,da,sl⟩:=ob;simp only at hc hd;subst hc hd
  wp_walk
  exact⟨_,rfl,h⟩
theorem Al(l:Addr)(items:Array Value)(ob:Obj)(n:Nat)(k:Int)(t:Tok)(hc:ob.cls=.type "tuple")(hd:ob.data=.seq items n)(hne:items.isEmpty=false)(h1:1<k)(h2:k<=1000)(hsz:items.size<=1000):
  Meets (Builtin.«tuple.__mul__» ⟨[.ref l,.int k t],[]⟩) (λ_ R s=>s.heap.get? l=some ob/\R (.ok (.ret (.ref s.heap.objs.size))) {s with heap:=s.heap.push {cls:=.type "tuple",data:=.seq ((List.replicate k.toNat items).foldl (·++·) #[])}}):=
 .of_wp λprog w A R s h=>by
  obtain⟨hp,g,d,tk,os⟩:=s;obtain⟨hl,h⟩:=h;obtain⟨c,dd,da,sl⟩:=ob;simp only at hc hd;subst hc hd;have e1:(decide (k < -(2^63)) || decide (k >= 2^63))=false:=by rw[Jq (by lia),Jq (by lia)];rfl
  have e2:(items.isEmpty || k == 1)=false:=by rw[hne,Jv.mpr (by lia)];rfl
  have e3:(decide (k<=0) || items.isEmpty)=false:=by rw[hne,Jq (by lia)];rfl
  wp_walk using LQ hl;rw[IT (by rw[e1];exact Jb)]
  have ht:IsTup (Shared.heap ⟨hp,g,d,tk,os⟩) l items:=⟨_,hl,rfl,n,rfl⟩;show wpAny _ _ (Builtin.Tuple.tupleItemsOf (.ref l) >>= _) _ _ _;refine IK (tupleItemsOf_ ht ?_);rw[IT (by rw[e2];exact Jb)]
  show wpAny _ _ (if (decide (k<=0) || items.isEmpty)=true then _ else _) _ _ _
  rw[IT (by rw[e3];exact Jb)]
  have hm:(items.size:Int)*k<=1000*1000:=Int.mul_le_mul (by lia) h2 (by lia) (by lia)
  show wpAny _ _ (if (items.size:Int)*k >(2^63-1) / 8 then _ else _) _ _ _
  rw[IT (by lia)]
  show wpAny _ _ (if Builtin.Tuple.tupleTooMany ((items.size:Int)*k)=true then _ else _) _ _ _
  have e4:Builtin.Tuple.tupleTooMany ((items.size:Int)*k)=false:=Jq (by
   have:((sizeLine:Nat):Int) >= 1000000:=by decide
   lia)
  rw[IT (by rw[e4];exact Jb)]
  have hl2:((List.replicate k.toNat items).foldl (·++·) #[]).size<=sizeLine:=by
   have fs:∀(m:Nat) (acc:Array Value),((List.replicate m items).foldl (·++·) acc).size=acc.size+m*items.size:=λm=>by
    induction m with
    |zero=>intro acc;simp
    |succ m ih=>intro acc;rw[J9,Mz,ih,Array.size_append,LN];lia
   rw[fs];have h3:k.toNat*items.size<=1000*1000:=Nat.mul_le_mul (by lia) hsz
   have h4:(1000000:Nat)<=sizeLine:=by decide
   simp;lia
  exact IK (m:=Builtin.Tuple.tupleExact _) (Km (Ja ⟨_,rfl,h⟩) hl2)
theorem vi(its:List Value):∀(m:Nat) (acc:List Value),(List.replicate m its.toArray).foldl (·++·) acc.toArray=(acc++(List.replicate m its).flatten).toArray:=λm acc=>foldl_rep its m acc
noncomputable def BK(K:Og):R2:=λx y H Q=>∃a k xs,x=.ref a/\y=.int k/\bu K H a xs/\xs≠[]/\xs.length<=1000/\1<k/\k<=1000/\∀p,H p=none->Q (.ref p) (upd H p (.tup (List.replicate k.toNat xs).flatten))
theorem sI:cI X (binaryOp .Mult) (BK X.K):=by
 intro pins s σ H x y v u Q I rx ry h;obtain⟨a,k,xs,rfl,rfl,hx,hne,hsz,h1,h2,q⟩:=h;cases rx;obtain⟨t,rfl⟩:=ry;obtain⟨its,r,p,hz⟩:=I.tuple hx;obtain⟨ob,ho,hc,n,hd⟩:=id p;have hlen:=r.length;have hemp:its.toArray.isEmpty=false:=by
  cases its with
  |nil=>cases r;exact absurd rfl hne
  |cons a b=>rfl
 refine KL (T:="tuple") (U:="int") (by decide) ⟨_,ho,hc⟩ (λs'=>Lg s' k t) dQ PySem.F.fills_int_mul PySem.F.slot_int_rmul hX PySem.F.slot_int_index.lookup
  (Kw PySem.F.slot_int_rmul (Lg s k t) PySem.F.entry_int_rmul (PySem.F.args_int_rmul_2 _ _) (jM k t a ob its.toArray n hc hd)
   ⟨ho,rfl,⟨_,ho,hc⟩,Kw PySem.F.slot_tuple_mul ⟨_,ho,hc⟩ PySem.F.entry_tuple_mul (PySem.F.args_tuple_mul_2 _ _) (Al a its.toArray ob n k t hc hd hemp h1 h2 (by rw[IS];lia)) ⟨ho,?_⟩⟩)
 have e0:=vi its k.toNat [];rw[J_] at e0;have e0':(List.replicate k.toNat its.toArray).foldl (·++·) #[]=(List.replicate k.toNat its).flatten.toArray:=e0;rw[e0'];refine⟨.ref s.heap.objs.size,_,I.laid (t':=s.toks) (o:=.tup (List.replicate k.toNat xs).flatten) (λb ob q=>IM _ q) (IU _) ?_,rfl,q _ (I.bc.fresh (IU _))⟩;refine⟨?_,_,r.rep k.toNat,d7.new _ _⟩;rw[len_rep];have h3:k.toNat*xs.length<=1000*1000:=Nat.mul_le_mul (by lia) hsz
 exact IY h3 (by decide)
noncomputable def Ct(K:Og):R2:=λx y H Q=>DH x y H Q\/BK K x y H Q
theorem nJ(K:Og)(hK:X.K=K):cI X (binaryOp .Mult) (Ct K):=by subst hK;exact bR.or sI
end Y
open PySem PySem.Spec PyProof PyProof.Rows
namespace Y
theorem i3:∀{us:List Value} {ns:List Int},IntsAre us ns->Vals (ns.map V.int) us
 |_,_,.nil=>.nil
 |_,_,.cons n t h=>.cons ⟨t,rfl⟩ (i3 h)
theorem pP:∀{us:List Value} {ns:List Int},IntsAre us ns->us.length=ns.length
 |_,_,.nil=>rfl
 |_,_,.cons n t h=>by simp[pP h]
section
variable {prog:Program} {w:World} {A:Around} {E:Value->Shared->Prop} {s:Shared}
theorem oy{l:Addr}{vs:List Value}{Q:List Value->Shared->Prop}(hl:IsTup s.heap l vs.toArray)(hsz:vs.length<=sizeLine)
  (h:Q vs {s with heap:=(s.heap.push (seqObj "list" #[] 0)).update s.heap.objs.size (Obj.mapSeq (·++vs.toArray))}):wpAny (model prog w) A (collect (.ref l)) Q E s:=by
 obtain⟨o,ho,hc,n,hd⟩:=id hl;unfold collect;refine IK (wpAny_runValue (Li entry_proto_collect' ?_));show wpAny _ _ (do again (.builtin "list.__iadd__" ⟨[<- newList [],.ref l],[]⟩)) _ _ s
 refine IK (LF (Ja ⟨Code.quiet_builtin _ (by decide +kernel),Li entry_list_iadd' ?_⟩))
 show wpAny _ _ (Builtin.List.listExtendWith (.ref s.heap.objs.size) (.ref l) (.ref s.heap.objs.size)) _ _ {s with heap:=s.heap.push (seqObj "list" #[] 0)}
 unfold Builtin.List.listExtendWith;have ho':(s.heap.push (seqObj "list" #[] 0)).get? l=some o:=IM _ ho;refine IK (M6 (T:="tuple") ⟨o,ho',hc⟩ ?_);have ht:(Value.type "tuple" == Value.type "tuple")=true:=by rfl
 rw[IW (by rw[ht];simp)]
 refine IK (M7 ho' hd ?_);refine IK (M7 (xs:=#[]) (n:=0) (Jf _ rfl) rfl ?_);rw[IT (by simp)]
 refine IK (Mg (xs:=#[]) (n:=0) (Jf _ rfl) rfl ?_ (Jj _) (by show (#[]++vs.toArray).size<=sizeLine+1;simp only[Array.size_append,IS,Ka];lia))
 refine Ja ?_;show wpAny (model prog w) A (load s.heap.objs.size >>= _) Q E {s with heap:=(s.heap.push (seqObj "list" #[] 0)).update s.heap.objs.size (Obj.mapSeq (·++vs.toArray))}
 refine IK (wpAny_load (LI (Jf _ rfl) _) ?_);show wpAny _ _ (pure ((#[]:Array Value)++vs.toArray).toList) Q E _;rw[show ((#[]:Array Value)++vs.toArray).toList=vs by simp]
 exact Ja h
theorem qN{l:Addr}{vs:List Value}(hl:IsTup s.heap l vs.toArray)(hI:IntsAre vs ns)(h64:vs.length<64)
  (h:∀(out:Array Value) (ns':List Int),IntsAre out.toList ns'->ns'.Perm ns->ns'.Pairwise (·<=·)->Q (.ref (s.heap.objs.size+1)) {s with heap:=sortedAll s.heap vs out}) :
  wpAny (model prog w) A (call (.builtin "sorted") [.ref l]) Q E s:=by
 have hz:vs.length<=sizeLine:=IY (K2 h64) (by decide)
 refine Nj kind_sorted plain_sorted entry_sorted (args_sorted1 _) ?_;unfold Builtin.«sorted»;refine IK (m:=checkCount "sorted" 1 1 _) (Ja ?_);refine IK (oy hl hz ?_);refine IK (LF ?_ hz);have hs:((s.heap.push (seqObj "list" #[] 0)).update s.heap.objs.size (Obj.mapSeq (·++vs.toArray))).objs.size=s.heap.objs.size+1:=by rw[Nv,size_push']
 have ho:(((s.heap.push (seqObj "list" #[] 0)).update s.heap.objs.size (Obj.mapSeq (·++vs.toArray))).push (seqObj "list" vs.toArray 0)).get? (s.heap.objs.size+1)=some (seqObj "list" vs.toArray 0):=by
  rw[<- hs];exact Jf _ rfl
 show wpAny _ _ _ _ _ {s with heap:=((s.heap.push (seqObj "list" #[] 0)).update s.heap.objs.size (Obj.mapSeq (·++vs.toArray))).push (seqObj "list" vs.toArray 0)}
 rw[hs];refine IK (JN (JS slot_list_sort ⟨_,ho,rfl⟩ entry_list_sort (list_sort_tree ho hI h64 λout ns' a1 a2 a3=>⟨_,rfl,?_⟩) (args_list_sort _)));exact Ja ⟨_,rfl,h out ns' a1 a2 a3⟩
end
noncomputable def Hc(K:Og):List V->Hp->VK->Prop:=λxs H Q=>∃p ns,xs=[.ref p]/\bu K H p (ns.map V.int)/\ns.length<64/\∀ns':List Int,ns'.Perm ns->ns'.Pairwise (·<=·)->∀l,H l=none->Q (.ref l) (upd H l (.lst (ns'.map V.int)))
theorem uD(K:Og)(hK:X.K=K):bD X (.builtin "sorted") (Hc K):=by
 subst hK;intro pins s σ H xs us Q I r h;obtain⟨p,ns,rfl,hq,h64,q⟩:=h;obtain⟨u,rfl,ru⟩:=vals1 r;cases ru;obtain⟨its,rv,pl,hz⟩:=I.tuple hq;have hi:=intsAre_of rv;refine qN pl hi (by rw[pP hi];exact h64) λout ns' a1 a2 a3=>?_
 obtain⟨e,he⟩:=sortedAll_at s.heap its out;refine⟨.ref (s.heap.objs.size+1),_,I.laid (t':=s.toks) (λb ob q=>sortedAll_old q) (Kh _) (show b6 X.prog X.w _ _ _ (.lst (ns'.map V.int)) from⟨?_,out.toList,e,i3 a1,by simpa using he⟩),rfl,q ns' a2 a3 _ (I.bc.fresh (Kh _))⟩
 rw[IP,a2.length_eq];exact IY (K2 h64) (by decide)
theorem wC(l:List Nat):∀(n a:Nat),((List.range n).map (λk=>a+k)).filterMap (l[·]?)=(l.drop a).take n
 |0,_=>by simp
 |n+1,a=>by
  rw[M8,Jm,List.filterMap_append,wC l n a,List.take_add_one,Kc]
  cases h:l[a+n]?<;>simp[h]
theorem nX(lo hi:Option Int)(n:Nat):Builtin.Str.strSliceIndices lo hi 1 n=(List.range (HT.bP n n hi-HT.bP n 0 lo)).map (λk=>HT.bP n 0 lo+k):=by
 have ea:∀(v:Int),max 0 (min (if v<0 then v+(n:Int) else v) (n:Int))=(((if v<0 then (v+(n:Int)).toNat else min v.toNat n):Nat):Int):=by
  intro v;split<;>lia
 have e:Builtin.Str.strSliceIndices lo hi 1 n=sliceRange (HT.bP n 0 lo) (HT.bP n n hi) 1:=by
  cases lo with
  |none=>cases hi with
   |none=>rfl
   |some j=>show sliceRange 0 (max 0 (min (if j<0 then j+(n:Int) else j) (n:Int))) 1=_;rw[ea];rfl
  |some i=>cases hi with
   |none=>show sliceRange (max 0 (min (if i<0 then i+(n:Int) else i) (n:Int))) n 1=_;rw[ea];rfl
   |some j=>show sliceRange (max 0 (min (if i<0 then i+(n:Int) else i) (n:Int))) (max 0 (min (if j<0 then j+(n:Int) else j) (n:Int))) 1=_;rw[ea,ea];rfl
 rw[e];generalize HT.bP n 0 lo=a;generalize HT.bP n n hi=b;unfold sliceRange;simp only[show ((1:Int) > 0)=True from by simp,Mo,Int.one_mul]
 have c:(if (a:Int)<(b:Int) then ((b:Int)-a+1-1) / 1 else 0).toNat=b-a:=by split<;>lia
 rw[c];refine List.map_congr_left λk _=>?_;lia
theorem qz(z:Str)(lo hi:Option Int):Txt.slice z lo hi=⟨((z.cps.toList.drop (HT.bP z.cps.toList.length 0 lo)).take (HT.bP z.cps.toList.length z.cps.toList.length hi-HT.bP z.cps.toList.length 0 lo)).toArray⟩:=by
 have hl:z.cps.toList.length=z.length:=J8;rw[hl];have hp:(Builtin.Str.strSliceIndices lo hi 1 z.length).filterMap (z.cps[·]?)=(z.cps.toList.drop (HT.bP z.length 0 lo)).take (HT.bP z.length z.length hi-HT.bP z.length 0 lo):=by
  rw[nX];have:=wC z.cps.toList (HT.bP z.length z.length hi-HT.bP z.length 0 lo) (HT.bP z.length 0 lo)
  simpa using this
 unfold Txt.slice;split
 ·rename_i h;rw[nX] at h;simp at h;have h2:=HT.qB z.length z.length (IU _) hi;have h3:=HT.qB z.length 0 (Jj _) lo;have a0:HT.bP z.length 0 lo=0:=by lia
  have b0:HT.bP z.length z.length hi=z.length:=by lia
  rw[a0,b0,Kj,M9,<- hl,Ke]
 ·rw[hp]
noncomputable def iw(z:Str)(lo hi:Option Int):Str:=⟨(rS z.cps.toList lo hi).toArray⟩
theorem uH(z:Str)(lo hi:Option Int):Txt.slice z lo hi=iw z lo hi:=qz z lo hi
noncomputable def HD:V->Option Int->Option Int->Hp->VK->Prop:=λx lo hi H Q=>∃z,x=.str z/\z.length<=sizeLine/\Q (.str (iw z lo hi)) H
theorem j7:sJ X HD:=by
 intro pins s σ H x v vl vu lo hi sl Q I rx hs pl pu h;obtain⟨z,rfl,hz,q⟩:=h;rw[<- uH] at q;obtain⟨t,rfl⟩:=rx;refine⟨"str",_,PySem.F.slot_str_getitem.lookup,NX _ _ _,?_⟩
 cases pl<;>cases pu
 ·exact Ld (l:=none) (u:=none) (st:=none) hs rfl (MB ⟨IY (Txt.slice_le z _ _) hz,λt' k=>⟨.str _,H,I.tok _,⟨_,rfl⟩,q⟩⟩)
 ·exact Ld (l:=none) (u:=some (_,_)) (st:=none) hs rfl (MB ⟨IY (Txt.slice_le z _ _) hz,λt' k=>⟨.str _,H,I.tok _,⟨_,rfl⟩,q⟩⟩)
 ·exact Ld (l:=some (_,_)) (u:=none) (st:=none) hs rfl (MB ⟨IY (Txt.slice_le z _ _) hz,λt' k=>⟨.str _,H,I.tok _,⟨_,rfl⟩,q⟩⟩)
 ·exact Ld (l:=some (_,_)) (u:=some (_,_)) (st:=none) hs rfl (MB ⟨IY (Txt.slice_le z _ _) hz,λt' k=>⟨.str _,H,I.tok _,⟨_,rfl⟩,q⟩⟩)
noncomputable def ko(z y:Str)(i:Int):Bool:=decide (fromIndex z.length i+y.length<=z.length) && Builtin.Str.subAt z y (fromIndex z.length i)
noncomputable def yo:V->List V->Hp->VK->Prop:=λx vs H Q=>∃z y i,x=.str z/\vs=[.str y,.int i]/\Q (.bl (ko z y i)) H
theorem rp:wZ X "str.startswith" yo:=by
 intro pins s σ H x xs v us Q I rx rs h;obtain⟨z,y,i,rfl,rfl,q⟩:=h;obtain⟨t,rfl⟩:=rx;obtain⟨_,_,rfl,r1,rs⟩:=Paired.gP rs;obtain⟨_,_,rfl,r2,rs⟩:=Paired.gP rs;obtain rfl:=Paired.qF rs;obtain⟨u1,rfl⟩:=r1;obtain⟨u2,rfl⟩:=r2;exact call_gives PySem.F.slot_str_startswith (NX _ _ _) PySem.F.entry_str_startswith (PySem.F.args_str_startswith_3 _ _ _) (gives_str_startswith_from z y i t _ _) ⟨.bl _,H,I,rfl,q⟩
end Y
abbrev Xw:=T->Mu->Prop
abbrev UX:=Mu->(R->Mu->Prop)->Xw->Prop
abbrev Iv:=Ed->Xw->Mu->Prop
noncomputable def CK(K:Og)(mg:Str->Option Value)(x:Str)(f:Addr)(cdv:Value):Prop:=mg x=some (.ref f)/\∃(o:Obj) (fd:FuncData),K.lookup f=some o/\o.data=.func fd/\fd.code=cdv
abbrev UJ:=Mu->(Mu->Prop)->Prop
noncomputable def jN(n m:Nat)(e:Nat->Bool):Bool:=(List.range (min n m)).all e && n == m
inductive nT:Nat->T->T->Bool->Prop
 |flat {n:Nat} {t u:T} (f1:lS t=true) (f2:lS u=true):nT n t u (Y.Cr t u)
 |tup {n:Nat} {xs ys:List T} (e:Nat->Bool) (h:∀(j:Nat) (x y:T),xs[j]?=some x->ys[j]?=some y->nT n x y (e j)):nT (n+1) (.tup xs) (.tup ys) (jN xs.length ys.length e)
 |lst {n:Nat} {xs ys:List T} (e:Nat->Bool) (h:∀(j:Nat) (x y:T),xs[j]?=some x->ys[j]?=some y->nT n x y (e j)):nT (n+1) (.lst xs) (.lst ys) (jN xs.length ys.length e)
theorem vU{t:T}{v:V}{B:kJ}(h1:Rep K H B v t)(h2:Rep K H B v u)(f1:lS t=true)(f2:lS u=true):Y.Cr t u=true:=by
 cases h1<;>first | (cases f1;done) | (cases h2<;>first | (cases f2;done)|simp[Y.Cr])
theorem iU{n m:Nat}{e:Nat->Bool}(h:n=m)(h2:∀j,j<n->e j=true):jN n m e=true:=by
 subst h;unfold jN;rw[Kx,JW,Mh,Kq];intro j hj;exact h2 j (by simpa using hj)
theorem nT.same{n:Nat}{t:T}{b:Bool}(d:nT n t u b):∀{K:Og} {H:Hp} {B:kJ} {v:V},Rep K H B v t->Rep K H B v u->b=true:=by
 induction d with
 |flat f1 f2=>exactλh1 h2=>vU h1 h2 f1 f2
 |tup e h ih =>
  rename_i nn xs ys;intro K H B v h1 h2
  cases h1 with
  |tup n1 a1 r1=>cases h2 with
   |tup n2 a2 r2 =>
    rw[a1] at a2;cases a2;refine iU (r1.length.symm.trans r2.length) λj hj=>?_;have hx:=IJ hj;have hj2:j<ys.length:=by rw[<- r2.length,r1.length];exact hj
    have hy:=IJ hj2;obtain⟨v1,g1,p1⟩:=r1.get hx;obtain⟨v2,g2,p2⟩:=r2.get hy;rw[g1] at g2;cases g2;exact ih j _ _ hx hy p1 p2
 |lst e h ih =>
  rename_i nn xs ys;intro K H B v h1 h2
  cases h1 with
  |lst n1 a1 r1=>cases h2 with
   |lst n2 a2 r2 =>
    rw[a1] at a2;cases a2;refine iU (r1.length.symm.trans r2.length) λj hj=>?_;have hx:=IJ hj;have hj2:j<ys.length:=by rw[<- r2.length,r1.length];exact hj
    have hy:=IJ hj2;obtain⟨v1,g1,p1⟩:=r1.get hx;obtain⟨v2,g2,p2⟩:=r2.get hy;rw[g1] at g2;cases g2;exact ih j _ _ hx hy p1 p2
section
variable {X:Cx} {pins:List (Addr×Obj)} {σ:St} {H:Hp} {s:Shared} {B:kJ}
theorem eU{A:Around}{n:Nat}{xs:List T}{vs:List V}{e:Nat->Bool}(r1:cX X.K H B vs xs)(r2:cX X.K H B ws ys)(g1:Vals vs its)(g2:Vals ws its2)
  (ih:∀(j:Nat) (x y:T),xs[j]?=some x->ys[j]?=some y->∀(v w:V) (a b:Value),Rep X.K H B v x->Rep X.K H B w y->RelV v a->RelV w b->SeqAt.EqAt A s a b (e j)) :
  ∀j (h1:j<its.toArray.size) (h2:j<its2.toArray.size),SeqAt.EqAt A s its.toArray[j] its2.toArray[j] (e j):=by
 intro j h1 h2;have l1:=g1.length;have l2:=g2.length;have l3:=r1.length;have l4:=r2.length;rw[IS] at h1 h2;have hx:=IJ (show j<xs.length by lia)
 have hy:=IJ (show j<ys.length by lia)
 obtain⟨v1,q1,p1⟩:=r1.get hx;obtain⟨v2,q2,p2⟩:=r2.get hy;obtain⟨u1,e1,f1⟩:=g1.get q1;obtain⟨u2,e2,f2⟩:=g2.get q2;have z1:its.toArray[j]=u1:=by
  rw[IJ h1] at e1;simpa using e1
 have z2:its2.toArray[j]=u2:=by
  rw[IJ h2] at e2;simpa using e2
 rw[z1,z2];exact ih j _ _ hx hy v1 v2 u1 u2 p1 p2 f1 f2
theorem eV{vs:List V}{xs:List T}(e:Nat->Bool)(r1:cX X.K H B vs xs)(r2:cX X.K H B ws ys)(g1:Vals vs its)(g2:Vals ws its2):((List.range (min its.toArray.size its2.toArray.size)).all e && its.toArray.size == its2.toArray.size)=jN xs.length ys.length e:=by
 have l1:=g1.length;have l2:=g2.length;have l3:=r1.length;have l4:=r2.length;unfold jN;rw[IS,IS,<- l1,<- l2,l3,l4]
theorem wJ{n:Nat}{t:T}{b:Bool}(d:nT n t u b):∀(I:Inv X pins σ H s) {A:Around} (hu:A.units+n<cLine) (v w:V) (a c:Value),Rep X.K H B v t->Rep X.K H B w u->RelV v a->RelV w c->SeqAt.EqAt A s a c b:=by
 induction d with
 |flat f1 f2 =>
  intro I A hu v w a c h1 h2 r1 r2;obtain⟨z1,z2,z3⟩:=Y.GF h1 h2 f1 f2;rw[<- z3];exact mZ r1 r2 z1 z2
 |tup e h ih =>
  intro I A hu v w a c h1 h2 r1 r2;rename_i n xs ys;have h1':=h1;have h2':=h2
  cases h1 with
  |tup n1 a1 q1=>cases h2 with
   |tup n2 a2 q2 =>
    rename_i p1 vs p2 ws
    cases r1;cases r2
    by_cases z:p1=p2
    ·subst z;rw[(nT.tup (n:=n) e h).same h1' h2'];exact SeqAt.EqAt.same _
    ·obtain⟨its,g1,pl1,_⟩:=I.tuple (bu.of a1);obtain⟨its2,g2,pl2,_⟩:=I.tuple (bu.of a2);rw[<- eV (X:=X) e q1 q2 g1 g2];exact MZ z (SeqAt.RcAt.tuples pl1 pl2 (by lia) (eU (n:=n) q1 q2 g1 g2 λj x y hx hy v w a c=>ih j x y hx hy I (A:=A.in1) (by show A.units+1+n<cLine;lia) v w a c))
 |lst e h ih =>
  intro I A hu v w a c h1 h2 r1 r2;rename_i n xs ys;have h1':=h1;have h2':=h2
  cases h1 with
  |lst n1 a1 q1=>cases h2 with
   |lst n2 a2 q2 =>
    rename_i p1 vs p2 ws
    cases r1;cases r2
    by_cases z:p1=p2
    ·subst z;rw[(nT.lst (n:=n) e h).same h1' h2'];exact SeqAt.EqAt.same _
    ·obtain⟨its,g1,pl1,_⟩:=I.list (ck.of a1);obtain⟨its2,g2,pl2,_⟩:=I.list (ck.of a2);have sz:=eV (X:=X) e q1 q2 g1 g2;rw[<- sz];by_cases hs:its.toArray.size=its2.toArray.size
     ·rw[hs,Kx,JW,Mh,<- hs];exact MZ z (SeqAt.RcAt.lists pl1.isList pl2.isList hs (by lia) (eU (n:=n) q1 q2 g1 g2 λj x y hx hy v w a c=>ih j x y hx hy I (A:=A.in1) (by show A.units+1+n<cLine;lia) v w a c))
     ·rw[Jv.mpr hs,MT];exact MZ z (SeqAt.RcAt.lists_lengths pl1.isList pl2.isList (Ni.mpr hs) (by lia))
end
namespace Y
noncomputable def qo(K:Og)(n:Nat)(neg:Bool):R2:=λx y H Q=>∃(B:kJ) (a b:Addr) (vs ws:List V) (xs ys:List T) (e:Nat->Bool),x=.ref a/\y=.ref b/\((bu K H a vs/\bu K H b ws)\/(ck K H a vs/\ck K H b ws))/\cX K H B vs xs/\cX K H B ws ys /\
 (∀(j:Nat) (x y:T),xs[j]?=some x->ys[j]?=some y->nT n x y (e j))/\Q (.bl (if neg then !jN xs.length ys.length e else jN xs.length ys.length e)) H
theorem Bh{X:Cx}{n:Nat}(hu:X.A.units+n+1<cLine):cI X (compareOp .Eq) (qo X.K n false):=by
 intro pins s σ H x y v u Q I rx ry h;obtain⟨B,a,b,vs,ws,xs,ys,e,rfl,rfl,hq,r1,r2,ih,q⟩:=h
 cases rx;cases ry
 have it:∀(j:Nat) (x y:T),xs[j]?=some x->ys[j]?=some y->∀(v w:V) (a b:Value),Rep X.K H B v x->Rep X.K H B w y->RelV v a->RelV w b->SeqAt.EqAt X.A.in1 s a b (e j):=λj x y hx hy v w a c=>wJ (ih j x y hx hy) I (A:=X.A.in1) (by show X.A.units+1+n<cLine;lia) v w a c
 rcases hq with ⟨ha,hb⟩|⟨ha,hb⟩
 ·obtain⟨its,g1,p1,_⟩:=I.tuple ha;obtain⟨its2,g2,p2,_⟩:=I.tuple hb;refine SeqAt.eq_tupleAt p1 p2 (by lia) (eU (n:=n) r1 r2 g1 g2 it) ⟨.bl _,H,I,rfl,?_⟩
  rw[eV (X:=X) e r1 r2 g1 g2];exact q
 ·obtain⟨its,g1,p1,_⟩:=I.list ha;obtain⟨its2,g2,p2,_⟩:=I.list hb;have sz:=eV (X:=X) e r1 r2 g1 g2;by_cases hs:its.toArray.size=its2.toArray.size
  ·rw[hs,Kx,JW,Mh,<- hs] at sz;refine N9 p1.isList p2.isList hs (by lia) (eU (n:=n) r1 r2 g1 g2 it) ⟨.bl _,H,I,rfl,?_⟩
   rw[sz];exact q
  ·rw[Jv.mpr hs,MT] at sz;refine LY p1.isList p2.isList (Ni.mpr hs) (by lia) ⟨.bl _,H,I,rfl,?_⟩
   rw[sz];exact q
theorem AH{X:Cx}{n:Nat}(hu:X.A.units+n+1<cLine):cI X (compareOp .NotEq) (qo X.K n true):=by
 intro pins s σ H x y v u Q I rx ry h;obtain⟨B,a,b,vs,ws,xs,ys,e,rfl,rfl,hq,r1,r2,ih,q⟩:=h
 cases rx;cases ry
 have it:∀(j:Nat) (x y:T),xs[j]?=some x->ys[j]?=some y->∀(v w:V) (a b:Value),Rep X.K H B v x->Rep X.K H B w y->RelV v a->RelV w b->SeqAt.EqAt X.A.in1 s a b (e j):=λj x y hx hy v w a c=>wJ (ih j x y hx hy) I (A:=X.A.in1) (by show X.A.units+1+n<cLine;lia) v w a c
 rcases hq with ⟨ha,hb⟩|⟨ha,hb⟩
 ·obtain⟨its,g1,p1,_⟩:=I.tuple ha;obtain⟨its2,g2,p2,_⟩:=I.tuple hb;refine SeqAt.RcNeAt.tuples p1 p2 (by lia) (eU (n:=n) r1 r2 g1 g2 it) X.prog X.w X.xe _ ⟨.bl _,H,I,rfl,?_⟩
  rw[eV (X:=X) e r1 r2 g1 g2];exact q
 ·obtain⟨its,g1,p1,_⟩:=I.list ha;obtain⟨its2,g2,p2,_⟩:=I.list hb;have sz:=eV (X:=X) e r1 r2 g1 g2;by_cases hs:its.toArray.size=its2.toArray.size
  ·rw[hs,Kx,JW,Mh,<- hs] at sz;refine SeqAt.RcNeAt.lists p1.isList p2.isList hs (by lia) (eU (n:=n) r1 r2 g1 g2 it) X.prog X.w X.xe _ ⟨.bl _,H,I,rfl,?_⟩
   rw[sz];exact q
  ·rw[Jv.mpr hs,MT] at sz;refine Nd p1.isList p2.isList (Ni.mpr hs) (by lia) X.prog X.w X.xe _ ⟨.bl true,H,I,rfl,?_⟩
   have q2:=q;rw[<- sz] at q2;exact q2
end Y
theorem gY{A:Around}(hr:bI k A):A.units+4+1<cLine:=JU (Nat.add_le_add_left (by decide:4+1<=64) _) hr.units
namespace Y
noncomputable def GC(K:Og):R2:=λx y H Q=>Ha K x y H Q\/qo K 4 false x y H Q
theorem mS(K:Og)(hK:X.K=K)(hu:X.A.units+4+1<cLine):cI X (compareOp .Eq) (GC K):=by subst hK;exact (Ef X.K rfl (by lia)).or (Bh hu)
noncomputable def FI(K:Og):R2:=λx y H Q=>Gk K x y H Q\/qo K 4 true x y H Q
theorem rO(K:Og)(hK:X.K=K)(hu:X.A.units+4+1<cLine):cI X (compareOp .NotEq) (FI K):=by subst hK;exact (DL X.K rfl (by lia)).or (AH hu)
end Y
theorem pA:∀{ws:List Str} {its:List Value},Vals (ws.map V.str) its->∀(m:Nat) (y:Str),ws[m]?=some y->∃t,its[m]?=some (.str y t):=λr m y e=>by
 obtain⟨u,h1,h2⟩:=r.get (i:=m) (x:=V.str y) (by rw[I_,e];rfl)
 obtain⟨t,rfl⟩:=(show RelV (.str y) u from h2);exact⟨t,h1⟩
open Builtin Builtin.Str
open PySem PySem.Spec PyProof PyProof.Rows
noncomputable def wN(K:Og)(ws:List Str)(v:Value):Prop:=∃p,v=.ref p/\Fp K p (ws.map V.str)
structure lh (K:Og) (a:Addr) (D:List (Str×List Str)):Prop where
 low:(a == sysModules)=false
 ex:∃o es ep,K.lookup a=some o/\o.ExactDict/\o.data=.dict es ep/\KTD.Rows (wN K) es.toList D
section
variable {prog:Program} {w:World} {A:Around} {E:Value->Shared->Prop} {s:Shared} {K:Og} {a:Addr} {D:List (Str×List Str)} {k:Str} {tk:Tok}
theorem lh.typeIs(T:lh K a D)(X:K.In s.heap):s.TypeIs (.ref a) "dict":=let ⟨o,_,_,ho,hc,_⟩:=T.ex;⟨o,X _ _ ho,hc.1⟩
theorem yW{Q:Option Value->Shared->Prop}(T:lh K a D)(X:K.In s.heap)(h1:∀d v,KTD.datumAt k D=some d->wN K d v->Q (some v) {s with toks:=s.toks+1})(h2:KTD.datumAt k D=none->Q none {s with toks:=s.toks+1}):
  wpAny (model prog w) A (dictGet a (.str k tk)) Q E s:=by
 obtain⟨o,es,ep,ho,hc,hd,hr⟩:=T.ex;have ho:=X _ _ ho;unfold dictGet
 try with_reducible refine JN ?_
 refine IK (wpAny_pyHash_str (IK (KTD.kt_dictFind_strs (s:={s with toks:=s.toks+1}) ho hd (by obtain⟨l⟩:=es;simpa using hr.exact) ?_)))
 have hq:Q (findBy (λk v=>v.isStr k) es k) {s with toks:=s.toks+1}:=by
  have hf:findBy (λk v=>v.isStr k) es k=(es.toList.find? λe=>e.key.isStr k).map (·.val):=by
   obtain⟨l⟩:=es;simp[findBy]
  rw[hf]
  cases hat:KTD.datumAt k D with
  |some d=>obtain⟨v,hv,hfl⟩:=hr.find_some hat;rw[hv];exact h1 d v hat hfl
  |none=>rw[hr.find_none hat];exact h2 hat
 rw[findBy_of_findIdx?] at hq
 cases hi:es.findIdx? λe=>e.key.isStr k with
 |none=>rw[hi] at hq;exact Ja hq
 |some i=>rw[hi] at hq;exact IK (L_ (s:={s with toks:=s.toks+1}) ho hd (Ja hq))
end
namespace Y
theorem l_:∀(more kvs:List (Key×V)),((kvs++more).map (·.1)).Nodup->fY kvs more=kvs++more
 |[],kvs,_=>by rw[JE];rfl
 |p::r,kvs,h=>by
  have hn:gX kvs p.1=none:=by
   cases hv:gX kvs p.1 with
   |none=>rfl
   |some v =>
    have hm:=zZ hv;rw[Jm,Jy] at h;have:=List.nodup_append.mp h;exact absurd rfl (this.2.2 _ hm _ IZ)
  show fY (putK kvs p.1 p.2) r=_;rw[xg p.2 hn,l_ r _ (by rw[Jl];exact h),Jl]
  rfl
end Y
noncomputable def iQ{α:Type}(xs:List α)(i:Nat)(y:α):List α:=xs.take i++y::xs.drop i
noncomputable def Au:V->List V->Hp->VK->Prop:=λx vs H Q=>∃l xs i y,x=.ref l/\vs=[.int i,y]/\H l=some (.lst xs)/\0<=i/\i<2^63/\xs.length<sizeLine/\Q .aT (upd H l (.lst (iQ xs (min i.toNat xs.length) y)))
theorem my{X:Cx}:Hs X "list.insert" Au:=by
 intro pins s σ H x vs v us Q I rx rv h;obtain⟨l,xs,i,y,rfl,rfl,hH,h0,h1,hz,q⟩:=h;cases rx;obtain⟨u,w',rfl,⟨t,rfl⟩,rw'⟩:=vals2 rv;obtain⟨z,its,n,r,hl,e⟩:=I.r8 hH;have hfit:¬ (!Builtin.List.listFitsIndex i)=true:=by
  have:=NO (k:=i) (by lia) h1
  rw[this];exact Jb
 refine Kw F.slot_list_insert ⟨_,e,rfl⟩ F.entry_list_insert (F.args_list_insert_3 _ _ _) (AutoSeq1.list_insert_list_int_val_1 l its.toArray n i t w' hfit (by rw[IS];lia)) ⟨e,?_⟩
 have el:its.length=xs.length:=hl.symm;refine⟨.aT,_,I.Ek (its':=iQ its (min i.toNat its.length) w') hH e ?_ ?_ ?_,rfl,q⟩
 ·show (have k:=if i<0 then _ else min i.toNat its.toArray.size;(its.toArray.extract 0 k).push w'++its.toArray.extract k)=_
  rw[IT (by lia)]
  apply Nw.mp;unfold iQ;simp[Nk,JR]
 ·rw[el];unfold iQ;exact (r.take _).append (.cons rw' (r.drop _))
 ·unfold iQ;rw[IL,Jd,Jn,JC];lia
open Builtin Builtin.Str
open PySem PySem.Spec PyProof PyProof.Rows
open Builtin Builtin.Str
section
variable {prog:Program} {w:World} {A:Around} {E:Value->Shared->Prop} {h:Heap} {g:Array GenState} {d:Drawn} {t:Nat} {os:OsState} {a:Addr} {items:Array Value} {cn:Nat}
theorem AN:typeLookup (.type "list") "keys"=pure none:=am_miss_of_fast (by kernel_rfl)
theorem rJ:typeLookup (.type "list") "__getattr__"=pure none:=by rw[typeLookup_type,builtinLookup_eq_fast];kernel_rfl
theorem yv{name:Str}{tk:Tok}{Q:Fin->Shared->Prop}(hx:h.get? a=some {cls:=.type "list",dict:=none,data:=.seq items cn,slots:=#[]})(hmiss:typeLookup (.type "list") name=pure none)(hnc:(["__module__","__name__","__qualname__","__doc__","__annotations__"]:List Str).contains name=false)(hh:A.handled=none)
  (hq:∀h' tk' e,Heap.NewAttrErr h h' e (.ref a) name->E (.ref e) ⟨h',g,d,tk',os⟩) (hsz:name.length+100<=sizeLine:=by size_fits) :
  wpAny (model prog w) A (Builtin.«object.__getattribute__» ⟨[.ref a,.str name tk],[]⟩) Q E ⟨h,g,d,t,os⟩:=by
 have hT:(⟨h,g,d,t,os⟩:Shared).TypeIs (.ref a) "list":=⟨_,hx,rfl⟩;unfold Builtin.«object.__getattribute__»
 repeat (any_goals (first|assumption|wp_step))
 rw[IT (by rw[hnc];decide)]
 repeat (any_goals (first|assumption|wp_step))
 exact wpAny_raiseAttrError hh hq (attrMsg_fits (by decide +kernel) hsz)
theorem Bx{name:Str}{tk:Tok}{R:Result->Shared->Prop}(hx:h.get? a=some {cls:=.type "list",dict:=none,data:=.seq items cn,slots:=#[]})(hmiss:typeLookup (.type "list") name=pure none)(hnc:(["__module__","__name__","__qualname__","__doc__","__annotations__"]:List Str).contains name=false)(hh:A.handled=none)
  (hq:∀h' tk' e,Heap.NewAttrErr h h' e (.ref a) name->R (.error (.ref e)) ⟨h',g,d,tk',os⟩) (hsz:name.length+100<=sizeLine:=by size_fits) :
  codeAny (model prog w) A (.call (.builtin "list.__getattribute__") ⟨[.ref a,.str name tk],[]⟩) R ⟨h,g,d,t,os⟩:=
 codeAny_call_builtin KR.plain F.entry_list_ga (KR.check _ _ _ _ _ _ _ _ (show (⟨h,g,d,t,os⟩:Shared).TypeIs (.ref a) "list" from⟨_,hx,rfl⟩) (F.args_list_getattribute_2 _ _) (yv hx hmiss hnc hh hq hsz))
theorem FA{name:Str}{tk:Tok}{Q:Value->Shared->Prop}(hx:h.get? a=some {cls:=.type "list",dict:=none,data:=.seq items cn,slots:=#[]})(hmiss:typeLookup (.type "list") name=pure none)(hnc:(["__module__","__name__","__qualname__","__doc__","__annotations__"]:List Str).contains name=false)(hh:A.handled=none)
  (hq:∀h' tk' e,Heap.NewAttrErr h h' e (.ref a) name->E (.ref e) ⟨h',g,d,tk',os⟩) (hsz:name.length+100<=sizeLine:=by size_fits) :
  wpAny (model prog w) A (getAttrBy (.ref a) (.str name tk) false) Q E ⟨h,g,d,t,os⟩:=by
 have hT:(⟨h,g,d,t,os⟩:Shared).TypeIs (.ref a) "list":=⟨_,hx,rfl⟩;have f1:=sub_AttributeError;have f2:=KR.lookup;have f3:=KR.bind (.ref a);have f5:=rJ
 repeat (any_goals (first|assumption|wp_step))
 refine Bx hx hmiss hnc hh (λh' tk' e x=>?_) hsz;obtain⟨t',u',he⟩:=x.there;show wpAny _ _ (getattributeRaised _ _ _ _ _ _ _) _ _ _;unfold getattributeRaised
 repeat (any_goals (first|assumption|wp_step))
 exact hq _ _ _ x
theorem z_{name:Str}{Q:Option Value->Shared->Prop}(hx:h.get? a=some {cls:=.type "list",dict:=none,data:=.seq items cn,slots:=#[]})(hmiss:typeLookup (.type "list") name=pure none)(hnc:(["__module__","__name__","__qualname__","__doc__","__annotations__"]:List Str).contains name=false)(hh:A.handled=none)
  (hq:∀h' tk',(∀b o,h.get? b=some o->h'.get? b=some o)->Q none ⟨h',g,d,tk',os⟩) (hsz:name.length+100<=sizeLine:=by size_fits) :
  wpAny (model prog w) A (getAttr? (.ref a) name) Q E ⟨h,g,d,t,os⟩:=by
 have f1:=sub_AttributeError;unfold getAttr? getAttrBy?;refine IK (wpAny_mkText (IK (Mi (FA hx hmiss hnc hh (λh' tk' e x=>?_) hsz))));obtain⟨t',u',he⟩:=x.there;have k:=x.keeps
 repeat (any_goals (first|assumption|wp_step))
 exact hq _ _ x.keeps
end
section
variable {prog:Program} {w:World} {K:Type} [DecidableEq K] {knd:KeyKind prog w K} {A:Around} {R:Result->Shared->Prop}
theorem i8:plainId "dict.update.loop"=true:=by decide +kernel
theorem gM:entryFor table "dict.update.loop"=some Builtin.«dict.update.loop»:=entryFor_of_fast (by kernel_rfl)
theorem rj(kvs:List (K×Value))(k:K)(v:Value):(stored kvs k v).length<=kvs.length+1:=by
 unfold stored;split
 ·rw[IP];lia
 ·rw[IL];simp
theorem kc:∀(more kvs:List (K×Value)),(merged kvs more).length<=kvs.length+more.length
 |[],kvs=>by unfold merged;simp
 |p::more,kvs=>by
  have h1:=kc more (stored kvs p.1 p.2);have h2:=rj kvs p.1 p.2;have e:merged kvs (p::more)=merged (stored kvs p.1 p.2) more:=rfl;rw[e,Jd];lia
theorem A2{it l dd:Addr}{items:Array Value}{more:List (K×Value)}(hh:A.handled=none)(hn:more.length=items.size)(h1:dd≠it)(h2:dd≠l)(h3:it≠l)(ps:Nat->Addr)(hps:∀i,i<items.size->items[i]?=some (.ref (ps i))/\ps i≠it/\ps i≠dd)(hsz:more.length<=20000):
  ∀(k i:Nat) (s:Shared),items.size-i=k->i<=items.size->s.heap.IsListIter it l i->s.heap.IsList l items->s.heap.DictOf knd dd (merged [] (more.take i)) ->
  (∀j,j<items.size->∃key v,s.heap.IsTuple (ps j) #[key,v]/\∃kk,more[j]?=some (kk,v)/\knd.is kk key=true) ->
  (∀h' tk,h'.DictOf knd dd (merged [] more)->(∀b o,b≠it->b≠dd->s.heap.get? b=some o->h'.get? b=some o)->R (.ok (.ret .none)) {s with heap:=h',toks:=tk}) ->
  codeAny (model prog w) A (.builtin "dict.update.loop" ⟨[.ref dd,.ref it,rawInt i,.none],[]⟩) R s:=by
 intro k
 induction k with
 |zero =>
  intro i s hk hi hit hl hd hp hR;have hin:i=items.size:=by lia
  subst hin;refine Li gM ?_;rw[L7 i8 _];show wpAny _ A.in1 (pyNext (.ref it) >>= _) _ _ s;refine IK (wpAny_pyNext_list_end hh hit hl (by simp) λh' he=>?_)
  refine IK (Ja (Ja ?_));refine hR h' s.toks ?_ λb o b1 b2 e=>he b o b1 e;rw[JR (by lia)] at hd
  exact hd.extBut he h1
 |succ k ih =>
  intro i s hk hi hit hl hd hp hR;have hlt:i<items.size:=by lia
  refine Li gM ?_;rw[L7 i8 _];show wpAny _ A.in1 (pyNext (.ref it) >>= _) _ _ s;obtain⟨e1,e2,e3⟩:=hps i hlt;refine IK (ND hit hl e1 λh' hit' hs'=>?_);obtain⟨key,v,ht,kk,em,hkk⟩:=hp i hlt;have ht':h'.IsTuple (ps i) #[key,v]:=by obtain⟨o,ho,r⟩:=ht;exact⟨o,(hs'.2 _ e2).trans ho,r⟩
  have hd':h'.DictOf knd dd (merged [] (more.take i)):=by obtain⟨o,es,ep,ho,r⟩:=hd;exact⟨o,es,ep,(hs'.2 _ h1).trans ho,r⟩
  refine IK (JN (IK (wpAny_tryCatch ?_)));unfold Dict.pairItems;refine IK (M6 ht'.typeIs ?_);rw[IW (by decide)]
  obtain⟨o,ho,hoc,nn,hod⟩:=id ht';refine IK (Ly ho hod (Ja ?_));show wpAny _ A.in1 (holding [key,v] (dictSet dd key v)) _ _ _;refine JN (wpAny_dictSet_pairs hkk hd' (λh2' hd2 hs2=>?_) ?_)
  rotate_left
  ·exact IY (kc _ _) (IY (by rw[Ka,Lz,Jn];exact IY (Nat.min_le_right _ _) hsz) (by decide))
  have et:merged [] (more.take (i+1))=stored (merged [] (more.take i)) kk v:=by
   have hlt':i<more.length:=by lia
   have:more[i]=(kk,v):=by rw[IJ hlt'] at em;exact Option.some.inj em
   rw[Mn hlt',this];unfold merged;rw[List.foldl_append];rfl
  refine Ja ⟨NY i8 _,?_⟩;have:=ih (i+1) {s with heap:=h2',toks:=s.toks+1} (by lia) hlt (by obtain⟨o,ho,r⟩:=hit';exact⟨o,(hs2.2 _ (Kp h1)).trans ho,r⟩) (by obtain⟨o,ho,r⟩:=hl;exact⟨o,(hs2.2 _ (Kp h2)).trans ((hs'.2 _ (Kp h3)).trans ho),r⟩) (by rw[et];exact hd2) (λj hj=>by
   obtain⟨key,v,⟨o,ho,r⟩,rr⟩:=hp j hj;obtain⟨f1,f2,f3⟩:=hps j hj;exact⟨key,v,⟨o,(hs2.2 _ f3).trans ((hs'.2 _ f2).trans ho),r⟩,rr⟩) (λh3' tk hd3 hk3=>hR h3' tk hd3 λb o b1 b2 e=>hk3 b o b1 b2 ((hs2.2 _ b2).trans ((hs'.2 _ b1).trans e)))
  exact this
theorem q_{E:Value->Shared->Prop}{s:Shared}{l:Addr}{items:Array Value}{cn:Nat}{more:List (K×Value)}{Q:Value->Shared->Prop}(hl:s.heap.get? l=some {cls:=.type "list",dict:=none,data:=.seq items cn,slots:=#[]})(hh:A.handled=none)(hn:more.length=items.size)(hsz:more.length<=20000)
  (ps:Nat->Addr) (hps:∀i,i<items.size->items[i]?=some (.ref (ps i))) (hp:∀j,j<items.size->∃key v,s.heap.IsTuple (ps j) #[key,v]/\∃kk,more[j]?=some (kk,v)/\knd.is kk key=true)
  (h:∀h' tk,h'.DictOf knd s.heap.objs.size (merged [] more)->(∀b o,s.heap.get? b=some o->h'.get? b=some o)->Q (.ref s.heap.objs.size) {s with heap:=h',toks:=tk}) :
  wpAny (model prog w) A (call (.type "dict") [.ref l]) Q E s:=by
 refine callType_codes (Q₁:=λobj s₁=>obj=.ref s.heap.objs.size/\s₁={s with heap:=s.heap.push {cls:=.type "dict",data:=.dict #[]}}) F.kt_called_dict (F.kt_typeCall_dict_1 _) F.entry_dict_init (kt_code_dict_new _ ⟨rfl,rfl⟩) ?_
 rintro obj s₁ ⟨rfl,rfl⟩;have hnew:(s.heap.push {cls:=.type "dict",data:=.dict #[]}).DictOf knd s.heap.objs.size []:=Heap.DictOf.new s.heap;refine⟨hnew.typeIs,F.args_dict_init_2 _ _,?_⟩;unfold Builtin.«dict.__init__»;refine IK ?_;unfold Builtin.Dict.selfAndRest;refine IK (wpAny_notOrdered_dict hnew.typeIs ?_);show wpAny _ _ (pure (s.heap.objs.size,[Value.ref l])) _ _ _;refine Ja ?_;show wpAny _ _ (Builtin.Dict.updateFrom "dict.__init__" s.heap.objs.size (.ref l) [] .none) _ _ _;unfold Builtin.Dict.updateFrom;have hl1:(s.heap.push {cls:=.type "dict",data:=.dict #[]}).get? l=some {cls:=.type "list",dict:=none,data:=.seq items cn,slots:=#[]}:=IM _ hl;have hT:({s with heap:=s.heap.push {cls:=.type "dict",data:=.dict #[]}}:Shared).TypeIs (.ref l) "list":=⟨_,hl1,rfl⟩
 refine IK (M6 hT ?_);rw[IW (by decide)]
 refine IK ?_;refine z_ hl1 AN (by decide +kernel) hh (λh1 tk1 k1=>?_)
 rw[IW (show (none:Option Value).isNone=true from rfl)];have hl2:h1.IsList l items:=⟨_,k1 _ _ hl1,rfl,cn,rfl⟩;have up:∀b o,s.heap.get? b=some o->h1.get? b=some o:=λb o e=>k1 b o (IM _ e);obtain⟨od,es,ep,hod,hor⟩:=hnew;have hdl:s.heap.objs.size<h1.objs.size:=Jh (k1 _ _ hod);have hll:l<s.heap.objs.size:=Jh hl;have hpl:∀j,j<items.size->ps j<s.heap.objs.size:=λj hj=>by obtain⟨key,v,⟨o,ho,_⟩,_⟩:=hp j hj;exact Jh ho
 refine IK (Nh (IK (LZ hl2 (Ja ⟨NY i8 _,?_⟩))));refine A2 (knd:=knd) (it:=h1.objs.size) (l:=l) (items:=items) (more:=more) (A:=A.in1) hh hn (Jr hdl) (Kv hll) (Kv (LO hll hdl)) ps (λi hi=>⟨hps i hi,Jr (LO (hpl i hi) hdl),Jr (hpl i hi)⟩) hsz _ 0 _ rfl (Jj _) ⟨_,Jf _ rfl,rfl,rfl⟩ ?_ ⟨od,es,ep,IM _ (k1 _ _ hod),hor⟩ (λj hj=>?_) (λh' tk hd hk=>⟨rfl,h h' tk hd λb o e=>hk b o ?_ ?_ (IM _ (up b o e))⟩)
 ·obtain⟨o,ho,r⟩:=hl2;exact⟨o,IM _ ho,r⟩
 ·obtain⟨key,v,⟨o,ho,r⟩,rr⟩:=hp j hj;exact⟨key,v,⟨o,IM _ (up _ _ ho),r⟩,rr⟩
 ·exact Jr (LO (Jh e) hdl)
 ·exact Jr (Jh e)
end
theorem lG{α β:Type}{F:α->β->Prop}:∀{l₁:List α} {l₂:List β},l₁.length=l₂.length->(∀(j:Nat) a b,l₁[j]?=some a->l₂[j]?=some b->F a b)->Paired F l₁ l₂
 |[],[],_,_=>.nil
 |[],_::_,h,_=>by cases h
 |_::_,[],h,_=>by cases h
 |a::l₁,b::l₂,h,f=>.cons (f 0 a b rfl rfl) (lG (Nat.succ.inj h) λj x y hx hy=>f (j+1) x y (by simpa using hx) (by simpa using hy))
noncomputable def zY(K:Og)(H:Hp)(vs:List V)(kvs:List (Key×V)):Prop:=vs.length=kvs.length/\∀(j:Nat) (k:Key) (x:V),kvs[j]?=some (k,x)->∃p,vs[j]?=some (.ref p)/\H p=some (.tup [kV k,x])
noncomputable def EE(K:Og):List V->Hp->VK->Prop:=λxs H Q=>∃l vs kvs,xs=[.ref l]/\H l=some (.lst vs)/\zY K H vs kvs/\kvs.length<=20000/\∀p,H p=none->Q (.ref p) (upd H p (.dK (fY [] kvs)))
theorem pM{X:Cx}(K:Og)(hc:X.calm=true):bD X (.type "dict") (EE K):=by
 intro pins s σ H xs us Q I r h;obtain⟨l,vs,kvs,rfl,hl,hp,hk,q⟩:=h;obtain⟨u,rfl,e0⟩:=vals1 r;have e1:u=.ref l:=e0;subst e1;obtain⟨hlen,its,n,hv,hget⟩:=(show b6 X.prog X.w H s.heap l (.lst vs) from I.bc l _ hl);have hsz:its.toArray.size=kvs.length:=by rw[<- hp.1,IS,<- Paired.length hv]
 have key:∀j,j<kvs.length->∃p k x,kvs[j]?=some (k,x)/\its[j]?=some (.ref p)/\∃ku xu,s.heap.IsTuple p #[ku,xu]/\ip k ku=true/\RelV x xu:=λj hj=>by
  obtain⟨p,e1,e2⟩:=hp.2 j kvs[j].1 kvs[j].2 (IJ hj);obtain⟨u,e3,e4⟩:=Vals.get hv e1;have e5:u=.ref p:=e4;subst e5;obtain⟨_,ts,tv,hT⟩:=(show b6 X.prog X.w H s.heap p (.tup [kV kvs[j].1,kvs[j].2]) from I.bc p _ e2);obtain⟨ku,xu,rfl,r1,r2⟩:=vals2 tv;exact⟨p,_,_,IJ hj,e3,ku,xu,hT.to,tG (P:=X.prog) (w:=X.w) r1,r2⟩
 obtain⟨f,hf⟩:=Classical.axiomOfChoice (r:=λ(j:Nat) (y:Addr×Value×Value)=>∀hj:j<kvs.length,s.heap.IsTuple y.1 #[y.2.1,y.2.2]/\ip kvs[j].1 y.2.1=true/\RelV kvs[j].2 y.2.2/\its[j]?=some (.ref y.1)) (λj=>by
  by_cases hj:j<kvs.length
  ·obtain⟨p,k,x,e1,e2,ku,xu,hT,h1,h2⟩:=key j hj;rw[IJ hj] at e1;have e1':kvs[j]=(k,x):=Option.some.inj e1;exact⟨(p,ku,xu),λ_=>⟨hT,by rw[e1'];exact h1,by rw[e1'];exact h2,e2⟩⟩
  ·exact⟨(0,.none,.none),λh=>absurd h hj⟩)
 let mv:List (Key×Value):=(List.range kvs.length).map λj=>((kvs[j]?.getD (.inl 0,.aT)).1,(f j).2.2)
 have hmv:mv.length=kvs.length:=by simp[mv]
 have hmj:∀j (hj:j<kvs.length),mv[j]?=some (kvs[j].1,(f j).2.2):=λj hj=>by
  simp only[mv,I_,K_ hj,Option.map_some,IJ hj,Option.getD_some]
 have at':∀j (hj:j<kvs.length),∃ku xu,s.heap.IsTuple (f j).1 #[ku,xu]/\ip kvs[j].1 ku=true/\RelV kvs[j].2 xu/\its[j]?=some (.ref (f j).1)/\mv[j]?=some (kvs[j].1,xu):=λj hj=>by
  obtain⟨h1,h2,h3,h4⟩:=hf j hj;exact⟨_,_,h1,h2,h3,h4,hmj j hj⟩
 have hKV:KV kvs mv:=by
  refine lG (by rw[hmv]) λj a b ha hb=>?_
  have hj:j<kvs.length:=by
   rcases JL j kvs.length with c|c
   ·exact c
   ·rw[J7.mpr c] at ha;cases ha
  obtain⟨ku,xu,_,_,h2,_,h3⟩:=at' j hj;rw[IJ hj] at ha;cases ha;rw[h3] at hb;cases hb;exact⟨rfl,h2⟩
 refine q_ (knd:=bZ X.prog X.w) hget (I.ok.hd hc) (by rw[hmv,hsz]) (by rw[hmv];exact hk) (λj=>(f j).1) (λi hi=>?_) (λj hj=>?_) (λh' tk hd hkp=>?_)
 ·rw[hsz] at hi;obtain⟨_,_,_,_,_,e,_⟩:=at' i hi;rw[KD];exact e
 ·rw[hsz] at hj;obtain⟨ku,xu,hT,h1,_,_,h3⟩:=at' j hj;exact⟨ku,xu,hT,_,h3,h1⟩
 ·have hz:(fY [] kvs).length<=sizeLine:=by
   have h1:=gO kvs [];rw[Ka] at h1;exact IY (show _<=20000 by lia) (by decide)
  exact⟨.ref s.heap.objs.size,_,I.laid (t':=tk) hkp (IU _) (xp hz (Jv.mpr (Kp (Jr I.big))) (hKV.merge .nil) hd),rfl,q _ (I.bc.fresh (IU _))⟩
open PySem PySem.Spec PyProof PyProof.Rows
namespace Z
section
variable {X:Cx} {CX:pC} {k:Nat} {f C:Addr} {fd:FuncData} {ps:List Str} {sp:Sp} {E:XK} {x m nm:Str} {p pos pos' apos:Pos} {e o i value:Expr} {es:List Expr} {ta tv td ty:TE} {t:TA}
theorem fld(K:Og)(hK:X.K=K)(he:QE X e ta)(hb:autoParam (attributeBase e nm X.env (eval e X.env)=eval e X.env) ℜ0):QE X (.Attribute e nm pos) (wu K ta nm):=by subst hK;exact⟨DK he.h hb⟩
theorem xD(K:Og)(hK:X.K=K)(ha:QE X o ta)(hv:QE X value tv)(hs:autoParam (swapsWith value (some (.Attribute o nm pos')) pos.line X.env=pure false) ℜ0):QS X (.Assign [.Attribute o nm pos'] value pos) (zj K ta tv nm):=by subst hK;exact⟨E1 ha.h hv.h hs⟩
theorem EH(K:Og)(hK:X.K=K){pl:Sem Bool}(he:QE X o ta)(c:kM K C)(hm:Meth K C m f)(F:cG X.prog X.w K X.mg X.base CX k f fd ps sp)(hr:bI k X.A)(hb:Binds K fd ps [])(hx:Passes CX X E)(ha:QA X (e::es) t)
  (hst:autoParam (starEach (e::es) X.env=(false,eval e X.env)::starEach es X.env) ℜ0) (hpl:autoParam ((backTo pos (starEach es X.env)).any (·.1)=false) ℜ0)
  (ht:autoParam (eval (.Call (.Attribute o m apos) (e::es) [] pos) X.env=(do
   let ov <- eval o X.env
   standAt apos.atName
   let (f,first) <- holding [ov] (getMethod ov m pl)
   callWith pos f first (backTo pos (starEach (e::es) X.env)) (backToKw pos (keywordEach [] X.env)))) ℜ0) :
  QE X (.Call (.Attribute o m apos) (e::es) [] pos) (jV C m sp [] E ta t):=by subst hK;exact⟨zM (pl:=pl) he.h c hm F hr hb .nil hx ha.h hst hpl ht⟩
theorem xT(K:Og)(hK:X.K=K){pl:Sem Bool}(he:QE X o ta)(c:kM K C)(hm:Meth K C m f)(F:cG X.prog X.w K X.mg X.base CX k f fd ps sp)(hr:bI k X.A)(hb:Binds K fd ps [])(hx:Passes CX X E)
  (ht:autoParam (eval (.Call (.Attribute o m apos) [] [] pos) X.env=(do
   let ov <- eval o X.env
   standAt apos.atName
   let (f,first) <- holding [ov] (getMethod ov m pl)
   callWith pos f first (backTo pos (starEach [] X.env)) (backToKw pos (keywordEach [] X.env)))) ℜ0) :
  QE X (.Call (.Attribute o m apos) [] [] pos) (jV C m sp [] E ta jq):=by subst hK;exact⟨xP (pl:=pl) he.h c hm F hr hb .nil hx ht⟩
theorem make(K:Og)(hK:X.K=K)(M:Mk K C f)(F:cG X.prog X.w K X.mg X.base CX k f fd ps sp)(hr:bI (k+1) X.A)(hg:Gl X x)(hm:X.mg x=some (.ref C))(hb:Binds K fd ps [])(hx:Passes CX X E)
  (ha:QA X (e::es) t) (hdb:autoParam ((x ==("__debug__":Str))=false) ℜ1) (he:autoParam (starEach (e::es) X.env=(false,eval e X.env)::starEach es X.env) ℜ0) (hpl:autoParam ((backTo pos (starEach es X.env)).any (·.1)=false) ℜ0) :
  QE X (.Call (.Name x p) (e::es) [] pos) (pV C sp [] E t):=by subst hK;exact⟨An M F hr hg hm hb .nil hx ha.h hdb he hpl⟩
theorem wI(hu:X.A.units+1<cLine)(ho:QE X o td)(hi:QE X i ty)(hs:yu i:=by exactλ_ _=>rfl):QE X (.Subscript o i pos) (p8 td ty):=⟨AL hu ho.h hi.h hs⟩
theorem dput(hu:X.A.units+1<cLine)(ho:QE X o td)(hi:QE X i ty)(hv:QE X value tv)(hs:autoParam (swapsWith value (some (.Subscript o i pos')) pos.line X.env=pure false) ℜ0):QS X (.Assign [.Subscript o i pos'] value pos) (oE td ty tv):=⟨zN hu ho.h hi.h hv.h hs⟩
end
end Z
namespace Ap
theorem wu(K:Og)(ta:TE)(f:Str)(σ:St)(H:Hp)(Q:VK):L2.wu K ta f σ H Q=ta σ H λx H1=>∃a C dx fs v,x=.ref a/\H1 a=some (.ins C dx fs)/\kM K C/\bF K C f/\fs.lookup f=some v/\Q v H1:=rfl
theorem zj(K:Og)(ta tv:TE)(f:Str)(D:Ends)(σ:St)(H:Hp):L2.zj K ta tv f D σ H=tv σ H λy H1=>ta σ H1 λx H2=>∃a C dx fs,x=.ref a/\H2 a=some (.ins C dx fs)/\kM K C/\bF K C f/\fs.length<1000/\D.nx σ (upd H2 a (.ins C dx (d8 f y fs))):=rfl
theorem jV(C:Addr)(m:Str)(sp:Sp)(dvs:List V)(E:XK)(ta:TE)(t:TA)(σ:St)(H:Hp)(Q:VK):L2.jV C m sp dvs E ta t σ H Q=ta σ H λx H1=>∃a dx fs,x=.ref a/\H1 a=some (.ins C dx fs)/\fs.lookup m=none/\t σ H1 λvs H2=>sp (x::(vs++dvs)) H2 Q E:=rfl
theorem pV(C:Addr)(sp:Sp)(dvs:List V)(E:XK)(t:TA)(σ:St)(H:Hp)(Q:VK):L2.pV C sp dvs E t σ H Q=t σ H λvs H1=>∀x dx,H1 x=none->H1 dx=none->dx≠x->sp (.ref x::(vs++dvs)) (upd (upd H1 dx (.own x)) x (.ins C dx [])) (λv H2=>v=.aT/\Q (.ref x) H2) E:=rfl
theorem p8(td ty:TE)(σ:St)(H:Hp)(Q:VK):L2.p8 td ty σ H Q=td σ H λx H1=>ty σ H1 λy H2=>∃a v,x=.ref a/\uX H2 a y (some v)/\Q v H2:=rfl
theorem oE(td ty tv:TE)(D:Ends)(σ:St)(H:Hp):L2.oE td ty tv D σ H=tv σ H λv H1=>td σ H1 λx H2=>ty σ H2 λy H3=>∃a H4,x=.ref a/\CA H3 a y v H4/\D.nx σ H4:=rfl
end Ap
section
variable {prog:Program} {w:World} {A:Around} {E:Value->Shared->Prop} {s:Shared} {K:Og} {a:Addr} {D:List (Str×List Str)} {k:Str} {tk:Tok}
theorem ve{ws:List Str}{Q:Value->Shared->Prop}(T:lh K a D)(X:K.In s.heap)(hk:KTD.datumAt k D=some ws)(h:∀v,wN K ws v->Q v {s with toks:=s.toks+1}):wpAny (model prog w) A (getItem (.ref a) (.str k tk)) Q E s:=by
 have hT:=T.typeIs X;unfold getItem
 try with_reducible refine JN ?_
 refine IK (wpAny_sequenceKey hT (by decide) ?_)
 refine IK (JM (name:=Str.ofString "__getitem__") hT PySem.F.slot_dict_getitem
  (JS PySem.F.slot_dict_getitem hT PySem.F.entry_dict_getitem ?_ (args_dict_getitem _ _)))
 show wpAny _ _ (dictGet a (.str k tk) >>= _) _ _ s;refine IK (yW T X (λd v e r=>?_) λe=>?_)
 ·rw[hk] at e;cases e;exact Ja ⟨v,rfl,Ja (h v r)⟩
 ·rw[hk] at e;cases e
end
variable{Q:Value->Shared->Prop}{X:Cx}{body e:Expr}{c' d f kS:Addr}{D:List (Str×List Str)}{a b:List Nat}{q x:Str}{e1 ep i k:Nat}{y:Int×Int}{α:Type}{p:Array Nat}{N:List Str}{σf:List (Option V)}{scope:Scope}{cl:List (Str×Addr)}{params:Arguments}{ctv pm:Value}{H H1:Hp}{h h':Heap}{P:PySem.Fin->Shared->Prop}{us:List Value}{kz:List Int}{xs:List V}{K:Og}{es:Array DictEntry}{prog:Program}{w:World}{prs:List (Int×Int)}
noncomputable def yP(K:Og)(D:List (Str×List Str))(te:TE):TE:=λσ H Q=>te σ H λy H1=>∃k ws,y=.str k/\KTD.datumAt k D=some ws/\∀p,Fp K p (ws.map V.str)->Q (.ref p) H1
theorem Dd{o:Expr}{te:TE}{pos:Pos}(ho:PE X o (tC (.ref d)))(hD:lh X.K d D)(he:PE X e te)(hs:yu e):PE X (.Subscript o e pos) (yP X.K D te):=by
 intro pins s σ H Q I h;refine tS PySem.F.slot_dict_getitem.lookup hs (bT (ho pins s σ H (λv H'=>v=.ref d/\H'=H) I ⟨rfl,rfl⟩) λu s1 hq1=>?_);obtain⟨x,H1,I1,rx,ex,eh⟩:=hq1;subst ex eh;obtain rfl:u=Value.ref d:=rx;refine bT (he pins s1 σ H1 _ I1 h) λiv s2 hq2=>?_;obtain⟨y,H2,I2,ry,k,ws,ek,e1,q⟩:=hq2;subst ek;obtain⟨t,rfl⟩:=ry;refine⟨hD.typeIs I2.iu,ve hD I2.iu e1 λv r=>?_⟩;obtain⟨p,rfl,r⟩:=r;exact⟨.ref p,H2,I2.tok _,rfl,q p r⟩
theorem Z.seq{tg l:Expr}{tl:TE}(K:Og)(hK:X.K=K)(hl:QE X l tl):QI X tg l (w_ K tl):=by subst hK;exact⟨DE hl.h⟩
theorem Ap.w_(K:Og)(tl:TE)(σ:St)(H:Hp)(R:It->Hp->Prop):L2.w_ K tl σ H R=tl σ H λx H1=>∃a,x=V.ref a/\(((∃xs,ck K H1 a xs)/\R (ye K a) H1)\/((∃xs,bu K H1 a xs)/\R (sP K a) H1)):=rfl
namespace Y
noncomputable def DQ:V->List V->Hp->VK->Prop:=λx vs H Q=>∃(z y:Str) (i:Nat) (rest:List Nat),x=.str z/\vs=[.str y]/\Builtin.Str.occurrences z y 0 z.length 1=i::rest/\Q (.int (i:Nat)) H
theorem xo:wZ X "str.index" DQ:=by
 intro pins s σ H x xs v us Q I rx rs h;obtain⟨z,y,i,rest,rfl,rfl,ho,q⟩:=h;obtain⟨t,rfl⟩:=rx;obtain⟨u,rfl,k,rfl⟩:=vals1 rs;exact SC.index ho ⟨.int _,H,I.tok _,⟨_,rfl⟩,q⟩
noncomputable def GZ:V->List V->Hp->VK->Prop:=λx vs H Q=>∃(a:Addr) (ws:List Str) (k:Str) (j:Nat),x=.ref a/\H a=some (.lst (ws.map V.str))/\vs=[.str k]/\ws[j]?=some k/\(∀m,m<j->ws[m]?≠some k)/\Q (.int (j:Nat)) H
theorem zI:Hs X "list.index" GZ:=by
 intro pins s σ H x xs v us Q I rx rs h;obtain⟨a,ws,k,j,rfl,hH,rfl,hj,hno,q⟩:=h;cases rx;obtain⟨u,rfl,t,rfl⟩:=vals1 rs;obtain⟨z,its,n,r,hl,e⟩:=I.r8 hH;obtain⟨t',hit⟩:=pA r j k hj;have hjl:j<ws.length:=(IQ.mp hj).1;rw[IP] at z hl;have hji:j<its.toArray.size:=by rw[IS];lia
 have sz:(sizeLine:Int)<2^63-1:=by decide
 have hje:its.toArray[j]=.str k t':=by
  have:its.toArray[j]?=some (.str k t'):=by rw[KD];exact hit
  exact (KH.mp this).2
 have hall:∀(m:Nat) (hm:m<its.toArray.size),∃y ty,its.toArray[m]=.str y ty/\ws[m]?=some y:=λm hm=>by
  have hm':m<ws.length:=by rw[IS] at hm;lia
  have e1:=IJ hm';obtain⟨ty,hy⟩:=pA r m _ e1;have:its.toArray[m]?=some (.str ws[m] ty):=by rw[KD];exact hy
  exact⟨_,ty,(KH.mp this).2,e1⟩
 refine Kw PySem.F.slot_list_index ⟨_,e,rfl⟩ PySem.F.entry_list_index (PySem.F.args_list_index_2 _ _) (SeqAt.list_indexAt a its.toArray n none _ (.str k t) (λy=>match y with|.str y _=>y == k|_=>false) j hji (by lia) (by rw[hje];exact JW k) λm hm hmj=>?_) ⟨e,λy hy=>?_,⟨.int (j:Nat),H,I.tok _,⟨_,rfl⟩,q⟩⟩
 ·obtain⟨y,ty,ey,ew⟩:=hall m hm;rw[ey];exact Jv.mpr λz=>hno m hmj (by rw[ew,z])
 ·obtain⟨m,hm,rfl⟩:=Array.mem_iff_getElem.mp hy;obtain⟨y,ty,ey,ew⟩:=hall m hm;rw[ey];exact SeqAt.EqAt.str_str _ _ _ _
end Y
open PySem PySem.Spec PyProof PyProof.Rows PySem.W
namespace SP
section
variable (k:Nat->Int)
noncomputable def R(i j:Nat):Prop:=k i<k j\/(k i=k j/\i<j)
variable {k}
theorem R.le{a b:Nat}(h:R k a b):k a<=k b:=by unfold R at h;lia
end
structure PI (n m:Nat) (p:Array Nat) (a:List Nat):Prop where
 eq:p.toList=a++List.range' m (n-m)
 perm:a.Perm (List.range m)
 le:m<=n
section
variable {n m:Nat} {p:Array Nat} {a:List Nat}
theorem PI.len(h:PI n m p a):a.length=m:=by rw[h.perm.length_eq,JA]
theorem PI.lt(h:PI n m p a){x:Nat}(hx:x∈a):x<m:=Ki.mp (h.perm.mem_iff.mp hx)
theorem PI.size(h:PI n m p a):p.size=n:=by
 have:=h.len;have:=h.le;rw[<- J8,h.eq,IL,List.length_range',h.len];lia
theorem PI.at(h:PI n m p a){x:Nat}(hi:a[i]?=some x):p.getD i 0=x:=by
 have:p[i]?=some x:=by
  rw[<- Jz,h.eq,Jx (IQ.mp hi).1];exact hi
 rw[M_,this];rfl
theorem PI.nx(h:PI n m p a)(hm:m<n):p.getD m 0=m:=by
 have:p[m]?=some m:=by
  rw[<- Jz,h.eq,Jk (by rw[h.len];exact IU m),h.len,JP,List.getElem?_range' (by lia)];simp
 rw[M_,this];rfl
theorem PI.step(h:PI n m p a)(hm:m<n):PI n (m+1) p (a++[m]):=by
 refine⟨?_,?_,hm⟩
 ·rw[h.eq,Jl,show n-m=(n-(m+1))+1 by lia,L6];rfl
 ·rw[M8];exact h.perm.append_right [m]
theorem PI.last(h:PI n m p a){y:Nat}(e:a=b++[y]):p.getD (m-1) 0=y:=by
 refine h.at ?_;have:=h.len;rw[e,IL] at this;simp only[Jd,Ka] at this;rw[e,Jk (by lia),show m-1-b.length=0 by lia];rfl
end
theorem yL{xs:Array α}{l:Nat}{y:α}(hy:xs[k]?=some y)(hl:l<=k):(bubble xs k (k-l)).toList=xs.toList.take l++y::(xs.toList.drop l).take (k-l)++xs.toList.drop (k+1):=by
 have hk:k<xs.size:=(KH.mp hy).1;have hL:xs.toList.length=xs.size:=by simp
 apply KI;intro i;rw[Jz,getElem?_bubble hk _ (by lia),show k-(k-l)=l by lia]
 rw[Jl,L8];have ht:(xs.toList.take l).length=l:=by rw[Jn];lia
 rw[ht];by_cases h1:i<l
 ·rw[IW h1,IT (by lia),IT (by lia),Lj,IW h1,Jz]
 ·rw[IT h1];by_cases h2:i=l
  ·subst h2;rw[IW rfl,JP,hy];rfl
  ·rw[IT h2,show i-l=(i-l-1)+1 by lia,Ks,N4,L8]
   have hm:((xs.toList.drop l).take (k-l)).length=k-l:=by rw[Jn,JC];lia
   rw[hm];by_cases h3:i-l-1<k-l
   ·rw[IW h3,IW (by lia),Lj,IW h3,Kc,Jz]
    congr 1;lia
   ·rw[IT h3,IT (by lia),Kc,Jz]
    congr 1;lia
theorem vW{xs:Array α}{j:Nat}(hi:i<=j)(hj:j<=xs.size):(mirror xs i j ((j-i) / 2)).toList=xs.toList.take i++((xs.toList.drop i).take (j-i)).reverse++xs.toList.drop j:=by
 have hL:xs.toList.length=xs.size:=by simp
 apply KI;intro k;rw[Jz,getElem?_mirror_all hj,Jl,L8];have ht:(xs.toList.take i).length=i:=by rw[Jn];lia
 have hm:((xs.toList.drop i).take (j-i)).length=j-i:=by rw[Jn,JC];lia
 rw[ht];by_cases h1:k<i
 ·rw[IW h1,IT (by lia),Lj,IW h1,Jz]
 ·rw[IT h1,L8,La,hm];by_cases h2:k<j
  ·rw[IW (by lia),IW (by lia),List.getElem?_reverse (by lia),hm,Lj,IW (by lia),Kc,Jz]
   congr 1;lia
  ·rw[IT (by lia),IT (by lia),Kc,Jz]
   congr 1;lia
theorem PI.rev{n m:Nat}{c:List Nat}(h:PI n m p (b++c)):PI n m (kas_rev p b.length m) (b++c.reverse):=by
 have hl:b.length+c.length=m:=by rw[<- h.len,IL]
 refine⟨?_,((List.reverse_perm c).append_left b).trans h.perm,h.le⟩;unfold kas_rev;rw[vW (by lia) (by rw[h.size];exact h.le),h.eq,Jl b c,LW,NS,show m-b.length=c.length by lia,LW,<- Jl b c,List.drop_left' (by rw[IL];exact hl)]
theorem nF{m:Nat}(h:a.length=m)(hm:1<=m):∃b y,a=b++[y]:=by
 rcases L0 a with rfl|⟨b,y,rfl⟩
 ·cases h;exact absurd hm (by decide)
 ·exact⟨b,y,by simp⟩
section
variable {k:Nat->Int} {n:Nat} {cmp:Nat->Nat->(Bool->Shared->Prop)->Shared->Prop} {I:Shared->Prop}
noncomputable def pN(k:Nat->Int)(n:Nat)(cmp:Nat->Nat->(Bool->Shared->Prop)->Shared->Prop)(I:Shared->Prop):Prop:=∀i j C s,i<n->j<n->I s->(∀s',I s'->C (decide (k i<k j)) s')->cmp i j C s
theorem qQ(hc:pN k n cmp I){G:Nat->Shared->Prop}:∀(f m:Nat) (a:List Nat) (s:Shared),PI n m p a->1<=m->f=n-m->a.Pairwise (R k)->I s ->
  (∀m' a' s',PI n m' p a'->m<=m'->a'.Pairwise (R k)->I s'->(∀b y,a'=b++[y]->m'<n->k m'<k y)->G m' s')->(kas_asc p f m).kasWp cmp G s
 |0,m,a,s,h,h1,hf,hp,hI,g=>g m a s h (IU m) hp hI λ_ _ _ hl=>by have:=h.le;lia
 |f+1,m,a,s,h,h1,hf,hp,hI,g=>by
  have hm:m<n:=by lia
  obtain⟨b,y,e⟩:=nF h.len h1;show cmp (p.getD m 0) (p.getD (m-1) 0) _ s;rw[h.nx hm,h.last e];have hy:y<m:=h.lt (by rw[e];simp)
  refine hc m y _ s hm (by lia) hI λs' hI'=>?_
  by_cases c:k m<k y
  ·rw[Jt c];exact g m a s' h (IU m) hp hI' λb' y' e' _=>by
    rw[e] at e';have:[y]=[y']:=(List.append_inj' e' rfl).2
    cases this;exact c
  ·rw[Jq c];refine qQ hc f (m+1) (a++[m]) s' (h.step hm) (by lia) (by lia) ?_ hI' λm' a' s2 h' hm' hp' hI2 gl=>g m' a' s2 h' (by lia) hp' hI2 gl
   refine JX.mpr ⟨hp,by simp,λx hx z hz=>?_⟩
   rw[Jg.mp hz];have hxm:=h.lt hx;have:k x<=k y:=by
    rw[e] at hx hp;rcases JG.mp hx with hx|hx
    ·exact ((JX.mp hp).2.2 x hx y (by simp)).le
    ·rw[Jg.mp hx];exact Mc _
   unfold R;lia
structure DI (k:Nat->Int) (b c:List Nat):Prop where
 CZ:b.Pairwise λx y=>R k y x
 less:∀y∈b,∀x∈c,k x<k y
 one:∀x∈c,∀y∈c,k x=k y
 up:c.Pairwise (· < ·)
theorem DI.rise{c:List Nat}(h:DI k b c):(b++c.reverse).reverse.Pairwise (R k):=by
 rw[ML,L9];refine JX.mpr ⟨?_,Mp.mpr h.CZ,λx hx y hy=>.inl (h.less y (K1.mp hy) x hx)⟩;exact Nx (λ{x y} hx hy hl=>.inr ⟨h.one x hx y hy,hl⟩) h.up
theorem DI.next{c:List Nat}{x:Nat}(h:DI k b c)(hc:c≠[])(hx:∀y∈c,k x<k y):DI k (b++c.reverse) [x]:=by
 refine⟨JX.mpr ⟨h.CZ,Mp.mpr (Nx (λ{x y} hx hy hl=>.inr ⟨h.one x hx y hy,hl⟩) h.up),λy hy z hz=>.inl (h.less y hy z (K1.mp hz))⟩,λy hy z hz=>?_,λy hy z hz=>?_,by simp⟩
 ·rw[Jg.mp hz];rcases JG.mp hy with hy|hy
  ·obtain⟨w,hw⟩:=Nl c hc;exact Int.lt_trans (hx w hw) (h.less y hy w hw)
  ·exact hx y (K1.mp hy)
 ·rw[Jg.mp hy,Jg.mp hz]
theorem DI.more{c:List Nat}{x:Nat}(h:DI k b c)(he:∀y∈c,k x=k y)(hc:c≠[])(hl:∀y∈c,y<x):DI k b (c++[x]):=by
 refine⟨h.CZ,λy hy z hz=>?_,λy hy z hz=>?_,JX.mpr ⟨h.up,by simp,λy hy z hz=>by rw[Jg.mp hz];exact hl y hy⟩⟩
 ·rcases JG.mp hz with hz|hz
  ·exact h.less y hy z hz
  ·rw[Jg.mp hz];obtain⟨w,hw⟩:=Nl c hc;rw[he w hw];exact h.less y hy w hw
 ·rcases JG.mp hy with hy|hy<;>rcases JG.mp hz with hz|hz
  ·exact h.one y hy z hz
  ·rw[Jg.mp hz];exact (he y hy).symm
  ·rw[Jg.mp hy];exact he z hz
  ·rw[Jg.mp hy,Jg.mp hz]
theorem jx(hc:pN k n cmp I){G:Array Nat×Nat×Nat->Shared->Prop}:∀(f:Nat) (p:Array Nat) (m q:Nat) (b c:List Nat) (s:Shared),PI n m p (b++c)->c.length=q+1->DI k b c->f=n-m->I s ->
  (∀p' m' q' b' c' s',PI n m' p' (b'++c')->c'.length=q'+1->DI k b' c'->I s'->G (p',m',q') s')->(kas_desc f p m q).kasWp cmp G s
 |0,p,m,q,b,c,s,h,hl,hd,hf,hI,g=>g p m q b c s h hl hd hI
 |f+1,p,m,q,b,c,s,h,hl,hd,hf,hI,g=>by
  have hm:m<n:=by lia
  obtain⟨c0,y,e⟩:=nF hl (by lia)
  have hbl:b.length+(q+1)=m:=by rw[<- hl,<- IL,h.len]
  have ne:c≠[]:=by rw[e];simp
  have hy:y∈c:=by rw[e];simp
  have hya:y<m:=h.lt (Jo _ hy);have e1:p.getD m 0=m:=h.nx hm;have e2:p.getD (m-1) 0=y:=h.last (b:=b++c0) (by rw[e,Jl])
  show cmp (p.getD m 0) (p.getD (m-1) 0) _ s;rw[e1,e2];refine hc m y _ s hm (by lia) hI λs' hI'=>?_
  by_cases c1:k m<k y
  ·rw[Jt c1];have hx:∀z∈c,k m<k z:=λz hz=>by rw[hd.one z hz y hy];exact c1
   show KasT.kasWp cmp (if q > 0 then _ else _) G s'
   by_cases hq:q > 0
   ·rw[IW hq,show m-(q+1)=b.length by lia]
    exact jx hc f _ (m+1) 0 (b++c.reverse) [m] s' (h.rev.step hm) rfl (hd.next ne hx) (by lia) hI' g
   ·rw[IT hq];have e3:c.reverse=c:=by
     have:c.length=1:=by lia
     obtain⟨z,rfl⟩:=NH.mp this;rfl
    exact jx hc f p (m+1) 0 (b++c.reverse) [m] s' (by rw[e3];exact h.step hm) rfl (hd.next ne hx) (by lia) hI' g
  ·rw[Jq c1];show cmp y m _ s';refine hc y m _ s' (by lia) hm hI' λs2 hI2=>?_
   by_cases c2:k y<k m
   ·rw[Jt c2];exact g p m q b c s2 h hl hd hI2
   ·rw[Jq c2];refine jx hc f p (m+1) (q+1) b (c++[m]) s2 (by rw[<- Jl];exact h.step hm) (by rw[IL,hl];rfl) (hd.more (λz hz=>?_) ne λz hz=>h.lt (Jo _ hz)) (by lia) hI2 g
    rw[hd.one z hz y hy];lia
theorem sZ(hc:pN k n cmp I){G:Nat×Array Nat->Shared->Prop}{m:Nat}{s:Shared}(h:PI n m p a)(h1:1<=m)(hr:a.reverse.Pairwise (R k))(hI:I s)
  (g:∀m' p' a' s',PI n m' p' a'->1<=m'->a'.Pairwise (R k)->I s'->G (m',p') s'):(kas_tail3 m n p).kasWp cmp G s:=by
 unfold kas_tail3;rw[LJ];have hv:=PI.rev (b:=[]) (c:=a) h;exact qQ hc (n-m) m a.reverse s hv h1 rfl hr hI λm' a' s' h' hm' hp' hI' _=>g m' _ a' s' h' (by lia) hp' hI'
theorem tV(hc:pN k n cmp I){G:Nat×Array Nat->Shared->Prop}{m:Nat}{s:Shared}(h:PI n m p a)(hm:m<n)(hd:DI k a [m])(hI:I s)
  (g:∀m' p' a' s',PI n m' p' a'->1<=m'->a'.Pairwise (R k)->I s'->G (m',p') s'):(kas_descPart m n p).kasWp cmp G s:=by
 unfold kas_descPart;rw[LJ];refine jx hc (n-(m+1)) p (m+1) 0 a [m] s (h.step hm) rfl hd rfl hI λp' m' q' b' c' s' h' hl' hd' hI'=>?_;have hbl:b'.length+(q'+1)=m':=by rw[<- hl',<- IL,h'.len]
 show KasT.kasWp cmp (if q' > 0 then _ else _) G s'
 by_cases hq:q' > 0
 ·rw[IW hq];show (kas_tail3 m' n (kas_rev p' (m'-(q'+1)) m')).kasWp cmp G s';rw[show m'-(q'+1)=b'.length by lia]
  exact sZ hc h'.rev (by lia) hd'.rise hI' g
 ·rw[IT hq];have e3:c'.reverse=c':=by
   have:c'.length=1:=by lia
   obtain⟨z,rfl⟩:=NH.mp this;rfl
  exact sZ hc h' (by lia) (by rw[<- e3];exact hd'.rise) hI' g
theorem wX(hc:pN k n cmp I){G:Nat×Array Nat->Shared->Prop}{s:Shared}(hn:1<=n)(hI:I s)
  (g:∀m' p' a' s',PI n m' p' a'->1<=m'->a'.Pairwise (R k)->I s'->G (m',p') s'):(kas_count n (List.toArray (List.range n))).kasWp cmp G s:=by
 unfold kas_count;rw[LJ];have h0:PI n 1 (List.toArray (List.range n)) [0]:=by
  refine⟨?_,List.Perm.refl _,hn⟩;show List.range n=[0]++List.range' 1 (n-1);rw[MC,show n=(n-1)+1 by lia,L6];rfl
 refine qQ hc (n-1) 1 [0] s h0 (IU 1) rfl (by simp) hI λm a s' h hm hp hI' gl=>?_
 show KasT.kasWp cmp (if (m == n)=true then _ else _) G s'
 by_cases e:m=n
 ·subst e;rw[IW (JW m)];exact g m _ a s' h hm hp hI'
 ·rw[IT (by simpa using e)]
  have hmn:m<n:=by have:=h.le;lia
  obtain⟨b,y,ea⟩:=nF h.len hm;have ky:=gl b y ea hmn;have hya:y<m:=h.lt (by rw[ea];simp)
  by_cases h2:m > 1
  ·rw[IW h2];obtain⟨x,r,ex⟩:∃x r,a=x::r:=by
    cases a with
    |nil=>have:=h.len;rw[Ka] at this;lia
    |cons x r=>exact⟨x,r,rfl⟩
   have hxa:x<m:=h.lt (by rw[ex];simp)
   show cmp ((List.toArray (List.range n)).getD 0 0) ((List.toArray (List.range n)).getD (m-1) 0) _ s';rw[h.at (i:=0) (x:=x) (by rw[ex];rfl),h.last ea]
   refine hc x y _ s' (by lia) (by lia) hI' λs2 hI2=>?_
   by_cases c:k x<k y
   ·rw[Jt c];exact g m _ a s2 h hm hp hI2
   ·rw[Jq c];have hv:=PI.rev (b:=[]) (c:=a) h;refine tV hc hv hmn ⟨Mp.mpr hp,λz hz w hw=>?_,λz hz w hw=>by rw[Jg.mp hz,Jg.mp hw],by simp⟩ hI2 g
    rw[Jg.mp hw];have hz':=K1.mp hz;have hxz:k x<=k z:=by
     rw[ex] at hz' hp;rcases IX.mp hz' with rfl|hz'
     ·exact Mc _
     ·exact ((J5.mp hp).1 z hz').le
    lia
  ·rw[IT h2];have hm1:m=1:=by lia
   have hb:b=[]:=by
    have:=h.len;rw[ea,IL,hm1] at this;simp only[Jd,Ka] at this;exact Kk.mp (by lia)
   subst hb;refine tV hc h hmn ⟨by rw[ea];simp,λz hz w hw=>?_,λz hz w hw=>by rw[Jg.mp hz,Jg.mp hw],by simp⟩ hI' g
   rw[Jg.mp hw];rw[ea] at hz;rw[Jg.mp hz];exact ky
theorem ke(hc:pN k n cmp I){G:Nat->Shared->Prop}{t:Nat}(h:PI n t p a)(ht:t<n)(hp:a.Pairwise (R k)):∀(f l r:Nat) (s:Shared),l<=r->r<=t->r-l<=f->(∀i x,i<l->a[i]?=some x->k x<=k t)->(∀i x,r<=i->a[i]?=some x->k t<k x)->I s ->
  (∀l' s',l'<=t->(∀i x,i<l'->a[i]?=some x->k x<=k t)->(∀i x,l'<=i->a[i]?=some x->k t<k x)->I s'->G l' s')->(kas_place p t f l r).kasWp cmp G s
 |0,l,r,s,h1,h2,h3,hlo,hhi,hI,g=>g l s (by lia) hlo (λi x hi e=>hhi i x (by lia) e) hI
 |f+1,l,r,s,h1,h2,h3,hlo,hhi,hI,g=>by
  show KasT.kasWp cmp (if l >= r then _ else _) G s
  by_cases hlr:l >= r
  ·rw[IW hlr];exact g l s (by lia) hlo (λi x hi e=>hhi i x (by lia) e) hI
  ·rw[IT hlr];have hmid:(l+r) / 2<a.length:=by rw[h.len];lia
   have em:a[(l+r) / 2]?=some a[(l+r) / 2]:=IJ hmid;have hma:a[(l+r) / 2]<t:=h.lt (Ji hmid);have mono:∀i j x y,i<=j->a[i]?=some x->a[j]?=some y->k x<=k y:=λi j x y hij ex ey=>by
    rcases JL i j with c|c
    ·obtain⟨hi,rfl⟩:=IQ.mp ex;obtain⟨hj,rfl⟩:=IQ.mp ey;exact (KN.mp hp i j hi hj c).le
    ·have:i=j:=Nat.le_antisymm hij c;subst this;rw[ex] at ey;cases ey;exact Mc _
   show cmp (p.getD t 0) (p.getD ((l+r) / 2) 0) _ s;rw[h.nx ht,h.at em];refine hc t _ _ s ht (by lia) hI λs' hI'=>?_
   by_cases c:k t<k a[(l+r) / 2]
   ·rw[Jt c];exact ke hc h ht hp f l ((l+r) / 2) s' (by lia) (by lia) (by lia) hlo (λi x hi e=>Int.lt_of_lt_of_le c (mono _ i _ x hi em e)) hI' g
   ·rw[Jq c];exact ke hc h ht hp f ((l+r) / 2+1) r s' (by lia) h2 (by lia) (λi x hi e=>Int.le_trans (mono i _ x _ (by lia) e em) (by lia)) hhi hI' g
theorem yU(hc:pN k n cmp I){G:Array Nat->Shared->Prop}:∀(f:Nat) (p:Array Nat) (t:Nat) (a:List Nat) (s:Shared),PI n t p a->a.Pairwise (R k)->f=n-t->I s ->
  (∀p' a' s',PI n n p' a'->a'.Pairwise (R k)->I s'->G p' s')->(kas_bin f p t).kasWp cmp G s
 |0,p,t,a,s,h,hp,hf,hI,g=>by
  have:t=n:=by have:=h.le;lia
  subst this;exact g p a s h hp hI
 |f+1,p,t,a,s,h,hp,hf,hI,g=>by
  have ht:t<n:=by lia
  show KasT.kasWp cmp ((kas_place p t t 0 t).bind _) G s;rw[LJ];refine ke hc h ht hp t 0 t s (Jj _) (IU _) (by lia) (λi x hi _=>absurd hi (LK i)) (λi x hi e=>?_) hI λl s' hl hlo hhi hI'=>?_
  ·have:=(IQ.mp e).1;rw[h.len] at this;lia
  ·have et:p[t]?=some t:=by
    rw[<- Jz,h.eq,Jk (by rw[h.len];exact IU t),h.len,JP,List.getElem?_range' (by lia)];simp
   have hla:l<=a.length:=by rw[h.len];exact hl
   have e1:(bubble p t (t-l)).toList=(a.take l++t::a.drop l)++List.range' (t+1) (n-(t+1)):=by
    rw[yL et hl,h.eq,List.take_append_of_le_length hla,MI hla,show n-t=(n-(t+1))+1 by lia,L6]
    have e2:(a.drop l).length=t-l:=by rw[JC,h.len]
    have e3:∀r:List Nat,(a++t::r).drop (t+1)=r:=λr=>by
     rw[show a++t::r=(a++[t])++r by simp]
     exact List.drop_left' (by rw[IL,h.len];rfl)
    rw[List.take_left' e2,e3]
   have hP:PI n (t+1) (bubble p t (t-l)) (a.take l++t::a.drop l):=by
    refine⟨e1,?_,ht⟩;have:(a.take l++t::a.drop l).Perm (a++[t]):=by
     have h1:(a.take l++t::a.drop l).Perm (t::(a.take l++a.drop l)):=Ny;rw[L3] at h1;exact h1.trans (List.perm_append_singleton t a).symm
    rw[M8];exact this.trans (h.perm.append_right [t])
   refine yU hc f _ (t+1) _ s' hP ?_ (by lia) hI' g
   have hp1:=(L3 l a) ▸ hp;obtain⟨q1,q2,q3⟩:=JX.mp hp1;refine JX.mpr ⟨q1,J5.mpr ⟨λx hx=>?_,q2⟩,λx hx y hy=>?_⟩
   ·obtain⟨i,hi⟩:=Mq.mp hx;rw[Kc] at hi;exact .inl (hhi (l+i) x (by lia) hi)
   ·rcases IX.mp hy with rfl|hy
    ·obtain⟨i,hi⟩:=Mq.mp hx;rw[Lj] at hi
     split at hi
     ·rename_i hil;have:=hlo i x hil hi;have hxt:=h.lt (List.mem_of_mem_take hx);unfold R;lia
     ·cases hi
    ·exact q3 x hx y hy
theorem t7(hc:pN k n cmp I){G:Array Nat->Shared->Prop}{s:Shared}(hn:1<=n)(hI:I s)(g:∀p s',p.toList.Perm (List.range n)->p.toList.Pairwise (R k)->I s'->G p s'):(kas_sort n).kasWp cmp G s:=by
 unfold kas_sort;rw[LJ];have fin:∀p a s',PI n n p a->a.Pairwise (R k)->I s'->G p s':=λp a s' h hp hI'=>by
  have e:p.toList=a:=by rw[h.eq,JP,List.range'_zero,JE]
  refine g p s' ?_ ?_ hI'<;>rw[e]
  ·exact h.perm
  ·exact hp
 refine wX hc hn hI λm p a s' h h1 hp hI'=>?_;show KasT.kasWp cmp (if m<n then _ else _) G s'
 by_cases hm:m<n
 ·rw[IW hm];show (kas_bin (n-max m 1) p (max m 1)).kasWp cmp G s';rw[show max m 1=m by lia]
  exact yU hc (n-m) p m a s' h hp rfl hI' fin
 ·rw[IT hm];have:m=n:=by have:=h.le;lia
  subst this;exact fin p a s' h hp hI'
end
end SP
abbrev EO(qual:Str)(scope:Scope)(L f:Addr)(cd:Value)(cl:List (Str×Addr)):Env:=PySem.W.envX qual scope L f cd cl
noncomputable def tm(X:Cx)(A:Around)(N:List Str)(qual:Str)(scope:Scope)(f:Addr)(cd:Value)(cl:List (Str×Addr))(s:Shared)(H:Hp):Cx where
 prog:=X.prog
 w:=X.w
 K:=X.K
 mg:=X.mg
 base:=X.base
 A:=A.deeper (EO qual scope s.heap.objs.size f cd cl)
 N:=N
 s₀:=s
 H₀:=H
 env:=EO qual scope s.heap.objs.size f cd cl
 outer:=X.stack
 stack:=EO qual scope s.heap.objs.size f cd cl::X.stack
 ex:=[]
 calm:=true
 fn:=λ_=>false
 pn:=[]
 xe:=λ_ _=>False
section
variable {X:Cx} {pins:List (Addr×Obj)} {σ:St} {H:Hp} {s:Shared}
theorem Af(I:Inv X pins σ H s){A:Around}(hA:A.frames=some X.stack)(hd:A.handled=none){qual:Str}{v:V}{u:Value}{cd:Value}{h₁:Heap}{tk:Nat}
  (hk:scope.kind=.function) (rv:RelV v u) (hloc:scope.names.lookup x=some .local) (hns:h₁.Ns s.heap.objs.size (λy=>[(x,u)].reverse.lookup y)) (old:∀b o,s.heap.get? b=some o->h₁.get? b=some o)
  (hlen:σf.length=N.length) (hcl:∀y c,cl.lookup y=some c->X.env.cells.lookup y=some c) (hhas:∀y,(scope.names.lookup y=some .cell\/scope.names.lookup y=some .free)->∃c,cl.lookup y=some c)
  (hf:∀(i:Nat) (y:Str) (v:V),N[i]?=some y->σf[i]?=some (some v)->scope.names.lookup y=some .free/\∃c u,cl.lookup y=some c/\s.heap.IsCell c (some u)/\RelV v u) :
  Inv (tm X A (x::N) qual scope f cd cl s H) [] (some v::σf) H {s with heap:=h₁,toks:=tk}:=by
 have noA:∀b:Addr,b∉(tm X A (x::N) qual scope f cd cl s H).ex:=λb z=>absurd (show b∈([]:List Addr) from z) (by simp)
 refine⟨⟨I.ok.mod,hk,rfl,rfl,IU _,λy z c e1 e2=>I.ok.inj y z c (hcl y c e1) (hcl z c e2),hhas,λy c z _=>(by cases z),λ_=>hd,Around.frames_deeper hA,.inr ⟨rfl,rfl⟩,λb z=>absurd z (noA b),I.bs,IY I.ok.zD I.sz,λb _ _=>noA b,λb z=>absurd z (noA b),I.stack,I.mV,I.ok.tabs.un I.base⟩,
  rfl,I.bare,Un.kept old,⟨_,hns,λi y w e1 e2 e3=>?_⟩,λy c e=>?_,I.bc.fresh (IU _),λy c e=>I.fD y c (hcl y c e),λp hp=>absurd (show p∈([]:List (Addr×Obj)) from hp) (by simp),I.bc.kept old,?_⟩
 ·cases i with
  |zero =>
   have e1':some x=some y:=e1;have e2':some (some v)=some (some w):=e2
   cases e1';cases e2'
   exact⟨u,rv,.inl ⟨hloc,by simp⟩⟩
  |succ i =>
   obtain⟨h1,c,u',h2,h3,h4⟩:=hf i y w e1 e2;obtain⟨o,ho,hd'⟩:=h3;exact⟨u',h4,.inr ⟨.inr h1,c,h2,o,old _ _ ho,hd'⟩⟩
 ·obtain⟨v',o,ho,hd'⟩:=I.cell y c (hcl y c e);exact⟨v',o,old _ _ ho,hd'⟩
 ·show (some v::σf).length=(x::N).length;rw[Jd,Jd,hlen]
theorem xf(I:Inv X pins σ H s){A:Around}(hr:bI (k+1) A)(hA:A.frames=some X.stack){qual:Str}{v:V}{u:Value}{f:Addr}{t:TE}{Q:VK}
  (hk:scope.kind=.function) (hco:scope.isCoroutine=false) (hgen:scope.isGenerator=false) (hcell:∀y∈scope.names,y.2≠.cell) (rv:RelV v u) (hloc:scope.names.lookup x=some .local)
  (ho:s.heap.get? f=some (PySem.W.kla_obj "<lambda>" qual params body scope cl pm c' ctv)) (fH:s.heap.CodeRec (.ref c') qual)
  (hbind:∀u,bindArgs (PySem.W.kla_fn "<lambda>" qual params body scope cl pm (.ref c') ctv) ⟨[u],[]⟩=pure [(x,u)])
  (hlen:σf.length=N.length) (hcl:∀y c,cl.lookup y=some c->X.env.cells.lookup y=some c) (hhas:∀y,(scope.names.lookup y=some .cell\/scope.names.lookup y=some .free)->∃c,cl.lookup y=some c)
  (hf:∀(i:Nat) (y:Str) (v:V),N[i]?=some y->σf[i]?=some (some v)->scope.names.lookup y=some .free/\∃c u,cl.lookup y=some c/\s.heap.IsCell c (some u)/\RelV v u)
  (hb:PE (tm X A (x::N) qual scope f (.ref c') cl s H) body t) (hq:t (some v::σf) H Q) :
  wpAny (model X.prog X.w) A (call (.ref f) [u]) (EP X pins σ Q) (λ_ _=>False) s:=by
 refine wpAny_call (PySem.W.kla_callFunE hr.depth ho rfl hco hgen rfl fH ?_);rw[hbind];refine Ja (wpAny_newFunctionEnv hcell (λy hy=>by rw[Jg.mp hy];exact hloc) (λh₁ hns hsb=>⟨I.nolimit.fresh _ hsb,?_⟩) hk)
 have old:∀b o,s.heap.get? b=some o->h₁.get? b=some o:=λb o e=>hsb.extBut b o (Jr (Jh e)) (IM _ e);have J:=Af (tk:=s.toks+1) (qual:=qual) (f:=f) (cd:=.ref c') I hA hr.hd hk rv hloc hns old hlen hcl hhas hf;refine PySem.W.kla_codeExpr (JO (hb [] _ _ H Q J hq) (λw s' h=>?_) λ_ _ h=>h.elim);obtain⟨v',H',J',r',q'⟩:=h;exact I.after ⟨v',H',J'.os,J'.bare,J'.base,J'.bc,r',q'⟩
end
inductive eB:Hp->Hp->Prop
 |refl {H:Hp}:eB H H
 |more {H H1:Hp} {p:Addr} {o:HO}:eB H H1->H1 p=none->eB H (upd H1 p o)
theorem eB.same(g:eB H H1):wQ H H1:=by
 induction g with
 |refl=>exact wQ.refl _
 |more g n ih=>exactλb o e=>by rw[af (ao (ih b o e) n)];exact ih b o e
theorem eB.trans{H2:Hp}(a:eB H H1)(b:eB H1 H2):eB H H2:=by
 induction b with
 |refl=>exact a
 |more _ n ih=>exact .more ih n
theorem jf{i j:Int}{ti tj:Tok}{c:Value}:∀l:List Value,TriplesOk l->TriplesOk (l++[.int i ti,.int j tj,c])
 |[],_=>trivial
 |.int _ _::.int _ _::_::r,h=>jf r (show TriplesOk r from h)
theorem m5{p:Pos}{i j:Int}{ti tj:Tok}{c cv:Value}:∀l:List Value,TriplesOk l->codeAmong p (l++[.int i ti,.int j tj,c])=some cv->codeAmong p l=some cv\/cv=c
 |[],_,e=>by
  have e':(if (i == p.line && j == p.col)=true then some c else codeAmong p [])=some cv:=e
  by_cases z:(i == p.line && j == p.col)=true
  ·rw[IW z] at e';cases e';exact .inr rfl
  ·rw[IT z] at e';cases e'
 |.int a ta::.int b tb::d::r,h,e=>by
  have e':(if (a == p.line && b == p.col)=true then some d else codeAmong p (r++[.int i ti,.int j tj,c]))=some cv:=e
  show (if (a == p.line && b == p.col)=true then some d else codeAmong p r)=some cv\/_
  by_cases z:(a == p.line && b == p.col)=true
  ·rw[IW z] at e' ⊢;exact .inl e'
  ·rw[IT z] at e' ⊢;exact m5 r (show TriplesOk r from h) e'
theorem sS(q:Str)(more:Array Value):yg (#[.str q 0]++more)=q:=by
 unfold yg;rw[Lb];rfl
structure jb (H:Hp) (f:Addr) (q:Str) (params:Arguments) (body:Expr) (scope:Scope) (cl:List (Str×Addr)) (c':Addr) (pm ctv:Value):Prop where
 fn:H f=some (.iY (PySem.W.kla_obj "<lambda>" q params body scope cl pm c' ctv) (.own f))
 cd:Ck H q (.ref c')
section
variable {X:Cx} {pins:List (Addr×Obj)} {σ:St} {H:Hp} {s:Shared} {E:Value->Shared->Prop}
theorem jb.up(x:jb H f q params body scope cl c' pm ctv)(g:∀b o u,H b=some (.iY o u)->H1 b=some (.iY o u)):jb H1 f q params body scope cl c' pm ctv:=
 ⟨g _ _ _ x.fn,let ⟨c,oc,vs,t,e1,e2,e3⟩:=x.cd;⟨c,oc,vs,t,e1,g _ _ _ e2,e3⟩⟩
theorem jb.get(x:jb H f q params body scope cl c' pm ctv)(I:Inv X pins σ H s):
  s.heap.get? f=some (PySem.W.kla_obj "<lambda>" q params body scope cl pm c' ctv)/\s.heap.CodeRec (.ref c') q:=by
 obtain⟨c,oc,vs,t,e1,e2,e3,e4⟩:=x.cd;exact⟨(I.bc f _ x.fn).1,c,oc,vs,t,e1,(I.bc c _ e2).1,e3,e4⟩
theorem Inv.yj{o:Obj}{t':Nat}(I:Inv X pins σ H s)(k:∀b u,s.heap.get? b=some u->h'.get? b=some u)(hp:s.heap.objs.size<=f)(e:h'.get? f=some o):Inv X pins σ (upd H f (.iY o (.own f))) {s with heap:=h',toks:=t'}:=
 I.laid k hp ⟨e,o,e⟩
theorem vK(I:Inv X pins σ H s){c P:Addr}(hx:x∈e7)(ht:PySem.W.tabIn X.K x=some (c,P))(hcode:X.env.code=.ref c)(hq:X.env.qual=x++".<locals>."){pos:Pos}
  (hdef:defaultsOf params X.env=([],[])) (hcl:closureFor scope X.env=pure cl)
  (h:∀f c' pm ctv H1 s1,eB H H1->Inv X pins σ H1 s1->jb H1 f ((x++".<locals>.")++"<lambda>") params body scope cl c' pm ctv->Q (.ref f) s1) :
  wpAny (model X.prog X.w) X.A (eval (.Lambda params body scope pos) X.env) Q E s:=by
 have hm:(c,P,(x++".<locals>.")++"<lambda>")∈bV X.K:=LL.mpr ⟨x,hx,by rw[ht];rfl⟩
 obtain⟨more,hP⟩:=(I.ok.tabs.un I.base) _ hm;have C:PySem.W.CodeHd s.heap c P:=(I.ok.mod.codes _ hm).keeps I.bk;obtain⟨qs,eP,tr,fa⟩:=I.bc P _ hP;have hns:=I.ok.mod.glob.keeps I.bk;have hgP:mainGlobals≠P:=λz=>by
  obtain⟨o,es,ep,e,_⟩:=I.ok.mod.glob;have:=(I.bs _ _ e).2;rw[z,hP] at this;cases this
 have hb:s.heap.BuiltinsAt X.mg P:=by
  obtain⟨bm,ob,b1,b2,b3,b4,b5⟩:=I.ok.mod.bm;refine⟨bm,ob,b1,b2,λz=>?_,λz=>?_,I.bk _ _ b3,b4,b5⟩
  ·obtain⟨o,es,ep,e,hd,_⟩:=I.ok.mod.glob;rw[z,e] at b3;cases b3;rw[hd] at b5;cases b5.2
  ·have:=(I.bs _ _ b3).2;rw[z,hP] at this;cases this
 refine PySem.W.kla_eval hdef ?_;rw[hq]
 cases ca:codeAmong pos qs.toList with
 |some cv =>
  have il:=fa pos cv ca;rw[sS] at il;obtain⟨c',oc,vs,t,rfl,e2,e3⟩:=il;refine PySem.W.kla_makeFunctionHit hcl I.ok.glob hns hcode C eP tr ca hb λctv h' tk hk hsz=>?_;have n0:H h'.objs.size=none:=I.bc.fresh hsz;have J:=I.yj (f:=h'.objs.size) (t':=tk) (h':=h'.push {cls:=.type "function",data:=.func (PySem.W.kla_fn "<lambda>" ((x++".<locals>.")++"<lambda>") params body scope cl ((X.mg "__name__").getD .none) (.ref c') ctv)}) (λb u e=>IM _ (hk b u e)) hsz (Jf _ rfl);exact h _ c' _ ctv _ _ (.more .refl n0) J ⟨aa,c',oc,vs,t,rfl,by rw[af (ao e2 n0)];exact e2,e3⟩
 |none =>
  refine PySem.W.kla_makeFunction hcl I.ok.glob hns hcode C eP tr ca hgP hb λc' ctv h' tk hx2 hge hlt hrec htb=>?_;obtain⟨c2,oc,vs,t,e2,hoc,hd,hv⟩:=hrec;cases e2;have nP:P≠c':=λz=>absurd (Jh eP) (by rw[z];exact Nm.mpr hge)
  have n1:H c'=none:=I.bc.fresh hge;have keep:∀b u,b≠P->s.heap.get? b=some u->h'.get? b=some u:=λb u hb' e=>hx2 b u hb' e;have H1ne:∀b u,H b=some u->upd H c' (.iY oc (.own c')) b=some u:=λb u e=>by rw[af (ao e n1)];exact e
  have hoP:∀y,H P≠some (.own y):=λy z=>by rw[hP] at z;cases z
  have J1:Inv X pins σ (upd H c' (.iY oc (.own c'))) {s with heap:=h',toks:=tk}:=by
   refine I.un ⟨λb o e n _ _=>keep b o (λz=>by rw[z,hP] at n;cases n) e,λb o e n _ _=>⟨o.slots,keep b o (λz=>by rw[z,hP] at n;cases n) e⟩,λb o e n _=>?_,λb o e _=>?_,λb xs e=>H1ne b _ e,λb o u e=>H1ne b _ e,λb ps e=>⟨#[],by rw[H1ne b _ e,MX]⟩⟩ λb u e=>?_
   ·rw[af (λz=>absurd (Jh e) (by rw[z];exact Nm.mpr hge))];exact n
   ·by_cases z:b=P
    ·rw[z];exact⟨_,htb⟩
    ·exact⟨o,keep b o z e⟩
   ·by_cases z:b=c'
    ·subst z;rw[aa] at e;cases e;exact⟨hoc,oc,hoc⟩
    ·rw[af z] at e;by_cases z2:b=P
     ·subst z2;rw[hP] at e;cases e;refine⟨_,htb,by rw[Lb];exact jf _ tr,λp cv hc=>?_⟩
      rw[Lb] at hc;rcases m5 _ tr hc with q|q
      ·obtain⟨c2,oc2,vs2,t2,g1,g2,g3⟩:=fa p cv q;exact⟨c2,oc2,vs2,t2,g1,H1ne _ _ g2,g3⟩
      ·rw[sS];exact⟨c',oc,vs,t,q,aa,hd,hv⟩
     ·refine (I.bc b u e).mU (λc v hc q=>keep c v ?_ q) (λc q=>H1ne c _ q) (λc xs q=>H1ne c _ q) λc _ _ q=>H1ne c _ q;rcases hc with rfl|hc
      ·exact z2
      ·exactλz3=>hoP b (by rw[<- z3];exact hc)
  have n2:upd H c' (.iY oc (.own c')) h'.objs.size=none:=J1.bc.fresh (IU _);have J:=J1.yj (f:=h'.objs.size) (t':=tk) (h':=h'.push (PySem.W.kla_obj "<lambda>" ((x++".<locals>.")++"<lambda>") params body scope cl ((X.mg "__name__").getD .none) c' ctv)) (λb u e=>IM _ e) (IU _) (Jf _ rfl);exact h _ c' _ ctv _ _ (.more (.more .refl n1) n2) J ⟨aa,c',oc,vs,t,rfl,by rw[af (ao aa n2)];exact aa,hd,hv⟩
end
section
variable {α β:Type}
noncomputable def iD(p:Int×α):List (Int×α)->List (Int×α)
 |[]=>[p]
 |q::r=>if p.1<=q.1 then p::q::r else q::iD p r
noncomputable def eC:List (Int×α)->List (Int×α)
 |[]=>[]
 |p::r=>iD p (eC r)
abbrev Fb(l:List (Int×α)):Prop:=l.Pairwise λp q=>p.1<=q.1
noncomputable def atK(a:Int)(l:List (Int×α)):List (Int×α):=l.filter λp=>decide (p.1=a)
theorem gj(p:Int×α):∀l,(iD p l).Perm (p::l)
 |[]=>.refl _
 |q::r=>by
  unfold iD;split
  ·exact .refl _
  ·exact ((gj p r).cons q).trans (List.Perm.swap p q r)
theorem dY:∀l:List (Int×α),(eC l).Perm l
 |[]=>.refl _
 |p::r=>(gj p _).trans ((dY r).cons p)
theorem sx{p:Int×α}:∀{l:List (Int×α)},Fb l->Fb (iD p l)
 |[],_=>N5 _ _
 |q::r,h=>by
  obtain⟨h1,h2⟩:=J5.mp h;unfold iD;split
  ·rename_i c;exact J5.mpr ⟨λz hz=>by
    rcases IX.mp hz with rfl|hz
    ·exact c
    ·exact Int.le_trans c (h1 z hz),h⟩
  ·rename_i c;refine J5.mpr ⟨λz hz=>?_,sx h2⟩;rcases IX.mp ((gj p r).mem_iff.mp hz) with rfl|hz
   ·lia
   ·exact h1 z hz
theorem o_:∀l:List (Int×α),Fb (eC l)
 |[]=>List.Pairwise.nil
 |_::r=>sx (o_ r)
theorem b9(a:Int)(p:Int×α)(l:List (Int×α)):atK a (p::l)=if p.1=a then p::atK a l else atK a l:=by
 unfold atK;rw[List.filter_cons];by_cases z:p.1=a
 ·rw[IW z,IW (Jt z)]
 ·rw[IT z,IT (by simp[z])]
theorem tE{a:Int}{p:Int×α}:∀{l:List (Int×α)},atK a (iD p l)=atK a (p::l)
 |[]=>rfl
 |q::r=>by
  unfold iD;split
  ·rfl
  ·rename_i c;rw[b9,tE,b9,b9,b9];by_cases z:p.1=a
   ·have z2:¬ q.1=a:=by lia
    simp only[z,z2,Mo,KP]
   ·simp only[z,KP]
theorem pG{a:Int}:∀l:List (Int×α),atK a (eC l)=atK a l
 |[]=>rfl
 |p::r=>by
  show atK a (iD p (eC r))=_;rw[tE,b9,b9,pG r]
theorem jC{a:Int}:∀{l:List (Int×α)},(∀p∈l,a<p.1)->atK a l=[]
 |[],_=>rfl
 |p::r,h=>by
  have:=h p (IZ ..);rw[b9,IT (by lia),jC λq hq=>h q (IV _ hq)]
theorem m3:∀{l m:List (Int×α)},Fb l->Fb m->(∀a,atK a l=atK a m)->l=m
 |[],[],_,_,_=>rfl
 |[],q::m,_,_,h=>by
  have:=h q.1;rw[b9,IW rfl] at this;cases this
 |p::l,[],_,_,h=>by
  have:=h p.1;rw[b9,IW rfl] at this;cases this
 |p::l,q::m,hl,hm,h=>by
  obtain⟨l1,l2⟩:=J5.mp hl;obtain⟨m1,m2⟩:=J5.mp hm;have e:p.1=q.1:=by
   rcases Int.lt_trichotomy p.1 q.1 with z|z|z
   ·have q1:=h p.1;rw[b9,IW rfl,b9,IT (by lia),jC (l:=m) λr hr=>by have:=m1 r hr;lia] at q1
    cases q1
   ·exact z
   ·have q1:=h q.1;rw[b9,IT (by lia),b9,IW rfl,jC (l:=l) λr hr=>by have:=l1 r hr;lia] at q1
    cases q1
  have q1:=h p.1;rw[b9,IW rfl,b9,IW e.symm] at q1;obtain⟨q2,q3⟩:=List.cons.inj q1;subst q2;congr 1;refine m3 l2 m2 λa=>?_;have q4:=h a;rw[b9,b9] at q4;by_cases z:p.1=a
  ·rw[IW z,IW z] at q4;exact (List.cons.inj q4).2
  ·rw[IT z,IT z] at q4;exact q4
theorem oq{l m:List (Int×α)}(hm:Fb m)(h:∀a,atK a m=atK a l):m=eC l:=m3 hm (o_ l) λa=>by rw[h a,pG]
abbrev EX(R:α->β->Prop):List (Int×α)->List (Int×β)->Prop:=Paired λp q=>p.1=q.1/\R p.2 q.2
theorem xh{R:α->β->Prop}{p:Int×α}{q:Int×β}(h:p.1=q.1/\R p.2 q.2){l:List (Int×α)}{m:List (Int×β)}(k:EX R l m):EX R (iD p l) (iD q m):=by
 induction k with
 |nil=>exact .cons h .nil
 |cons r t ih =>
  unfold iD;split
  ·rename_i z;rw[IW (by rw[<- h.1,<- r.1];exact z)]
   exact .cons h (.cons r t)
  ·rename_i z;rw[IT (by rw[<- h.1,<- r.1];exact z)]
   exact .cons r ih
theorem uJ{R:α->β->Prop}{l:List (Int×α)}{m:List (Int×β)}(k:EX R l m):EX R (eC l) (eC m):=by
 induction k with
 |nil=>exact .nil
 |cons r t ih=>exact xh r ih
theorem yk{R:α->β->Prop}{ks:List Int}{l:List α}{m:List β}(k:Paired R l m):EX R (ks.zip l) (ks.zip m):=by
 induction k generalizing ks with
 |nil=>rw[List.zip_nil_right,List.zip_nil_right];exact .nil
 |cons r t ih =>
  cases ks with
  |nil=>exact .nil
  |cons k ks=>exact .cons ⟨rfl,r⟩ ih
theorem yV{R:α->β->Prop}{l:List (Int×α)}{m:List (Int×β)}(k:EX R l m):Paired R (l.map (·.2)) (m.map (·.2)):=by
 induction k with
 |nil=>exact .nil
 |cons r t ih=>exact .cons r.2 ih
noncomputable def jn(ks:List Int)(l:List α):List α:=(eC (ks.zip l)).map (·.2)
theorem sv{R:α->β->Prop}{ks:List Int}{l:List α}{m:List β}(h:Paired R l m):Paired R (jn ks l) (jn ks m):=yV (uJ (yk h))
theorem tT{ks:List Int}{l:List α}(h:ks.length=l.length):(jn ks l).length=l.length:=by
 unfold jn;rw[IP,(dY _).length_eq,MD,h,Kx]
theorem j6{ks:List Int}{l:List α}(h:ks.length=l.length):(jn ks l).Perm l:=by
 have h2:((ks.zip l).map (·.2))=l:=Nz (by lia)
 have h3:=(dY (ks.zip l)).map (·.2);rw[h2] at h3;exact h3
end
theorem je:∀{xs:List V} {us:List Value},Vals xs us->Paired RelV xs us
 |_,_,.nil=>.nil
 |_,_,.cons r t=>.cons r (je t)
theorem jd:∀{xs:List V} {us:List Value},Paired RelV xs us->Vals xs us
 |_,_,.nil=>.nil
 |_,_,.cons r t=>.cons r (jd t)
theorem rV:∀{us:List Value} {ns:List Int},IntsAre us ns->∀{i:Nat},i<ns.length->∃t,us.getD i Value.none=.int (ns.getD i 0) t
 |_,_,.cons n t h,0,_=>⟨t,rfl⟩
 |_,_,.cons n t h,i+1,hi=>rV h (i:=i) (by simpa using hi)
theorem xm{p:List Nat}(hl:kz.length=us.length)(hp:p.Perm (List.range us.length))(hr:p.Pairwise (SP.R λi=>kz.getD i 0)):p.map (λi=>us.getD i Value.none)=jn kz us:=by
 have ez:(List.range us.length).map (λi=>(kz.getD i 0,us.getD i Value.none))=kz.zip us:=by
  apply KU
  ·rw[IP,JA,MD,hl,Kx]
  ·intro i h1 h2;rw[IP,JA] at h1;rw[List.getElem_map,List.getElem_range,List.getElem_zip];simp[h1,hl]
 have e1:p.map (λi=>(kz.getD i 0,us.getD i Value.none))=eC (kz.zip us):=by
  refine oq ?_ λa=>?_
  ·exact KJ.mpr (hr.imp λh=>h.le)
  ·have fl:∀l:List Nat,atK a (l.map λi=>(kz.getD i 0,us.getD i Value.none))=(l.filter λi=>decide (kz.getD i 0=a)).map λi=>(kz.getD i 0,us.getD i Value.none):=λl=>by
    unfold atK;rw[List.filter_map];rfl
   rw[<- ez,fl,fl];congr 1;refine N0 (le:=(· < ·)) (λa b _ _ h g=>absurd h (Nat.lt_asymm g)) ?_ (Md.filter _) (hp.filter _);rw[List.pairwise_filter];refine hr.imp λ{i j} h hi hj=>?_;have hi:=JJ hi;have hj:=JJ hj;rcases h with h|h
   ·exfalso;have h':kz.getD i 0<kz.getD j 0:=h;lia
   ·exact h.2
 unfold jn;rw[<- e1,KW];rfl
section
variable {X:Cx} {pins:List (Addr×Obj)} {σ:St} {H:Hp} {s:Shared} {E:Value->Shared->Prop}
theorem Inv.take{D:Addr}{ob:Obj}{o:HO}{t':Nat}(I:Inv X ((D,ob)::pins) σ H s)(hs0:X.s₀.heap.objs.size<=D)(hnp:∀p∈X.pn++pins,p.1≠D)(k:∀b u,b≠D->s.heap.get? b=some u->h'.get? b=some u)(new:b6 X.prog X.w (upd H D o) h' D o):
  Inv X pins σ (upd H D o) {s with heap:=h',toks:=t'}:=by
 obtain⟨g1,g2,g3,g4,g5⟩:=I.pin (D,ob) (Jo _ (IZ ..));have I0:Inv X pins σ H s:=⟨I.ok,I.os,I.bare,I.base,I.loc,I.cell,I.free,I.fD,λp hp=>I.pin p ((JG.mp hp).elim (λz=>Ku _ z) λz=>Jo _ (IV _ z)),I.bc,I.len⟩;have ne:∀b u,H b=some u->b≠D:=λb u e=>ao e g2;refine I0.step (g':=s.gens) (d':=s.drawn) (ch:=[D]) (λb hb=>?_) (λb o' _ _ hc e _=>k b o' (λz=>hc (by rw[z];exact Jg.mpr rfl)) e) (λb o' _ _ hc e _=>⟨o'.slots,k b o' (λz=>hc (by rw[z];exact Jg.mpr rfl)) e⟩) (λb o' hc e n=>by rw[af (λz=>hc (by rw[z];exact Jg.mpr rfl))];exact n)
  (λb o' hc e=>⟨o',k b o' (λz=>hc (by rw[z];exact Jg.mpr rfl)) e⟩) (λb xs e=>by rw[af (ne b _ e)];exact e) (λb o' u e=>by rw[af (ne b _ e)];exact e) (λb ps e=>⟨#[],by rw[af (ne b _ e),e,MX]⟩) (λm hm=>?_) (λb u e=>?_) I.bare
 ·rw[Jg.mp hb];refine⟨.inr hs0,g3,λx c e z=>?_,hnp⟩;obtain⟨v,o',ho',hd⟩:=I.cell x c e;rw[z,g1] at ho';cases ho';exact g5 v hd
 ·obtain⟨o',es,ep,ho',r⟩:=hm;exact⟨o',es,ep,k _ _ (Kp g3) ho',r⟩
 ·by_cases z:b=D
  ·subst z;rw[aa] at e;cases e;exact new
  ·rw[af z] at e;refine (I.bc b u e).mU (λc v hc q=>k c v ?_ q) (λc q=>by rw[af (ne c _ q)];exact q) (λc xs q=>by rw[af (ne c _ q)];exact q) λc _ _ q=>by rw[af (ne c _ q)];exact q
   rcases hc with rfl|hc
   ·exact z
   ·exact ne c _ hc
theorem sX{A:Around}{D:Nat}{st:SortSt}
  (I:Inv X ((D,seqObj "list" #[] e1)::pins) σ (upd H kS (.lst (kz.map V.int))) s) (hkS:H kS=none) (hD:H D=none) (hkD:kS≠D) (hs0:X.s₀.heap.objs.size<=D) (hnp:∀p∈X.pn++pins,p.1≠D)
  (hv:Vals xs us) (hlen:kz.length=us.length) (h64:us.length<64) (ho:((arrOf st).map (·.2)).toList=jn kz us) (hfl:failedOf st=none)
  (h:∀s',Inv X pins σ (upd (upd H kS (.lst [])) D (.lst (jn kz xs))) s'->P (.done (.ret .none)) s') :
  wpAny (model X.prog X.w) A (ksk_tail D false e1 (.ref kS) st) P E s:=by
 obtain⟨_,its,n,vr,ek⟩:=I.bc kS _ aa;have hz:its.toArray.size<=sizeLine:=by
  rw[IS,<- vr.length,IP,hlen,Kg];lia
 have pD:=I.pin _ (Jo _ (IZ ..));have hout:((arrOf st).map (·.2)).size=us.length:=by
  rw[<- J8,ho,tT hlen]
 have s1:=JZ s.heap kS (Obj.mapSeq λ_=>(#[]:Array Value));obtain⟨c1,hc1⟩:∃c,(s.heap.update kS (Obj.mapSeq λ_=>(#[]:Array Value))).get? kS=some (seqObj "list" #[] c):=⟨_,LI ek λ_=>#[]⟩;have J1:Inv X ((D,seqObj "list" #[] e1)::pins) σ (upd H kS (.lst [])) {s with heap:=s.heap.update kS (Obj.mapSeq λ_=>(#[]:Array Value))}:=by
  have J:=I.write (x:=kS) (e:=kS) (o:=.lst []) (t':=s.toks) (h':=s.heap.update kS (Obj.mapSeq λ_=>(#[]:Array Value))) (by rw[aa];trivial) (.inl rfl) (λb u hb q=>(s1.2 b hb).trans q) ⟨_,hc1⟩ ⟨Jj _,[],c1,.nil,hc1⟩
  rw[mH] at J;exact J
 have pD1:=J1.pin _ (List.mem_append_right _ (List.mem_cons_self ..));have s2:=Heap.SameBut.update (s.heap.update kS (Obj.mapSeq λ_=>(#[]:Array Value))) D (Obj.mapSeq λ_=>(arrOf st).map (·.2));obtain⟨c2,hc2⟩:∃c,((s.heap.update kS (Obj.mapSeq λ_=>(#[]:Array Value))).update D (Obj.mapSeq λ_=>(arrOf st).map (·.2))).get? D=some (seqObj "list" ((arrOf st).map (·.2)) c):=⟨_,get?_update_seq pD1.1 λ_=>(arrOf st).map (·.2)⟩;have vB:Vals (jn kz xs) (jn kz us):=jd (sv (je hv));unfold ksk_tail;dsimp only;refine wpAny_bind (listUpdate_at ek rfl ?_ hz (Nat.zero_le _));refine wpAny_bind (wpAny_letGo ?_);refine wpAny_bind (seqEpoch_at pD1.1 rfl ?_);refine wpAny_bind (listUpdate_at pD1.1 rfl ?_ (Nat.zero_le _) (by show ((arrOf st).map (·.2)).size<=_;rw[hout,sizeLine_eq];lia))
 rw[hfl];simp only[Ng,K7,KP];refine Ja (h _ (J1.take hs0 hnp (λb u hb q=>(s2.2 b hb).trans q) ⟨?_,jn kz us,c2,vB,?_⟩))
 ·rw[vB.length,tT hlen,Kg];lia
 ·rw[<- ho,LA];exact hc2
theorem Eo{A:Around}{D:Nat}{us:List Value}{kz:List Int}{keys:Array Value}
  (I:Inv X ((D,seqObj "list" #[] e1)::pins) σ (upd H kS (.lst (kz.map V.int))) s) (hkS:H kS=none) (hD:H D=none) (hkD:kS≠D) (hs0:X.s₀.heap.objs.size<=D) (hnp:∀p∈X.pn++pins,p.1≠D)
  (hv:Vals xs us) (hlen:kz.length=us.length) (h64:us.length<64) (hk:IntsAre keys.toList kz)
  (h:∀s',Inv X pins σ (upd (upd H kS (.lst [])) D (.lst (jn kz xs))) s'->P (.done (.ret .none)) s') :
  wpAny (model X.prog X.w) A (ksk_end D false us.toArray e1 (.ref kS) keys) P E s:=by
 have hsz:keys.size=us.length:=by
  have z:=hk.length;rw[J8] at z;exact z.trans hlen
 have hzs:(keys.zip us.toArray).size=us.length:=by
  rw[Array.size_zip,hsz,IS,Kx]
 unfold ksk_end;dsimp only;rw[if_neg Bool.false_ne_true,if_neg Bool.false_ne_true];by_cases h2:us.toArray.size<2
 ·rw[if_pos h2,if_pos h2];refine wpAny_bind (wpAny_pure ?_);rw[StateT.run_pure];refine wpAny_bind (wpAny_pure ?_);dsimp only;refine sX I hkS hD hkD hs0 hnp hv hlen h64 ?_ rfl h;rw[List.size_toArray] at h2;have:=xm (us:=us) (kz:=kz) (p:=List.range us.length) hlen (List.Perm.refl _) (by
   rcases us with _|⟨x,_|⟨y,r⟩⟩
   ·exact .nil
   ·simp
   ·exfalso;simp only[Jd] at h2;lia)
  rw[<- this];show ((keys.zip us.toArray).map (·.2)).toList=_;rw[Array.toList_map,Array.toList_zip,Nz (by simp only[J8,IS];lia)]
  apply KU
  ·simp
  ·intro i h1 h2;have h1':i<us.length:=h1;simp[h1']
 ·rw[IT h2,IT h2];rw[IS] at h2;rw[ksk_kind hk (by lia)]
  refine IK (Ja ?_);have ek:keys=keys.toList.toArray:=(LA).symm;have hkl:keys.toList.length=us.length:=by rw[J8,hsz]
  have hat:∀i,i<us.length->∃t,keys.toList.getD i Value.none=.int (kz.getD i 0) t:=λi hi=>rV hk (by rw[hlen];exact hi)
  generalize keys.toList=ks at *;subst ek;refine IK (JO (PySem.W.kat_run (ks:=ks) (vs:=us) (κ:=oneType') (Q:=λst' s'=>s'=s/\failedOf st'=none/\((arrOf st').map (·.2)).toList=jn kz us)
   (G:=λp s'=>s'=s/\p.toList.Perm (List.range us.length)/\p.toList.Pairwise (SP.R λi=>kz.getD i 0)) hkl (by lia) h64 (λp st' s' a1 a2 a3 a4=>⟨a4.1,a3,by rw[PySem.W.kat_snds hkl a2];exact xm hlen a4.2.1 a4.2.2⟩) ?_) ?_ λ_ _ e=>e)
  ·refine SP.t7 (k:=λi=>kz.getD i 0) (I:=λs'=>s'=s) (λi j C s' hi hj hI hC=>?_) (by lia) rfl λp s' hp hr hI=>⟨hI,hp,hr⟩
   subst hI;obtain⟨t1,e1⟩:=hat i hi;obtain⟨t2,e2⟩:=hat j hj;unfold PySem.W.kas_ask;rw[e1,e2];exact PySem.W.kat_lt_int (hC _ rfl)
  rintro⟨⟨⟩,st'⟩ s' ⟨rfl,hf,ho⟩;dsimp only;exact sX I hkS hD hkD hs0 hnp hv hlen h64 ho hf h
theorem j5:∀{us:List Value} {ns:List Int},Vals (ns.map V.int) us->IntsAre us ns
 |_,[],.nil=>.nil
 |_,n::ns,.cons ⟨t,e⟩ r=>by subst e;exact .cons n t (j5 r)
theorem AW{A:Around}{D:Nat}{f:Value}
  (I:Inv X ((D,seqObj "list" #[] e1)::pins) σ (upd H kS (.lst [])) s) (hkS:H kS=none) (hD:H D=none) (hkD:kS≠D) (hs0:X.s₀.heap.objs.size<=D) (hnp:∀p∈X.pn++pins,p.1≠D)
  (hv:Vals xs us) (hlen:kz.length=us.length) (h64:us.length<64)
  (turn:∀(i:Nat) (u:Value) (k:Int),us[i]?=some u->kz[i]?=some k->∀pins' H' s',eB H H'->Inv X pins' σ H' s'->wpAny (model X.prog X.w) A (call f [u]) (λr s2=>(∃t,r=.int k t)/\Inv X pins' σ H' s2) (λ_ _=>False) s')
  (h:∀s',Inv X pins σ (upd (upd H kS (.lst [])) D (.lst (jn kz xs))) s'->P (.done (.ret .none)) s') :
  wpAny (model X.prog X.w) A (ksk_rest D f false us.toArray e1 (.ref kS)) P E s:=by
 unfold ksk_rest;refine IK (Nh ?_)
 first
  |rw[List.forIn_toArray]
  | (rw[<- Array.forIn_toList];simp only[MM])
 refine IK (ksk_fold (λi s'=>Inv X ((D,seqObj "list" #[] e1)::pins) σ (upd H kS (.lst ((kz.take i).map V.int))) s') us 0 s I ?one ?all)
 case one =>
  intro j u s' hu J;rw[Lz] at J ⊢;have hj:j<us.length:=(IQ.mp hu).1;obtain⟨k,hkj⟩:∃k,kz[j]?=some k:=⟨_,IJ (by lia)⟩
  refine wpAny_bind (wpAny_attempt (wpAny_mono (turn j u k hu hkj _ _ s' (.more .refl hkS) J) (λr s2 hr=>?_) λ_ _ z=>z.elim));obtain⟨⟨t,rfl⟩,J2⟩:=hr;dsimp only;obtain⟨_,its,n,vr,ek⟩:=J2.bc kS _ aa;have lenI:its.length<=us.length:=by
   rw[<- vr.length,IP,Jn];lia
  have s1:=JZ s2.heap kS (Obj.mapSeq (·.push (.int k t)));obtain⟨c1,hc1⟩:∃c,(s2.heap.update kS (Obj.mapSeq (·.push (.int k t)))).get? kS=some (seqObj "list" (its.toArray.push (.int k t)) c):=⟨_,LI ek (·.push (.int k t))⟩;have et:kz.take (j+1)=kz.take j++[k]:=by
   rw[List.take_add_one,hkj];rfl
  have vr2:Vals ((kz.take (j+1)).map V.int) (its++[.int k t]):=by
   rw[et,Jm];exact vr.append (.cons ⟨t,rfl⟩ .nil)
  refine IK (Mg ek rfl ?_ (by rw[IS,Kg];lia) (by show (its.toArray.push (.int k t)).size<=_;rw[Array.size_push,IS,Kg];lia))
  refine Ja ⟨rfl,?_⟩;have J3:=J2.write (x:=kS) (e:=kS) (o:=.lst ((kz.take (j+1)).map V.int)) (t':=s2.toks) (h':=s2.heap.update kS (Obj.mapSeq (·.push (.int k t)))) (by rw[aa];trivial) (.inl rfl) (λb u hb q=>(s1.2 b hb).trans q) ⟨_,hc1⟩
   ⟨by rw[IP,Jn,Kg];lia,its++[.int k t],c1,vr2,by rw[hc1,List.push_toArray]⟩
  rw[mH] at J3;exact J3
 case all =>
  intro s' J;have ez:kz.take (0+us.length)=kz:=JR (by lia)
  have J':Inv X ((D,seqObj "list" #[] e1)::pins) σ (upd H kS (.lst (kz.map V.int))) s':=by
   rw[<- ez];rw[ez];simpa only[ez] using J
  obtain⟨_,its,n,vr,ek⟩:=J'.bc kS _ aa;refine IK (M7 ek rfl ?_);exact Eo J' hkS hD hkD hs0 hnp hv hlen h64 (by rw[MM];exact j5 vr) h
theorem zK{A:Around}{D:Addr}{n0:Nat}{h0:Heap}{f:Value}
  (I:Inv X pins σ H s) (k0:∀b o,s.heap.get? b=some o->h0.get? b=some o) (hDs:s.heap.objs.size<=D) (ho:h0.get? D=some (seqObj "list" us.toArray n0)) (hv:Vals xs us) (hlen:kz.length=us.length) (h64:us.length<64)
  (turn:∀(i:Nat) (u:Value) (k:Int),us[i]?=some u->kz[i]?=some k->∀pins' H' s',eB H H'->Inv X pins' σ H' s'->wpAny (model X.prog X.w) A (call f [u]) (λr s2=>(∃t,r=.int k t)/\Inv X pins' σ H' s2) (λ_ _=>False) s')
  (h:∀H' s',eB H H'->H' D=none->Inv X pins σ (upd H' D (.lst (jn kz xs))) s'->P (.done (.ret .none)) s') :
  wpAny (model X.prog X.w) A (ksk_tree D f false) P E {s with heap:=h0}:=by
 have hsz0:D<h0.objs.size:=Jh ho;have s1:=JZ h0 D (Obj.mapSeq λ_=>(#[]:Array Value));obtain⟨e1,ho1⟩:∃e,(h0.update D (Obj.mapSeq λ_=>(#[]:Array Value))).get? D=some (seqObj "list" #[] e):=⟨_,LI ho λ_=>#[]⟩;have hkz:((h0.update D (Obj.mapSeq λ_=>(#[]:Array Value))).push (seqObj "tuple" us.toArray 0)).objs.size=h0.objs.size+1:=by
  rw[size_push',Nv]
 have nD:∀b o,s.heap.get? b=some o->b≠D:=λb o e=>Jr (Ju (Jh e) hDs);have keep:∀b o,s.heap.get? b=some o->(((h0.update D (Obj.mapSeq λ_=>(#[]:Array Value))).push (seqObj "tuple" us.toArray 0)).push (seqObj "list" #[] 0)).get? b=some o:=λb o e =>
  IM _ (IM _ ((s1.2 b (nD b o e)).trans (k0 b o e)))
 have hle:s.heap.objs.size<=h0.objs.size+1:=IY hDs (Kn (K2 hsz0));have hkD:h0.objs.size+1≠D:=Kv (Lr hsz0);have hkS:H (h0.objs.size+1)=none:=I.bc.fresh hle;have hD:H D=none:=I.bc.fresh hDs;have hnp:∀p∈X.pn++pins,p.1≠D:=λp hp=>nD _ _ (I.pin p hp).1;have J0:Inv X pins σ (upd H (h0.objs.size+1) (.lst [])) {s with heap:=((h0.update D (Obj.mapSeq λ_=>(#[]:Array Value))).push (seqObj "tuple" us.toArray 0)).push (seqObj "list" #[] 0)}:=
  I.laid (t':=s.toks) keep hle ⟨Jj _,[],0,.nil,by rw[<- hkz];exact Jf _ rfl⟩
 have J:Inv X ((D,seqObj "list" #[] e1)::pins) σ (upd H (h0.objs.size+1) (.lst [])) {s with heap:=((h0.update D (Obj.mapSeq λ_=>(#[]:Array Value))).push (seqObj "tuple" us.toArray 0)).push (seqObj "list" #[] 0)}:=by
  refine J0.m9 λp hp=>?_;rcases IX.mp hp with rfl|hp
  ·exact⟨IM _ (IM _ ho1),by rw[af (Kp hkD)];exact hD,λz=>absurd I.lt (by rw[<- z];exact Nm.mpr hDs),I.Gd hDs,λv z=>by cases z⟩
  ·exact J0.pin p (Jo _ hp)
 unfold ksk_tree;refine IK (M7 ho rfl ?_);refine IK (Mg ho rfl ?_ (by rw[IS,Kg];lia) (Jj _))
 refine IK (seqEpoch_at ho1 rfl ?_);refine IK (NU ?_ (by show us.length<=_;rw[Kg];lia))
 refine IK (LF ?_ (Jj _));refine JN ?_;show wpAny _ _ (ksk_rest D f false us.toArray e1 (.ref ((h0.update D (Obj.mapSeq λ_=>(#[]:Array Value))).push (seqObj "tuple" us.toArray 0)).objs.size)) _ _ _;rw[hkz];exact AW J hkS hD hkD (IY I.sz hDs) hnp hv hlen h64 turn λs' K=>h _ s' (.more .refl hkS) (by rw[af (Kp hkD)];exact hD) K
end
noncomputable def AZ(q:Str)(params:Arguments)(body:Expr)(scope:Scope)(cl:List (Str×Addr)):TE:=λ_ H Q=>∀f c' pm ctv H1,eB H H1->jb H1 f q params body scope cl c' pm ctv->Q (.ref f) H1
theorem EK{c P:Addr}(hx:x∈e7)(ht:PySem.W.tabIn X.K x=some (c,P))(hcode:X.env.code=.ref c)(hq:X.env.qual=x++".<locals>."){pos:Pos}
  (hdef:defaultsOf params X.env=([],[])) (hcl:closureFor scope X.env=pure cl):PE X (.Lambda params body scope pos) (AZ ((x++".<locals>.")++"<lambda>") params body scope cl):=λpins s σ H Q I h =>
 vK I hx ht hcode hq hdef hcl λf c' pm ctv H1 s1 g J l=>⟨.ref f,H1,J,rfl,h f c' pm ctv H1 g l⟩
section
variable {X:Cx} {pins:List (Addr×Obj)} {σ:St} {H:Hp} {s:Shared} {E:Value->Shared->Prop}
noncomputable def xH(X:Cx)(A:Around)(s:Shared)(l:Addr)(xs:List V):Prop:=∀(Q:List Value->Shared->Prop) (E:Value->Shared->Prop),(∀h0 tk us,(∀b o,s.heap.get? b=some o->h0.get? b=some o)->s.heap.objs.size<=h0.objs.size->Vals xs us->Q us {s with heap:=h0,toks:=tk})->wpAny (model X.prog X.w) A (collect (.ref l)) Q E s
theorem uV{A:Around}{l:Addr}{Q:VK}(I:Inv X pins σ H s)(hcol:xH X A.in1 s l xs)(hlen:kz.length=xs.length)(h64:xs.length<64)
  (turn:∀(i:Nat) (v:V) (u:Value) (k:Int),xs[i]?=some v->RelV v u->kz[i]?=some k->∀pins' H' s',eB H H'->Inv X pins' σ H' s'->wpAny (model X.prog X.w) A.in1.in1 (call (.ref f) [u]) (λr s2=>(∃t,r=.int k t)/\Inv X pins' σ H' s2) (λ_ _=>False) s')
  (h:∀H' D,eB H H'->H' D=none->Q (.ref D) (upd H' D (.lst (jn kz xs)))) :
  wpAny (model X.prog X.w) A (call (.builtin "sorted") [.ref l] [(Str.ofString "key",.ref f)]) (EP X pins σ Q) E s:=by
 refine call_function_entry_kw kind_sorted plain_sorted entry_sorted (ksk_s1 _ _) ?_;unfold Builtin.«sorted»;refine IK (m:=checkCount "sorted" 1 1 _) (Ja (IK (hcol _ _ λh0 tk us k0 hz hv=>?_)));have ul:us.length=xs.length:=hv.length.symm;refine IK (LF ?_ (by rw[ul,Kg];lia))
 have hoL:(h0.push (seqObj "list" us.toArray 0)).get? h0.objs.size=some (seqObj "list" us.toArray 0):=Jf _ rfl;refine IK (JN (wpAny_call_entry_kw slot_list_sort ⟨_,hoL,rfl⟩ entry_list_sort ?srt (ksk_l1 _ _)))
 case srt =>
  show wpAny _ A.in1.in1 (Builtin.«list.sort» ⟨[.ref h0.objs.size],[(Str.ofString "key",.ref f)]⟩) _ _ _;rw[ksk_t1];refine zK (s:={s with toks:=tk}) (h0:=h0.push (seqObj "list" us.toArray 0)) (I.tok tk) (λb o e=>IM _ (k0 b o e)) hz hoL hv (by rw[ul];exact hlen) (by rw[ul];exact h64)
   (λi u k hu hk pins' H' s' g J=>?_) λH' s' g n J=>⟨_,rfl,?_⟩
  ·have hi:i<xs.length:=by rw[<- ul];exact (IQ.mp hu).1
   obtain⟨u',hu',rv⟩:=hv.get (IJ hi);rw[hu] at hu';cases hu';exact turn i _ u k (IJ hi) rv hk pins' H' s' g J
  ·exact Ja ⟨_,rfl,.ref h0.objs.size,_,J,rfl,h H' _ g n⟩
noncomputable def vQ(src:Hp->Addr->List V->Prop)(pre:V->Int->Hp->St->Prop)(fr:St->St)(t:TA):TE:=λσ H Q=>t σ H λvs H1=>∃l xs kz,vs=[.ref l]/\src H1 l xs/\kz.length=xs.length/\xs.length<64 /\
 (∀(i:Nat) (v:V) (k:Int),xs[i]?=some v->kz[i]?=some k->∀H',eB H1 H'->pre v k H' (fr σ))/\∀H2 D,eB H1 H2->H2 D=none->Q (.ref D) (upd H2 D (.lst (jn kz xs)))
theorem yp{t:TA}{p pos kpos lpos:Pos}{src:Hp->Addr->List V->Prop}{pre:V->Int->Hp->St->Prop}{fr:St->St}
  (hg:Gl X "sorted") (hm:X.mg "sorted"=none) (ha:PA X [e] t) (h1:gK e=true) (hr:bI (k+3) X.A) (hL:PE X (.Lambda params body scope lpos) (AZ q params body scope cl))
  (hsrc:∀pins σ H s H1 l xs A,Inv X pins σ H s->src H1 l xs->eB H1 H->A.handled=none->xs.length<64->xH X A s l xs)
  (hk:scope.kind=.function) (hco:scope.isCoroutine=false) (hgen:scope.isGenerator=false) (hcell:∀y∈scope.names,y.2≠.cell) (hloc:scope.names.lookup x=some .local)
  (hbind:∀c' pm ctv u,bindArgs (PySem.W.kla_fn "<lambda>" q params body scope cl pm (.ref c') ctv) ⟨[u],[]⟩=pure [(x,u)])
  (hlen:∀σ:St,(fr σ).length=N.length) (hcl:∀y c,cl.lookup y=some c->X.env.cells.lookup y=some c) (hhas:∀y,(scope.names.lookup y=some .cell\/scope.names.lookup y=some .free)->∃c,cl.lookup y=some c)
  (hf:∀pins σ H s,Inv X pins σ H s->∀(i:Nat) (y:Str) (v:V),N[i]?=some y->(fr σ)[i]?=some (some v)->scope.names.lookup y=some .free/\∃c u,cl.lookup y=some c/\s.heap.IsCell c (some u)/\RelV v u)
  (hbody:∀A f c' s' H' σf v i,pre v i H' σf->∃t,PE (tm X A (x::N) q scope f (.ref c') cl s' H') body t/\t (some v::σf) H' (λw H2=>w=.int i/\H2=H')) :
  PE X (.Call (.Name "sorted" p) [e] [⟨some "key",.Lambda params body scope lpos,kpos⟩] pos) (vQ src pre fr t):=by
 intro pins s σ H Q I h;refine K6 (hW I hg hm (u:=.builtin "sorted") (by decide +kernel) ?_ (by decide) (by decide))
 have hkw:PK X [⟨some "key",.Lambda params body scope lpos,kpos⟩] (jg (AZ q params body scope cl) jq):=Ba hL Dl;refine callWith_kw ?_ (by rw[dA h1];rfl) (by rw[dA h1];rfl) rfl rfl
 refine bT (ha pos pins s σ H _ I h) λus s1 hq1=>?_;obtain⟨vs,H1,I1,r1,q1⟩:=hq1;obtain⟨l,xs,kz,rfl,hs,hle,h64,hpre,qq⟩:=q1;obtain⟨u,rfl,ru⟩:=vals1 r1;cases ru;refine bT (hkw pos pins s1 σ H1 (λzs H2=>∃f c' pm ctv,zs=[.ref f]/\eB H1 H2/\jb H2 f ((q)) params body scope cl c' pm ctv) I1 λf c' pm ctv H2 g lm=>⟨f,c',pm,ctv,rfl,g,lm⟩) λws s2 hq2=>?_;obtain⟨zs,H2,I2,rz,f,c',pm,ctv,e1,g,lm⟩:=hq2;subst e1;obtain⟨wv,rfl,rw1⟩:=vals1 rz;cases rw1;have hr1:bI (k+2) X.A.in1:=hr.in1;refine uV I2 (hsrc _ _ _ _ _ _ _ _ I2 hs g hr1.hd h64) hle h64 (λi v u j hv rv hj pins' H' s' g' J=>?_) λH' D g' n=>qq H' D (g.trans g') n;obtain⟨ho,fH⟩:=(lm.up λb o u e=>g'.same b _ e).get J;obtain⟨tb,hb,hq⟩:=hbody X.A.in1.in1 f c' s' H' (fr σ) v j (hpre i v j hv hj H' (g.trans g'));refine JO (xf J hr1.in1 J.ok.frames hk hco hgen hcell rv hloc ho fH (hbind c' pm ctv) (hlen σ) hcl hhas (hf _ _ _ _ J) hb hq) (λr s4 hr4=>?_) λ_ _ z=>z;obtain⟨w,H4,J4,rw4,e4,e5⟩:=hr4;subst e4 e5;exact⟨rw4,J4⟩
end
theorem mO{a:α}{l:List (Str×α)}:List.lookup x ((x,a)::l)=some a:=by rw[JI,JW]
theorem ju{y:Str}{a:α}{l:List (Str×α)}(h:y≠x):List.lookup y ((x,a)::l)=List.lookup y l:=by rw[JI,Jv.mpr h]
abbrev kj(n:Nat):List V:=(List.range n).map λk=>V.int ((k:Nat):Int)
section
variable {X:Cx} {pins:List (Addr×Obj)} {σ:St} {H:Hp} {s:Shared}
theorem oR{A:Around}{r:Addr}{n:Nat}(hh:A.handled=none)(I:Inv X pins σ H s)(hr:H r=some (.ml 0 n))(h64:n<64):xH X A s r (kj n):=λQ E h=>by
 obtain⟨t,u,v,e⟩:=I.bc r _ hr;have hn2:Builtin.Range.rangeSize 0 (n:Int) 1=n:=by rw[rangeSize_one];split<;>lia
 have hsm:Builtin.Range.small 0 (n:Int) 1=true:=small_one (by lia) (by lia) (by lia) (by lia)
 have oS:(s.heap.push {cls:=.type "list",data:=.seq ([]:List Value).toArray}).get? s.heap.objs.size=some {cls:=.type "list",data:=.seq #[] 0}:=Jf _ rfl;unfold collect;refine IK (wpAny_runValue (Li PySem.F.entry_proto_collect ?_));rw[L7 PySem.F.plain_proto_collect _];refine IK (m:=newList []) (Km (Ja ⟨NY PySem.F.plain_list_iadd _,Li PySem.F.entry_list_iadd ?_⟩));rw[L7 PySem.F.plain_list_iadd _];show wpAny _ A.in1 (Builtin.List.listExtendWith _ _ _) _ _ _;refine wpAny_extend_range (R:=λr s'=>match r with|.ok (.ret v)=>wpAny (model X.prog X.w) A (match v with|.ref a=>do (match (<- load a).data with|.seq xs _=>pure xs.toList|_=>unsupported "internal:collect")|_=>unsupported "internal:collect") Q E s'|.ok _=>_|.error e=>E e s') (s:={s with heap:=s.heap.push {cls:=.type "list",data:=.seq ([]:List Value).toArray}}) hh (IM _ e) hsm hn2 (by lia) s.heap.objs.size (.ref s.heap.objs.size) 0 oS λh' tk acc c' hk hS hI=>?_
 refine IK (m:=load s.heap.objs.size) (wpAny_load hS (Ja (h h' tk acc.toList (λb o e=>hk b o (Jr (Jh e)) (IM _ e)) (K2 (Jh hS)) ?_)));have hv:=Y.gS (lo:=0) n acc.toList 0 (by simpa using hI.1) λj v e=>by
  obtain⟨t,e2⟩:=hI.2 j v (by simpa using e)
  exact⟨t,by rw[e2];simp⟩
 show Vals ((List.range n).map λk=>V.int ((k:Nat):Int)) acc.toList;rw[MC]
 simpa using hv
end
theorem bu.same{H':Hp}{a:Addr}(g:wQ H H')(h:bu K H a xs):bu K H' a xs:=by
 rcases h with (h|⟨o,h⟩)|h
 ·exact .inl (.inl (g _ _ h))
 ·exact .inl (.inr ⟨o,g _ _ h⟩)
 ·exact .inr h
noncomputable def Ic(j:Nat)(σ:St):St:=[(σ[j]?).getD none]
noncomputable def jA(K:Og)(j:Nat)(t:TA):TE:=vQ (λH l xs=>∃n:Nat,H l=some (.ml 0 n)/\xs=kj n) (λv k H' σf=>∃i q ls,v=.int i/\σf=[some (.ref q)]/\bu K H' q ls/\bU ls i=some (.int k)) (Ic j) t
theorem y8{t:TA}{p pos kpos lpos p1 p2 p3:Pos}{y:Str}{c:Addr}{j:Nat}(hg:Gl X "sorted")(hm:X.mg "sorted"=none)(ha:PA X [e] t)(h1:gK e=true)(hr:bI (k+3) X.A)
  (hL:PE X (.Lambda params (.Subscript (.Name y p1) (.Name x p2) p3) scope lpos) (AZ q params (.Subscript (.Name y p1) (.Name x p2) p3) scope [(y,c)]))
  (hsc:scope={kind:=.function,names:=[(x,.local),(y,.free)],isGenerator:=false,isCoroutine:=false,more:=[]}) (hxy:y≠x) (hx1:(x ==("__debug__":Str))=false) (hx2:(x ==("__classdict__":Str))=false) (hy1:(y ==("__debug__":Str))=false) (hy2:(y ==("__classdict__":Str))=false)
  (hj:X.N[j]?=some y) (hyc:X.env.scope.names.lookup y=some .cell) (hyl:X.env.cells.lookup y=some c)
  (hbind:∀c' pm ctv u,bindArgs (PySem.W.kla_fn "<lambda>" q params (.Subscript (.Name y p1) (.Name x p2) p3) scope [(y,c)] pm (.ref c') ctv) ⟨[u],[]⟩=pure [(x,u)]) :
  PE X (.Call (.Name "sorted" p) [e] [⟨some "key",.Lambda params (.Subscript (.Name y p1) (.Name x p2) p3) scope lpos,kpos⟩] pos) (jA X.K j t):=by
 subst hsc;have lx:List.lookup x [(x,NameKind.local),(y,NameKind.free)]=some .local:=mO;have ly:List.lookup y [(x,NameKind.local),(y,NameKind.free)]=some .free:=by rw[ju hxy,mO]
 have lz:∀z,z≠x->z≠y->List.lookup z [(x,NameKind.local),(y,NameKind.free)]=none:=λz h1 h2=>by rw[ju h1,ju h2];rfl
 have lc:List.lookup y [(y,c)]=some c:=mO;have lcz:∀z d,List.lookup z [(y,c)]=some d->z=y/\d=c:=λz d e=>by
  by_cases h:z=y
  ·rw[h,lc] at e;cases e;exact⟨h,rfl⟩
  ·rw[ju h] at e;cases e
 refine yp (N:=[y]) hg hm ha h1 hr hL (λpins σ H s H1 l xs A I hs g hh h64=>?_) rfl rfl rfl (λz hz=>?_) lx hbind (λ_=>rfl) (λz d e=>?_) (λz hz=>?_) (λpins σ H s I i z v e1 e2=>?_) λA f c' s' H' σf v i hp=>?_
 ·obtain⟨n,hs,rfl⟩:=hs;rw[IP,JA] at h64;exact oR hh I (g.same _ _ hs) h64
 ·rcases IX.mp hz with rfl|hz
  ·nofun
  ·rw[Jg.mp hz];nofun
 ·obtain⟨rfl,rfl⟩:=lcz z d e;exact hyl
 ·by_cases z1:z=x
  ·have hz':List.lookup z [(x,NameKind.local),(y,NameKind.free)]=some .cell\/List.lookup z [(x,NameKind.local),(y,NameKind.free)]=some .free:=hz;rw[z1,lx] at hz';rcases hz' with h|h<;>cases h
  ·by_cases z2:z=y
   ·rw[z2];exact⟨c,lc⟩
   ·have hz':List.lookup z [(x,NameKind.local),(y,NameKind.free)]=some .cell\/List.lookup z [(x,NameKind.local),(y,NameKind.free)]=some .free:=hz;rw[lz z z1 z2] at hz';rcases hz' with h|h<;>cases h
 ·cases i with
  |succ i=>cases e1
  |zero =>
   have e1':some y=some z:=e1;cases e1';have e2':some ((σ[j]?).getD none)=some (some v):=e2;have e3:σ[j]?=some (some v):=by
    cases hσ:σ[j]? with
    |none=>rw[hσ] at e2';cases e2'
    |some o=>rw[hσ] at e2';exact e2'
   obtain⟨m,_,hl⟩:=I.loc;obtain⟨u,rv,lk⟩:=hl j y v hj e3 (.inr (.inl hyc));refine⟨ly,c,u,lc,?_,rv⟩;rcases lk with ⟨z,_⟩|⟨_,d,z1,z2⟩
   ·have z':X.env.scope.names.lookup y=some .local:=z;rw[hyc] at z';cases z'
   ·rw[hyl] at z1;cases z1;exact z2
 ·obtain⟨ix,a,ls,rfl,rfl,hq,ha'⟩:=hp;refine⟨_,BN qJ (pv 1 rfl (.inr (.inr ly)) hy1 hy2) (pv 0 rfl (.inl lx) hx1 hx2) (Z.Ib rfl),?_⟩;exact⟨_,rfl,_,rfl,a,ls,ix,.int i,rfl,rfl,hq,ha',rfl,rfl⟩
theorem A_{β:Type}{g:α->β}{ks:List Int}{l:List α}:jn ks (l.map g)=(jn ks l).map g:=by
 have p:∀l:List α,Paired (λa b=>b=g a) l (l.map g):=λl=>by
  induction l with
  |nil=>exact .nil
  |cons a l ih=>exact .cons rfl ih
 have q:∀{l:List α} {m:List β},Paired (λa b=>b=g a) l m->m=l.map g:=λ{l m} h=>by
  induction h with
  |nil=>rfl
  |cons r _ ih=>rw[r,ih];rfl
 exact q (sv (p l))
structure sA (K:Og) (mg:Str->Option Value) (x:Str):Prop where
 ex:∃c P,PySem.W.tabIn K x=some (c,P)/\∀f cdv,CK K mg x f cdv->cdv=.ref c
theorem oi{c P:Addr}{oc oc':Value}{od od':Option Addr}{sl sl':Array (Option Value)}{fd:FuncData}{vs:Array Value}(a:PySem.W.nsIn K mainGlobals x=some (some (.ref f)))(l:K.lookup f=some ⟨oc,od,.func fd,sl⟩)(hc:fd.code=.ref c)
  (lc:K.lookup c=some ⟨oc',od',.fields vs,sl'⟩) (hv:vs[11]?=some (.ref P)):PySem.W.tabIn K x=some (c,P):=by
 unfold PySem.W.tabIn;rw[a];dsimp only;rw[l];dsimp only;rw[hc];dsimp only;rw[lc];dsimp only;rw[hv]
theorem jP(a:PySem.W.nsIn K mainGlobals x=some none):PySem.W.tabIn K x=none:=by
 unfold PySem.W.tabIn;rw[a]
theorem sA.mk'{mg:Str->Option Value}{c P:Addr}(X:K.In h)(G:h.Ns mainGlobals mg)(ht:PySem.W.tabIn K x=some (c,P)):sA K mg x:=
 ⟨c,P,ht,λf cdv ⟨m,o,fd,lk,hd,e⟩=>by rw[<- e];exact PySem.W.law_code X G ht m (X _ _ lk) hd⟩
theorem iI.of{q:Program}{o1 o2 o3:Option (Addr×Addr)}(nt:PySem.W.noTabs K=true)(t1:PySem.W.tabIn K "by_worth"=o1)(t2:PySem.W.tabIn K "by_weight"=o2)(t3:PySem.W.tabIn K "code_of"=o3)(nd:((o1.toList++(o2.toList++o3.toList)).map (·.2)).Nodup)
  (f1:o1=none\/((recsOf q).find? (λe=>e.name ==("by_worth":Str))).isSome=true) (f2:o2=none\/((recsOf q).find? (λe=>e.name ==("by_weight":Str))).isSome=true) (f3:o3=none\/((recsOf q).find? (λe=>e.name ==("code_of":Str))).isSome=true):iI q K:=by
 refine⟨nt,?_,λx hx=>?_⟩
 ·have e:(bV K).map (·.2.1)=(o1.toList++(o2.toList++o3.toList)).map (·.2):=by
   unfold bV e7
   cases o1<;>cases o2<;>cases o3<;>simp[List.filterMap,t1,t2,t3]
  rw[e];exact nd
 ·unfold e7 at hx;rcases IX.mp hx with rfl|hx
  ·rw[t1];exact f1
  ·rcases IX.mp hx with rfl|hx
   ·rw[t2];exact f2
   ·rw[Jg.mp hx,t3];exact f3
namespace Y
noncomputable def Bt:V->List V->Hp->VK->Prop:=λx vs H Q=>∃z y,x=.str z/\vs=[.str y]/\z.length<=sizeLine/\Q (.str (Txt.rstripChars z y)) H
theorem lP:wZ X "str.rstrip" Bt:=by
 intro pins s σ H x xs v us Q I rx rs h;obtain⟨z,y,rfl,rfl,hz,q⟩:=h;obtain⟨t,rfl⟩:=rx;obtain⟨u,rfl,k,rfl⟩:=vals1 rs;exact SC.rstripChars (λt' k=>⟨.str _,H,I.tok _,⟨_,rfl⟩,q⟩) hz
noncomputable def Dx:V->List V->Hp->VK->Prop:=λx vs H Q=>∃z i y,x=.str z/\vs=[.int i,.str y]/\0<=i/\i<1000/\y.length=1/\Q (.str (Txt.ljustF z i (y.cps.getD 0 0))) H
theorem oj:wZ X "str.ljust" Dx:=by
 intro pins s σ H x xs v us Q I rx rs h;obtain⟨z,i,y,rfl,rfl,h0,h1,hy,q⟩:=h;obtain⟨t,rfl⟩:=rx;obtain⟨u1,u2,rfl,⟨t1,rfl⟩,⟨t2,rfl⟩⟩:=vals2 rs;exact ljust_fill (padOk_of (by lia) (by lia)) hy λt' k=>⟨.str _,H,I.tok _,⟨_,rfl⟩,q⟩
end Y
theorem oo(x y:Str):(Txt.rstripChars x y).cps.toList.reverse=x.cps.toList.reverse.dropWhile y.cps.contains:=by
 have key:∀(p:Nat->Bool) (l:List Nat),(l.take (l.length-(l.reverse.takeWhile p).length)).reverse=l.reverse.dropWhile p:=λp l=>by
  have h:(l.reverse.takeWhile p).length<=l.length:=by simpa using (List.takeWhile_sublist p (l:=l.reverse)).length_le
  rw[List.reverse_take,<- tu];congr 1;lia
 have hl:x.length=x.cps.toList.length:=by rw[J8];rfl
 rw[<- key];unfold Txt.rstripChars Txt.stripBy;split
 ·rename_i h;unfold stripSame at h;rw[JQ] at h;have h2:x.length-(x.cps.toList.reverse.takeWhile y.cps.contains).length=x.length:=by simpa[stripLo,stripHi] using h.2
  rw[<- hl,h2,hl,Ke]
 ·have e:∀(a:Array Nat) (j:Nat),(a.extract 0 j).toList=a.toList.take j:=λa j=>by simp
  have e2:=e x.cps (x.length-(x.cps.toList.reverse.takeWhile y.cps.contains).length);rw[hl] at e2;exact JH List.reverse e2
namespace Y
noncomputable def GB:R2:=λx y H Q=>∃(c:Nat) (k:Int),x=.str ⟨#[c]⟩/\y=.int k/\0<=k/\k<=1000/\Q (.str ⟨(List.replicate k.toNat c).toArray⟩) H
theorem tI:cI X (binaryOp .Mult) GB:=by
 intro pins s σ H x y v u Q I rx ry h;obtain⟨c,k,rfl,rfl,h0,h1,q⟩:=h;obtain⟨t,rfl⟩:=rx;obtain⟨t2,rfl⟩:=ry;have e:Txt.mul ⟨#[c]⟩ k=⟨(List.replicate k.toNat c).toArray⟩:=by
  have:=mul_one_list c k
  cases hz:Txt.mul ⟨#[c]⟩ k with
  |mk a=>rw[hz] at this;rw[<- this,LA]
 have ok:MulOk ⟨#[c]⟩ k:=by
  refine⟨by simp only[Bool.or_eq_false_iff,decide_eq_false_iff_not];lia,λz _=>?_,λz _=>?_⟩
  ·have hl:((⟨#[c]⟩:Str).length:Int)=1:=rfl;rw[hl];have:1<=(2^63-1) / k:=by
    rw[NI (by lia)];lia
   lia
  ·have hl:(⟨#[c]⟩:Str).length=1:=rfl;rw[hl,Nat.one_mul];exact Jq (Nm.mpr (IY (show k.toNat<=1000 by lia) (by decide)))
 exact SB.mul ok λt' j=>⟨.str _,H,I.tok _,⟨t',by rw[e]⟩,q⟩
noncomputable def FW:V->List V->Hp->VK->Prop:=λx vs H Q=>∃a:Int,x=.int a/\vs=[]/\Q (.int (Builtin.Int.intBits a:Nat)) H
theorem zJ:wZ X "int.bit_length" FW:=by
 intro pins s σ H x xs v us Q I rx rs h;obtain⟨a,rfl,rfl,q⟩:=h;obtain⟨t,rfl⟩:=rx;obtain rfl:=Paired.qF rs;exact call_int_bit_length ⟨.int _,H,I.tok _,⟨_,rfl⟩,q⟩
noncomputable def HZ(K:Og):R2:=λx y H Q=>∃a b xs,x=.ref a/\y=.ref b/\ck K H a xs/\ck K H b []/\Q (.bl xs.isEmpty) H
theorem Ep(K:Og)(hK:X.K=K)(hu:X.A.units<cLine):cI X (compareOp .Eq) (HZ K):=by
 subst hK;intro pins s σ H x y v u Q I rx ry h;obtain⟨a,b,xs,rfl,rfl,ha,hb,q⟩:=h
 cases rx;cases ry
 obtain⟨its,r1,p1,_⟩:=I.list ha;obtain⟨its2,r2,p2,_⟩:=I.list hb;obtain rfl:=Paired.qF r2
 cases r1 with
 |nil=>exact N9 (e:=λ_=>true) p1.isList p2.isList rfl hu (λj h1=>absurd h1 (LK _)) ⟨.bl true,H,I,rfl,q⟩
 |cons h r=>exact LY p1.isList p2.isList (by simp) hu ⟨.bl false,H,I,rfl,q⟩
end Y
noncomputable def iO(h:Heap)(d:Addr)(es:Array DictEntry)(ep:Nat):Prop:=∃o,h.get? d=some o/\o.ExactDict/\o.data=.dict es ep
section
variable {prog:Program} {w:World} {A:Around} {E:Value->Shared->Prop} {s:Shared}
theorem iO.ty(x:iO s.heap d es ep):s.TypeIs (.ref d) "dict":=let ⟨o,ho,hc,_⟩:=x;⟨o,ho,hc.1⟩
theorem iO.keep(x:iO h d es ep)(k:∀o,h.get? d=some o->h'.get? d=some o):iO h' d es ep:=let ⟨o,ho,r⟩:=x;⟨o,k _ ho,r⟩
theorem iO.lt(x:iO h d es ep):d<h.objs.size:=let ⟨_,ho,_⟩:=x;Jh ho
theorem As(low:(d == sysModules)=false)(x:iO s.heap d es ep)
  (q:Q (.ref s.heap.objs.size) {s with heap:=s.heap.push {cls:=.type "dict_keyiterator",data:=.fields #[.ref d,.int 0 0,.int es.size 0,.int ep 0]}}):wpAny (model prog w) A (pyIter (.ref d)) Q E s:=by
 obtain⟨o,ho,hx,hdat⟩:=id x;refine wpAny_pyIter_slot x.ty PySem.F.slot_dict_iter (JS PySem.F.slot_dict_iter x.ty PySem.F.entry_dict_iter ?_ (PySem.F.args_dict_iter_1 _));unfold Builtin.«dict.__iter__» Builtin.Dict.dictSlotNone;refine IK (IK (wpAny_notOrdered_dict x.ty ?_));show wpAny _ _ (pure (Value.ref d)) _ _ s;refine Ja ?_;show wpAny _ _ (Builtin.Dict.showsAll d >>= _) _ _ s;unfold Builtin.Dict.showsAll;rw[low,IT Jb];refine IK (Ja (IK (L_ ho hdat (IK (NB ho hdat ?_)))));exact IK (Km (Ja ⟨_,rfl,"dict_keyiterator",_,⟨_,Jf _ rfl,rfl⟩,PySem.F.slot_dict_keyiterator_next.lookup,q⟩))
theorem Bf{it:Addr}{Q:Option Value->Shared->Prop}(hit:s.heap.IsKeyIter it d i es.size ep)(x:iO s.heap d es ep)(hi:i<es.size)
  (q:∀h',h'.IsKeyIter it d (i+1) es.size ep->Heap.SameBut it s.heap h'->Q (some es[i].key) {s with heap:=h'}):wpAny (model prog w) A (pyNext (.ref it)) Q E s:=by
 obtain⟨o,ho,hc,hd⟩:=id hit;obtain⟨od,hod,hx,hdd⟩:=id x;unfold pyNext;refine IK (Mi (JM (name:=Str.ofString "__next__") hit.typeIs PySem.F.slot_dict_keyiterator_next (JS PySem.F.slot_dict_keyiterator_next hit.typeIs PySem.F.entry_dict_keyiterator_next ?_ (PySem.F.args_dict_keyiterator_next_1 _))));refine IK (Ja (IK (IK ?_)))
 first|refine IK (Kz hit.typeIs (Ja (IK (MU ho hd ?_))))|refine IK (KY hit.typeIs (Ja (IK (MU ho hd ?_))))
 simp only[show Builtin.Dict_items.ownsTuple "dict_keyiterator"=false by decide,K7,KP]
 show wpAny _ _ (if (Value.ref d == Value.none)=true then _ else _) _ _ s;rw[IT (show ¬ ((Value.ref d == Value.none)=true) from Jb)]
 refine IK (Ja (IK (L_ hod hdd ?_)));rw[IT (by simp)]
 refine IK (Ja (IK (NB hod hdd ?_)));rw[IT (by simp)]
 refine Ja ?_;simp only[show ¬ ((i:Int)<0) by lia,KP,Jw,Nn hi]
 refine IK ?_
 first|refine IK (Kz hit.typeIs (Ja (IK (Mr hit.typeIs ?_))))|refine IK (KY hit.typeIs (Ja (IK (Mr hit.typeIs ?_))))
 show wpAny _ _ (setField (.ref it) 1 (rawInt ((i:Int)+1)) >>= _) _ _ s;refine IK (MR ho hd (by simp) ?_)
 have h2:(s.heap.update it (Obj.mapFields (·.setIfInBounds 1 (rawInt ((i:Int)+1))))).IsKeyIter it d (i+1) es.size ep:=⟨_,Lv _ ho (Obj.isFreed_of_fields (LP hd _)),(Obj.cls_mapFields ..).trans hc,by rw[LP hd];simp[rawInt]⟩
 refine IK (JN (IK (Mr (s:={s with heap:=s.heap.update it (Obj.mapFields (·.setIfInBounds 1 (rawInt ((i:Int)+1))))}) h2.typeIs ?_)))
 show wpAny _ _ (pure es[i].key) _ _ _;exact Ja (Ja ⟨_,rfl,Ja (q _ h2 (JZ ..))⟩)
theorem Bq{it:Addr}{Q:Option Value->Shared->Prop}(hh:A.handled=none)(hit:s.heap.IsKeyIter it d es.size es.size ep)(x:iO s.heap d es ep)
  (q:∀h',Heap.ExtBut it s.heap h'->Q none {s with heap:=h'}):wpAny (model prog w) A (pyNext (.ref it)) Q E s:=by
 obtain⟨o,ho,hc,hd⟩:=id hit;obtain⟨od,hod,hx,hdd⟩:=id x;unfold pyNext;refine IK (Mi (JM (name:=Str.ofString "__next__") hit.typeIs PySem.F.slot_dict_keyiterator_next (JS PySem.F.slot_dict_keyiterator_next hit.typeIs PySem.F.entry_dict_keyiterator_next ?_ (PySem.F.args_dict_keyiterator_next_1 _))));refine IK (Ja (IK (IK ?_)))
 first|refine IK (Kz hit.typeIs (Ja (IK (MU ho hd ?_))))|refine IK (KY hit.typeIs (Ja (IK (MU ho hd ?_))))
 simp only[show Builtin.Dict_items.ownsTuple "dict_keyiterator"=false by decide,K7,KP]
 show wpAny _ _ (if (Value.ref d == Value.none)=true then _ else _) _ _ s;rw[IT (show ¬ ((Value.ref d == Value.none)=true) from Jb)]
 refine IK (Ja (IK (L_ hod hdd ?_)));rw[IT (by simp)]
 refine IK (Ja (IK (NB hod hdd ?_)));rw[IT (by simp)]
 refine Ja ?_;simp only[show ¬ ((es.size:Int)<0) by lia,KP,Jw,NJ (IU es.size)]
 refine IK ?_
 first|refine IK (Kz hit.typeIs (Ja ?_))|refine IK (KY hit.typeIs (Ja ?_))
 show wpAny _ _ (setField (.ref it) 0 .none >>= _) _ _ s;refine IK (MR ho hd (by simp) ?_)
 show wpAny _ _ (newExc (.type "StopIteration") [] >>= _) _ _ _;refine IK ?_;simp only[newExc,newTuple];refine IK (Km ?_ (by size_fits))
 refine IK (m:=firstArgMember _ _) (wpAny_of_eq (a:=Value.none) (by first|rfl | (simp only[firstArgMember];rfl)) (Km ?_ (by size_fits)))
 simp only[raiseNew];refine IK (wpAny_handled ?_);rw[show A.in1.handled=none from hh];refine IK (Ja (wpAny_throw ?_));refine IK (wpAny_isInstance (T:="StopIteration") (b:=true) ⟨_,Jf _ rfl,rfl⟩ isSubtype_stop ?_);exact Ja (q _ (((JZ ..).extBut.push _).push _))
end
theorem vY{A:Around}(hh:A.handled=none)(I d:Addr)(ne:d≠I)(es:Array DictEntry)(ep:Nat):
  Walks prog w A I [I,d] [I] es.size (λi v=>∃h:i<es.size,v=es[i].key) (λi h=>h.IsKeyIter I d i es.size ep/\iO h d es ep) where
 sub:=λb hb=>by simp at hb;simp[hb]
 frame:=λ_ _ _ st hk=>⟨st.1.at λo e=>hk I (by simp) o e,st.2.keep λo e=>hk d (by simp) o e⟩
 item:=λi s Q E hi st hQ=>Bf st.1 st.2 hi λh' a b=>hQ _ h' s.toks ⟨hi,rfl⟩ ⟨a,st.2.keep λo e=>b.extBut _ _ ne e⟩ λc o hc e=>b.extBut c o (λh=>hc (by simp[h])) e
 done:=λs Q E st hQ=>Bq hh st.1 st.2 λh' he=>hQ h' s.toks λc o hc e=>he c o (λh=>hc (by simp[h])) e
 self:=λ_ _ _ _ st hQ=>wpAny_pyIter_keyiter st.1 hQ
theorem DV(low:(d == sysModules)=false):PySem.W.KdlSrc prog w "dict" d d es.size (λi v=>∃h:i<es.size,v=es[i].key) (λh=>iO h d es ep) where
 type:=λ_ x=>x.ty
 there:=λ_ x=>⟨x.lt,x.lt⟩
 keep:=λ_ _ x k=>x.keep λo e=>k d (.inl rfl) o e
 notList:=by decide
 notTuple:=by decide
 hint:=λ_ _ _ _ x q=>PySem.W.kdl_hint_dict x.ty q
 iter:=λ_ _ hh x=>⟨_,_,(λ_ _ q=>As low x q),vY hh _ d (Jr x.lt) es ep,⟨⟨_,Jf _ rfl,rfl,rfl⟩,x.keep λ_ e=>IM _ e⟩⟩
theorem wx{es:List DictEntry}(h:KTD.Rows (wN K) es D):es.length=D.length:=by
 induction h with
 |nil=>rfl
 |cons _ _ _ ih=>simp[ih]
theorem wc{es:List DictEntry}(h:KTD.Rows (wN K) es D):Vals (D.map λp=>V.str p.1) (es.map λe=>e.key):=by
 induction h with
 |nil=>exact .nil
 |cons e _ _ ih=>exact .cons ⟨_,e⟩ ih
noncomputable def Dy(K:Og)(D:List (Str×List Str)):List V->Hp->VK->Prop:=λxs H Q=>∃d,xs=[.ref d]/\lh K d D/\D.length<=sizeLine/\∀l,H l=none->Q (.ref l) (upd H l (.lst (D.map λp=>V.str p.1)))
theorem qY(K:Og)(hK:X.K=K)(hc:X.calm=true):bD X (.type "list") (Dy K D):=by
 intro pins s σ H xs us Q I r h;subst hK;obtain⟨d,rfl,hd,hz,q⟩:=h;obtain⟨u,rfl,rx⟩:=vals1 r;cases rx;obtain⟨o,es,ep,ho,hx,hdat,hr⟩:=hd.ex;have at0:iO s.heap d es ep:=⟨o,I.iu _ _ ho,hx,hdat⟩;have hl:es.size=D.length:=by rw[<- wx hr,J8]
 refine PySem.W.kdl_call (DV hd.low) (I.ok.hd hc) at0 (by rw[hl];exact hz) λh' tk acc c' hk hS hI=>?_
 have hv:Vals (D.map λp=>V.str p.1) acc.toList:=by
  have e:acc.toList=es.toList.map λe=>e.key:=by
   refine KI λj=>?_;rw[Jz,I_,Jz]
   cases z:acc[j]? with
   |none =>
    have:acc.size<=j:=Array.getElem?_eq_none_iff.mp z;rw[NJ (by rw[<- hI.1];exact this)];rfl
   |some v =>
    obtain⟨hj,rfl⟩:=hI.2 j v z;rw[Nn hj];rfl
  rw[e];exact wc hr
 refine⟨.ref s.heap.objs.size,_,I.laid (t':=tk) hk (IU _) (show b6 X.prog X.w _ h' _ (.lst _) from⟨?_,acc.toList,c',hv,by simpa using hS⟩),rfl,q _ (I.bc.fresh (IU _))⟩
 rw[IP];exact hz
section
variable {K:Og} {g:TG} {tb:TS} {D:Ends} {σ:St} {H:Hp} {te:TE} {Q:VK}
theorem jB{a:Addr}(hn:xs.length<=sizeLine)(Pv:Addr->Nat->List V->Hp->Prop)(h0:∀D,H D=none->Pv D 0 [] (upd H D (.lst [])))(hD:∀D i ys H',Pv D i ys H'->H' D=some (.lst ys)/\ys.length=i)
  (hl:∀D i ys H',Pv D i ys H'->ck K H' a xs)
  (hs:∀D i ys H' x (R:VK),xs[i]?=some x->Pv D i ys H'->(∀v H5,H5 D=some (.lst ys)->Pv D (i+1) (ys++[v]) (upd H5 D (.lst (ys++[v])))->R v H5)->te (some x::σ) H' R) (hd:∀D ys H',Pv D xs.length ys H'->Q (.ref D) H') :
  mw (ye K a) 1 (bC 0) gL te Q σ H:=by
 intro D hD0;refine⟨λi m ys σ' H'=>m=xs.length-i/\i<=xs.length/\Pv D i ys H'/\∃o,σ'=o::σ,⟨xs.length,by simp,Jj _,h0 D hD0,none,rfl⟩,?_⟩
 rintro i m ys σ' H' ⟨rfl,hi,p,o,rfl⟩;obtain⟨hDi,hly⟩:=hD _ _ _ _ p;have q:=hl _ _ _ _ p;refine⟨hDi,?_⟩;by_cases hlt:i<xs.length
 ·refine .inr ⟨⟨xs,xs[i],q,by simp[hlt]⟩,by lia,λx H2 y=>?_⟩
  obtain⟨rfl,y⟩:=y;unfold bC gL;dsimp only;rw[if_pos rfl];exact hs D i ys H2 x _ (y xs q) p λv H5 q1 q2=>⟨q1,xs.length-(i+1),by lia,rfl,hlt,q2,_,rfl⟩
 ·have e:i=xs.length:=by lia
  subst e;exact .inl ⟨⟨xs,q,IU _⟩,hd D ys H' p⟩
end
noncomputable def but(B:kJ)(a:Addr):kJ:=λb=>B b/\b≠a
section
variable {prog:Program} {w:World} {A:Around} {E:Value->Shared->Prop} {s:Shared}
structure ER (prog:Program) (w:World) (s:Shared) (vs:List Value) (κ:SortKind) (kz:Nat->Int) (h:Heap):Prop where
 kind:∀(A:Around) (E:Value->Shared->Prop) (Q:SortKind->Shared->Prop),2<=vs.length->Q κ {s with heap:=h}->wpAny (model prog w) A (keyKind' vs.toArray) Q E {s with heap:=h}
 lt:∀(A:Around) (C:Bool->Shared->Prop) (i j:Nat),i<vs.length->j<vs.length->C (decide (kz i<kz j)) {s with heap:=h}->kas_ask prog w A κ vs i j C {s with heap:=h}
theorem yw{a:Addr}{vs:List Value}{n:Nat}{κ:SortKind}{kz:Nat->Int}{P:Fin->Shared->Prop}(ho:s.heap.get? a=some (seqObj "list" vs.toArray n))(h64:vs.length<64)
  (hq:∀h',(∀b o,b≠a->s.heap.get? b=some o->h'.get? b=some o)->ER prog w s vs κ kz h')
  (h:∀p:Array Nat,p.toList.Perm (List.range vs.length)->p.toList.Pairwise (SP.R kz)->P (.done (.ret .none)) {s with heap:=sortedHeap s.heap a vs (List.toArray (p.toList.map λi=>vs.getD i Value.none))}) :
  wpAny (model prog w) A (Builtin.«list.sort» ⟨[.ref a],[]⟩) P E s:=by
 rw[list_sort_plain];have ha:a<s.heap.objs.size:=Jh ho;refine IK (M7 ho rfl (IK (Mg ho rfl ?_)));obtain⟨e1,ho1⟩:∃e1,(s.heap.update a (Obj.mapSeq λ_=>#[])).get? a=some (seqObj "list" #[] e1):=⟨_,LI ho (λ_=>#[])⟩;refine IK (seqEpoch_at ho1 rfl (IK (NU (IK (LF (JN ?_))))));have up:∀b o,b≠a->s.heap.get? b=some o->(((s.heap.update a (Obj.mapSeq λ_=>#[])).push (seqObj "tuple" vs.toArray 0)).push (seqObj "list" #[] 0)).get? b=some o:=λb o hb e =>
  IM _ (IM _ ((Mb _ _ (Kp hb)).trans e))
 have ho6:(((s.heap.update a (Obj.mapSeq λ_=>#[])).push (seqObj "tuple" vs.toArray 0)).push (seqObj "list" #[] 0)).get? a=some (seqObj "list" #[] e1):=IM _ (IM _ ho1);show wpAny (model prog w) A _ P E {s with heap:=((s.heap.update a (Obj.mapSeq λ_=>#[])).push (seqObj "tuple" vs.toArray 0)).push (seqObj "list" #[] 0)}
 dsimp only;have hs:=hq _ up;have hsz:vs.toArray.size=vs.length:=by simp
 by_cases h2:vs.toArray.size<2
 ·rw[if_pos h2,if_pos h2];refine wpAny_bind (wpAny_pure ?_);rw[StateT.run_pure];refine wpAny_bind (wpAny_pure ?_);dsimp only;refine wpAny_bind (seqEpoch_at ho6 rfl (wpAny_bind (listUpdate_at ho6 rfl ?_ (hsz2:=by rw[Array.size_map];show (pairsOf vs).size<=_;rw[pairsOf_size,sizeLine_eq];lia))))
  simp only[Ng,K7,KP];refine Ja ?_;have hid:=h (List.toArray (List.range vs.length)) (List.Perm.refl _) (by
   rcases vs with _|⟨x,_|⟨y,r⟩⟩
   ·exact .nil
   ·simp
   ·exfalso;rw[hsz] at h2;simp only[Jd] at h2;lia)
  have e:(arrOf (SortSt.mk' general' (vs.toArray.zip vs.toArray) #[] 7 none)).map (·.2)=List.toArray ((List.toArray (List.range vs.length)).toList.map λi=>vs.getD i Value.none):=by
   show (vs.toArray.zip vs.toArray).map (·.2)=_;apply Nw.mp;rw[Array.toList_map,Array.toList_zip];show (vs.zip vs).map (·.2)=(List.range vs.length).map λi=>vs.getD i Value.none;rw[Nz (IU _)];refine KI λi=>?_;rw[I_];rcases JL i vs.length with c|c
   ·rw[K_ c,IJ c];simp[c]
   ·rw[J7.mpr c,J7.mpr (by rw[JA];exact c)];rfl
  rw[e];exact hid
 ·rw[IT h2,IT h2];have h2':2<=vs.length:=by rw[hsz] at h2;lia
  refine IK (hs.kind _ _ _ h2' ?_);refine IK (JO (kat_run (ks:=vs) (vs:=vs) (Q:=λst' s'=>s'={s with heap:=((s.heap.update a (Obj.mapSeq λ_=>#[])).push (seqObj "tuple" vs.toArray 0)).push (seqObj "list" #[] 0)}/\∃p:Array Nat,arrOf st'=p.map (kas_item (vs.toArray.zip vs.toArray))/\failedOf st'=none/\p.toList.Perm (List.range vs.length)/\p.toList.Pairwise (SP.R kz))
   (G:=λp s'=>s'={s with heap:=((s.heap.update a (Obj.mapSeq λ_=>#[])).push (seqObj "tuple" vs.toArray 0)).push (seqObj "list" #[] 0)}/\p.toList.Perm (List.range vs.length)/\p.toList.Pairwise (SP.R kz))
   rfl h2' h64 (λp st' s' a1 a2 a3 a4=>⟨a4.1,p,a2,a3,a4.2⟩) ?_) ?_ λ_ _ e=>e)
  ·refine SP.t7 (k:=kz) (I:=λs'=>s'={s with heap:=((s.heap.update a (Obj.mapSeq λ_=>#[])).push (seqObj "tuple" vs.toArray 0)).push (seqObj "list" #[] 0)}) (λi j C s' hi hj hI hC=>?_) (by lia) rfl λp s' hp hr hI=>⟨hI,hp,hr⟩
   subst hI;exact hs.lt _ _ i j hi hj (hC _ rfl)
  rintro⟨⟨⟩,st'⟩ s' ⟨rfl,p,har,hf,hp,hr⟩;dsimp only;have esn:=kat_snds (ks:=vs) (vs:=vs) rfl har;have hl:(p.toList.map λi=>vs.getD i Value.none).length=vs.length:=by rw[List.length_map,hp.length_eq,List.length_range]
  refine IK (seqEpoch_at ho6 rfl ?_);refine IK (Mg ho6 rfl ?_ (hsz2:=by show ((arrOf st').map (·.2)).size<=_;rw[esn,IS,hl,Kg];lia))
  rw[hf];simp only[Ng,K7,KP];rw[esn];exact Ja (h p hp hr)
theorem ql{l:Addr}{vs:List Value}{κ:SortKind}{kz:Nat->Int}(hl:s.heap.IsList l vs.toArray)(h64:vs.length<64)(hq:∀h',(∀b o,s.heap.get? b=some o->h'.get? b=some o)->ER prog w s vs κ kz h')
  (h:∀p:Array Nat,p.toList.Perm (List.range vs.length)->p.toList.Pairwise (SP.R kz)->Q (.ref (s.heap.objs.size+1)) {s with heap:=sortedAll s.heap vs (List.toArray (p.toList.map λi=>vs.getD i Value.none))}) :
  wpAny (model prog w) A (call (.builtin "sorted") [.ref l]) Q E s:=by
 refine Nj kind_sorted plain_sorted entry_sorted (args_sorted1 _) ?_;unfold Builtin.«sorted»;refine IK (m:=checkCount "sorted" 1 1 _) (Ja (IK (collect_list hl (IK (LF ?_)))));have hsz:((s.heap.push (seqObj "list" #[] 0)).update s.heap.objs.size (Obj.mapSeq (·++vs.toArray))).objs.size=s.heap.objs.size+1:=by rw[Nv,size_push']
 have hoL:(((s.heap.push (seqObj "list" #[] 0)).update s.heap.objs.size (Obj.mapSeq (·++vs.toArray))).push (seqObj "list" vs.toArray 0)).get? (s.heap.objs.size+1)=some (seqObj "list" vs.toArray 0):=by rw[<- hsz];exact Jf _ rfl
 have keep:∀b o,s.heap.get? b=some o->(((s.heap.push (seqObj "list" #[] 0)).update s.heap.objs.size (Obj.mapSeq (·++vs.toArray))).push (seqObj "list" vs.toArray 0)).get? b=some o:=λb o q=>by
  have hlt:b<s.heap.objs.size:=Jh q;rw[Heap.get?_push_ne _ _ _ (by rw[hsz];exact Jr (Lr hlt)),Heap.get?_update_ne _ _ _ _ (Jr hlt),Heap.get?_push_ne _ _ _ (Jr hlt)]
  exact q
 show wpAny _ _ _ _ _ {s with heap:=((s.heap.push (seqObj "list" #[] 0)).update s.heap.objs.size (Obj.mapSeq (·++vs.toArray))).push (seqObj "list" vs.toArray 0)}
 rw[hsz];refine IK (JN (JS slot_list_sort ⟨_,hoL,rfl⟩ entry_list_sort (yw (kz:=kz) (κ:=κ) (s:={s with heap:=((s.heap.push (seqObj "list" #[] 0)).update s.heap.objs.size (Obj.mapSeq (·++vs.toArray))).push (seqObj "list" vs.toArray 0)}) hoL h64 (λh' hk=>?_) λp a1 a2=>⟨_,rfl,?_⟩) (args_list_sort _)))
 ·have:=hq h' λb o e=>hk b o (Jr (Lr (Jh e))) (keep b o e);exact⟨this.kind,this.lt⟩
 ·exact Ja ⟨_,rfl,h p a1 a2⟩
end
noncomputable def lexLt(x y:Int×Int):Bool:=decide (x.1<y.1\/(x.1=y.1/\x.2<y.2))
theorem mf{x:Int×Int}:lexLt x y=true ↔ (x.1<y.1\/(x.1=y.1/\x.2<y.2)):=decide_eq_true_iff
noncomputable def rank(l:List (Int×Int))(x:Int×Int):Nat:=l.countP λy=>lexLt y x
noncomputable def rk(l:List (Int×Int))(i:Nat):Int:=(rank l (l.getD i (0,0)):Nat)
theorem qk{l:List (Int×Int)}{p q:Int×Int->Bool}(h:∀z,p z=true->q z=true){x:Int×Int}:x∈l->p x=false->q x=true->l.countP p<l.countP q:=by
 induction l with
 |nil=>intro hx;cases hx
 |cons y l ih =>
  intro hx h1 h2;have hle:l.countP p<=l.countP q:=NV λz _=>h z;rw[List.countP_cons,List.countP_cons];rcases IX.mp hx with rfl|hx
  ·rw[IT (by rw[h1];exact Jb),IW h2];lia
  ·have:=ih hx h1 h2
   cases hp:p y with
   |true=>rw[IW rfl,IW (h y hp)];lia
   |false=>rw[IT Jb];split<;>lia
theorem t_{l:List (Int×Int)}{x:Int×Int}(hx:x∈l)(hy:y∈l):decide (rank l x<rank l y)=lexLt x y:=by
 have irr:∀z,lexLt z z=false:=λz=>Jq (by lia)
 cases h:lexLt x y with
 |true =>
  refine Jt (qk (λz hz=>?_) hx (irr x) h);rw[mf] at h hz ⊢;lia
 |false =>
  refine Jq (Nm.mpr (NV λz _ hz=>?_));have h':¬ (x.1<y.1\/(x.1=y.1/\x.2<y.2)):=of_decide_eq_false h;rw[mf] at hz ⊢;lia
noncomputable def xr(h:Heap)(v:Value)(pr:Int×Int):Prop:=∃(a:Addr) (o:Obj) (n:Nat) (t u:Tok),v=.ref a/\h.get? a=some o/\o.cls=.type "tuple"/\o.data=.seq #[.int pr.1 t,.int pr.2 u] n
theorem oU:∀{vs:List Value} {prs:List (Int×Int)},Paired (xr h) vs prs->∃fs,KatTups h vs fs/\fs.length=vs.length/\∀v∈fs,∃i t,v=Value.int i t
 |_,_,.nil=>⟨[],trivial,rfl,λ_ h=>by cases h⟩
 |_,_,.cons r t=>by
  obtain⟨a,o,n,t1,u,rfl,ho,hc,hd⟩:=r;obtain⟨fs,h1,h2,h3⟩:=oU t;refine⟨_::fs,⟨⟨a,o,_,n,rfl,ho,hc,hd,rfl⟩,h1⟩,by simp[h2],λv hv=>?_⟩
  rcases IX.mp hv with rfl|hv
  ·exact⟨_,_,rfl⟩
  ·exact h3 v hv
theorem y_{vs:List Value}(hp:Paired (xr h) vs prs){i:Nat}(hi:i<vs.length):xr h (vs.getD i .none) (prs.getD i (0,0))/\prs.getD i (0,0)∈prs:=by
 induction hp generalizing i with
 |nil=>cases hi
 |cons r t ih =>
  cases i with
  |zero=>exact⟨r,IZ ..⟩
  |succ i =>
   obtain⟨h1,h2⟩:=ih (i:=i) (by simpa using hi)
   exact⟨h1,IV _ h2⟩
theorem vm{s:Shared}{vs:List Value}(hp:Paired (xr h) vs prs):ER prog w s vs (tuples' true) (rk prs) h where
 kind:=λA E Q h2 q=>by
  obtain⟨fs,h1,h3,h4⟩:=oU hp;exact kat_kind (s:={s with heap:=h}) (T:=.type "int") h1 (by lia) (λv hv=>by obtain⟨i,t,rfl⟩:=h4 v hv;exact Looks.of_pure rfl) rfl q
 lt:=λA C i j hi hj q=>by
  obtain⟨⟨a,o,n,t,u,ea,ho,hc,hd⟩,mi⟩:=y_ hp hi;obtain⟨⟨a',o',n',t',u',ea',ho',hc',hd'⟩,mj⟩:=y_ hp hj;have e:=t_ mi mj;have e':decide (rk prs i<rk prs j)=lexLt (prs.getD i (0,0)) (prs.getD j (0,0)):=by
   rw[<- e,KQ];unfold rk;lia
  rw[e'] at q;clear e e' mi mj;unfold kas_ask;rw[ea,ea'];generalize prs.getD i (0,0)=x at *;generalize prs.getD j (0,0)=y at *;refine kat_lt (s:={s with heap:=h}) ho hd ho' hd' ?_
  show KatLex prog w A true _ C [(.int x.1 t,.int y.1 t'),(.int x.2 u,.int y.2 u')] 0 _;refine kat_cons (Np ?_)
  cases c1:(x.1 == y.1) with
  |false =>
   refine kat_no ?_;have h1:x.1≠y.1:=Jv.mp c1;have e1:lexLt x y=decide (x.1<y.1):=by unfold lexLt;rw[KQ];lia
   rw[e1] at q;exact oneLt_int q
  |true =>
   refine kat_yes (kat_cons (Np ?_));have h1:x.1=y.1:=eq_of_beq c1;have e1:lexLt x y=decide (x.2<y.2):=by unfold lexLt;rw[KQ];lia
   rw[e1] at q
   cases c2:(x.2 == y.2) with
   |false =>
    refine kat_no ?_;show wpAny (model prog w) A (oneLt' false (.int x.2 u) (.int y.2 u')) C _ _;exact kat_one _ _ (lt_int q)
   |true =>
    have h2:x.2=y.2:=eq_of_beq c2;refine kat_yes (kat_nil ?_);rw[Jq (by lia)] at q
    exact q
noncomputable def Hq(l:List (Int×Int)):Prop:=l.Pairwise λx y=>lexLt y x=false
theorem GG{ix:List Nat}(hp:ix.Perm (List.range prs.length))(hr:ix.Pairwise (SP.R (rk prs))):(ix.map λi=>prs.getD i (0,0)).Perm prs/\Hq (ix.map λi=>prs.getD i (0,0)):=by
 have e:(List.range prs.length).map (λi=>prs.getD i (0,0))=prs:=by
  refine KI λi=>?_;rw[I_];rcases JL i prs.length with c|c
  ·rw[K_ c,IJ c];simp[c]
  ·rw[J7.mpr c,J7.mpr (by rw[JA];exact c)];rfl
 refine⟨?_,KJ.mpr (hr.imp_of_mem λ{i j} hi hj h=>?_)⟩
 ·have:=hp.map λi=>prs.getD i (0,0);rw[e] at this;exact this
 ·have mem:∀i∈ix,prs.getD i (0,0)∈prs:=λi hi=>by
   have hl:=Ki.mp (hp.mem_iff.mp hi);rw[Jc,IJ hl];exact Ji hl
  rw[<- t_ (mem j hj) (mem i hi)];have:=h.le;unfold rk at this;exact Jq (by lia)
namespace Y
noncomputable def Gq(H:Hp)(v:V)(p:Int×Int):Prop:=∃q,v=.ref q/\H q=some (.tup [.int p.1,.int p.2])
noncomputable def Dm(K:Og):List V->Hp->VK->Prop:=λxs H Q=>∃p vs prs,xs=[.ref p]/\ck K H p vs/\Paired (Gq H) vs prs/\prs.length<64/\∀ix:List Nat,ix.Perm (List.range prs.length)->Hq (ix.map λi=>prs.getD i (0,0))->∀l,H l=none->Q (.ref l) (upd H l (.lst (ix.map λi=>vs.getD i .aT)))
theorem yA{pins:List (Addr×Obj)}{σ:St}{s:Shared}(I:Inv X pins σ H s):∀{vs:List V} {its:List Value} {prs:List (Int×Int)},Vals vs its->Paired (Gq H) vs prs->Paired (xr s.heap) its prs
 |_,_,_,.nil,.nil=>.nil
 |_,_,_,.cons r t,.cons r' t'=>by
  refine .cons ?_ (yA I t t');obtain⟨q,rfl,hq⟩:=r';have e:_=Value.ref q:=r;subst e;obtain⟨_,ts,tv,o,e1,c,n,d,_⟩:=(show b6 X.prog X.w H s.heap q (.tup _) from I.bc q _ hq);obtain⟨u,w',rfl,⟨t1,rfl⟩,⟨t2,rfl⟩⟩:=vals2 tv;exact⟨q,o,n,t1,t2,rfl,e1,c,d⟩
theorem ud{vs:List V}{its:List Value}(h:Vals vs its):∀ix:List Nat,(∀i∈ix,i<vs.length)->Vals (ix.map λi=>vs.getD i .aT) (ix.map λi=>its.getD i Value.none)
 |[],_=>.nil
 |i::ix,hi=>by
  refine .cons ?_ (ud h ix λj hj=>hi j (IV _ hj));have hl:=hi i (IZ ..);obtain⟨u,e,r⟩:=Vals.get h (IJ hl);show RelV (vs.getD i .aT) (its.getD i Value.none);rw[Jc,Jc,IJ hl,e];exact r
theorem qZ(K:Og)(hK:X.K=K):bD X (.builtin "sorted") (Dm K):=by
 subst hK;intro pins s σ H xs us Q I r h;obtain⟨p,vs,prs,rfl,hq,hp,h64,q⟩:=h;obtain⟨u,rfl,ru⟩:=vals1 r;cases ru;obtain⟨its,rv,pl,hz⟩:=I.list hq;have hpa:=yA I rv hp;have l1:its.length=prs.length:=Paired.length hpa;have l2:vs.length=prs.length:=Paired.length hp;refine ql (κ:=tuples' true) (kz:=rk prs) pl.isList (by lia) (λh' hk=>vm (Paired.we hpa λa b ⟨x,o,n,t,u,e,ho,r⟩=>⟨x,o,n,t,u,e,hk _ _ ho,r⟩)) λpx a1 a2=>?_
 rw[l1] at a1;obtain⟨e,he⟩:=sortedAll_at s.heap its (List.toArray (px.toList.map λi=>its.getD i Value.none));refine⟨.ref (s.heap.objs.size+1),_,I.laid (t':=s.toks) (λb ob q=>sortedAll_old q) (Kh _) (show b6 X.prog X.w _ _ _ (.lst (px.toList.map λi=>vs.getD i .aT)) from⟨?_,_,e,ud rv px.toList (λi hi=>by rw[l2];exact Ki.mp (a1.mem_iff.mp hi)),by simpa using he⟩),rfl,q px.toList a1 (GG a1 a2).2 _ (I.bc.fresh (Kh _))⟩
 rw[IP,a1.length_eq,JA];exact IY (K2 h64) (by decide)
end Y
open Builtin Builtin.Str
open PySem PySem.Spec PyProof PyProof.Rows
open Builtin Builtin.Str
open PySem PySem.Spec PyProof PyProof.Rows
open PySem PySem.Spec PyProof PyProof.Rows PySem.W
open PySem PySem.Calls PySem.NumText PySem.Spec PyProof PyProof.Rows
variable{cs:List Nat}{E Q:Value->Shared->Prop}{x:PySem.Str}{P prog:Program}{w:World}{X:Cx}{i k:Nat}{h h':Heap}{xs:Array Value}{β:Type}{K:Og}{a:Addr}{σ:St}{H:Hp}{p:Pos}
noncomputable def jO(cs:List Nat):Nat:=cs.foldl (λa c=>a*2+(c-48)) 0
noncomputable def cY(cs:List Nat):Prop:=∀c∈cs,c=48\/c=49
theorem Gs{c:Nat}(h:c=48\/c=49)(ds:Array Nat)(b:Bool):step 2 (ds,b) c=some (ds.push (c-48),true):=by
 rcases h with rfl|rfl<;>rfl
theorem BL:∀(cs:List Nat) (ds:Array Nat) (b:Bool),cY cs->∃ds':Array Nat,cs.foldlM (step 2) (ds,b)=some (ds',b || !cs.isEmpty)/\ds'.foldl (λa d=>a*2+d) 0=cs.foldl (λa c=>a*2+(c-48)) (ds.foldl (λa d=>a*2+d) 0)
 |[],ds,b,_=>⟨ds,by simp,rfl⟩
 |c::cs,ds,b,h=>by
  obtain⟨ds',e1,e2⟩:=BL cs (ds.push (c-48)) true λx hx=>h x (IV _ hx);refine⟨ds',?_,?_⟩
  ·rw[List.foldlM_cons,Gs (h c IZ)];show cs.foldlM (step 2) (ds.push (c-48),true)=_;rw[e1];simp
  ·rw[e2,Array.foldl_push,Mz]
theorem u6{c:Nat}(h:c=48\/c=49):blank c=false:=by rcases h with rfl|rfl<;>rfl
theorem oH(h:cY cs):cs.dropWhile blank=cs:=by
 cases cs with
 |nil=>rfl
 |cons c cs=>rw[LH,u6 (h c IZ)];rfl
theorem y9(h:cY cs):sign cs=(false,cs):=by
 cases cs with
 |nil=>rfl
 |cons c cs=>rcases h c IZ with rfl|rfl<;>rfl
theorem vn(h:cY cs):based 2 cs=(2,false,cs):=by
 have e:PySem.NumText.prefix? cs=none:=by
  rcases cs with _|⟨c,_|⟨d,cs⟩⟩
  ·rfl
  ·rcases h c IZ with rfl|rfl<;>rfl
  ·rcases h c IZ with rfl|rfl
   ·rcases h d (IV _ IZ) with rfl|rfl<;>rfl
   ·rfl
 unfold based;rw[e];rfl
theorem y0{cs:List Nat}(h:cY cs)(h0:cs≠[]):(int_private% "readNumeral") 0 2 cs=(int_private% "Numeral.value") (jO cs:Int):=by
 rw[readNumeral_eq,oH h,y9 h];show judge 0 false (based 2 cs).1 (based 2 cs).2.1 (digits? (based 2 cs).1 (((based 2 cs).2.2.reverse.dropWhile blank).reverse))=_;rw[vn h];show judge 0 false 2 false (digits? 2 ((cs.reverse.dropWhile blank).reverse))=_;rw[oH (cs:=cs.reverse) (λc hc=>h c (K1.mp hc)),L9];obtain⟨ds,e1,e2⟩:=BL cs #[] false h;have e3:digits? 2 cs=some ds:=by
  unfold digits?;rw[e1]
  cases cs with
  |nil=>exact absurd rfl h0
  |cons=>rfl
 rw[e3];show (int_private% "Numeral.value") ((ds.foldl (λacc d=>acc*2+d) 0:Nat):Int)=_;rw[e2];rfl
theorem oJ:∀{cs:List Nat},cY cs->cs.takeWhile (· != 0)=cs
 |[],_=>rfl
 |c::cs,h=>by
  rw[MK,show (c != 0)=true by rcases h c IZ with rfl|rfl<;>rfl,IW rfl,oJ λx hx=>h x (IV _ hx)]
theorem zo{M:Model}{A:Around}{s:Shared}{v:Value}{text:List Nat}{n:Int}
  (hs:(text.takeWhile (· != 0)).length<=640) (hr:(int_private% "readNumeral") 0 2 (text.takeWhile (· != 0))=(int_private% "Numeral.value") n)
  (ha:((text.takeWhile (· != 0)).length == text.length)=true) (h:Q (.int n s.toks) {s with toks:=s.toks+1}) :
  wpAny M A ((int_private% "intFromText") v text 2) Q E s:=by
 obtain⟨hp,g,d,tk,os⟩:=s
 repeat (any_goals (first
  |assumption
  | (with_reducible refine MV (Jt hs) ?_)
  | (with_reducible refine MV (Jt ha) ?_)
  |wp_step))
 all_goals (try rw[hr])
 all_goals (try dsimp only)
 repeat (any_goals (first
  |assumption
  | (with_reducible refine MV (Jt hs) ?_)
  | (with_reducible refine MV (Jt ha) ?_)
  |wp_step))
theorem ow{u t:Tok}(hl:x.length<=640)(hb:cY x.cps.toList)(h0:x.cps.toList≠[]):Gives (Builtin.«int.__new__» ⟨[.type "int",.str x u,.int 2 t],[]⟩) (.int (jO x.cps.toList)):=
 .of_wp λM A E s Q h=>by
  obtain⟨hp,g,d,tk,os⟩:=s;have f1:=F.conv_sub_int;have f2:=F.madeHere_int;have f6:typeOf (.str x u)=pure (.type "str"):=rfl;have ht:x.cps.all (· < 128)=true:=by
   rw[<- Array.all_toList,Kq];intro c hc;rcases hb c hc with rfl|rfl<;>rfl
  have hs:=oJ hb;have hk:=PySem.W.KIN.Hid.mk (And.intro (show (x.cps.toList.takeWhile (· != 0)).length<=640 by rw[hs];exact hl) (And.intro (show (int_private% "readNumeral") 0 2 (x.cps.toList.takeWhile (· != 0))=(int_private% "Numeral.value") (jO x.cps.toList:Int) by rw[hs];exact y0 hb h0) (show ((x.cps.toList.takeWhile (· != 0)).length == x.cps.toList.length)=true by rw[hs];simp)))
  clear hs hl hb h0
  repeat (any_goals (first
   |assumption
   | ((with_reducible show wpAny _ _ ((int_private% "intFromText") _ _ _) _ _ _);(try rw[IW ht]);refine zo hk.out.1 hk.out.2.1 hk.out.2.2 ?_)
   |wp_step))
  all_goals first|exact⟨_,rfl,h⟩|skip
theorem jF(a b:Value):checkTypeCall "int" ⟨[a,b],[]⟩=pure ():=by kernel_rfl
theorem kO(a b:Value):checkBuiltinCall "int.__new__" ⟨[.type "int",a,b],[]⟩=pure ():=by kernel_rfl
theorem qT{A:Around}{s:Shared}{u t:Tok}(hl:x.length<=640)(hb:cY x.cps.toList)(h0:x.cps.toList≠[])(h:Q (.int (jO x.cps.toList) s.toks) {s with toks:=s.toks+1}):wpAny (model prog w) A (call (.type "int") [.str x u,.int 2 t]) Q E s:=
 Od F.called_int F.newNe_int (jF _ _) (kO _ _) (λobj=>F.args_object_init_3 obj _ _) F.entry_int_new (ow hl hb h0).meets (show (Made.int _).post _ s from⟨rfl,h⟩)
noncomputable def BO:List V->Hp->VK->Prop:=λxs H Q=>∃z:Str,xs=[.str z,.int 2]/\z.length<=640/\cY z.cps.toList/\z.cps.toList≠[]/\Q (.int (jO z.cps.toList)) H
theorem lV:bD X (.type "int") BO:=by
 intro pins s σ H xs us Q I r h;obtain⟨z,rfl,h1,h2,h3,q⟩:=h;obtain⟨u,v,rfl,⟨t,rfl⟩,⟨t',rfl⟩⟩:=vals2 r;exact qT h1 h2 h3 ⟨.int _,H,I.tok _,⟨_,rfl⟩,q⟩
abbrev Src:=Bool×Addr×Addr
variable{q:Src}
abbrev f9(h:Heap)(T:Addr)(xs:List Value):Prop:=h.get? T=some {cls:=.type "tuple",data:=.seq xs.toArray}
structure Zn (z TI TO:Addr) (S:List Src):Prop where
 zt:TI≠z/\TO≠z/\TI≠TO
 it:∀q∈S,q.2.1≠z/\q.2.1≠TI/\q.2.1≠TO
 sr:∀q∈S,q.2.2≠z/\q.2.2≠TO/\∀p∈S,q.2.2≠p.2.1
 nd:(S.map λq=>q.2.1).Nodup
noncomputable def qx(i:Nat)(h:Heap)(q:Src):Prop:=j9 q.1 h q.2.1 q.2.2 i
noncomputable def Cs(h:Heap)(q:Src)(xs:Array Value):Prop:=cZ q.1 h q.2.2 xs
theorem qx.kp(x:qx i h q)(k:∀o,h.get? q.2.1=some o->h'.get? q.2.1=some o):qx i h' q:=by
 obtain⟨b,it,a⟩:=q
 cases b with
 |true=>obtain⟨o,e,r⟩:=(show h.IsListIter it a i from x);exact⟨o,k o e,r⟩
 |false=>obtain⟨o,e,r⟩:=(show h.IsTupleIter it a i from x);exact⟨o,k o e,r⟩
theorem Cs.kp(x:Cs h q xs)(k:∀o,h.get? q.2.2=some o->h'.get? q.2.2=some o):Cs h' q xs:=by
 obtain⟨b,it,a⟩:=q
 cases b with
 |true=>obtain⟨o,e,r⟩:=(show h.IsList a xs from x);exact⟨o,k o e,r⟩
 |false=>obtain⟨o,e,r⟩:=(show h.IsTuple a xs from x);exact⟨o,k o e,r⟩
noncomputable def pO(i:Nat)(h:Heap)(q:Src)(u:Value):Prop:=qx i h q/\∃xs,Cs h q xs/\xs[i]?=some u
theorem pO.kp{u:Value}(x:pO i h q u)(k:∀c o,c=q.2.1\/c=q.2.2->h.get? c=some o->h'.get? c=some o):pO i h' q u:=⟨x.1.kp λo=>k _ o (.inl rfl),let ⟨xs,a,b⟩:=x.2;⟨xs,a.kp λo=>k _ o (.inr rfl),b⟩⟩
section
variable {prog:Program} {w:World} {A:Around} {E:Value->Shared->Prop} {z TI TO:Addr} {S:List Src} {i:Nat}
noncomputable def Step(prog:Program)(w:World)(A:Around)(E:Value->Shared->Prop)(z TI TO:Addr)(S:List Src)(i:Nat)(f:Value×Nat->β->Sem (ForInStep β))(b:β):Prop:=
 ∀q∈S,∀(j:Nat) (arr:List Value) (u:Value) (s:Shared) (Q:ForInStep β->Shared->Prop),IsZip s.heap z TI TO .ellipsis->f9 s.heap TO arr->arr.length<=3->pO i s.heap q u ->
  (∀h' tk,f9 h' TO (arr.set j u)->qx (i+1) h' q->(∀c o,c≠TO->c≠q.2.1->s.heap.get? c=some o->h'.get? c=some o)->h'.objs.size=s.heap.objs.size->Q (.yield b) {s with heap:=h',toks:=tk})->wpAny (model prog w) A (f (.ref q.2.1,j) b) Q E s
theorem BC(D:Zn z TI TO S){f:Value×Nat->β->Sem (ForInStep β)}{b:β}(hf:Step prog w A E z TI TO S i f b):
  ∀(todo:List Src) (us pre old:List Value) (s:Shared) (Q:β->Shared->Prop),(∀q∈todo,q∈S)->(todo.map λq=>q.2.1).Nodup->IsZip s.heap z TI TO .ellipsis->f9 s.heap TO (pre++old)->(pre++old).length<=3->old.length=todo.length->Paired (pO i s.heap) todo us ->
  (∀h' tk,IsZip h' z TI TO .ellipsis->f9 h' TO (pre++us)->(∀q∈todo,qx (i+1) h' q)->(∀c o,c≠TO->(∀q∈todo,c≠q.2.1)->s.heap.get? c=some o->h'.get? c=some o)->h'.objs.size=s.heap.objs.size->Q b {s with heap:=h',toks:=tk}) ->
  wpAny (model prog w) A (forIn ((todo.map λq=>Value.ref q.2.1).zipIdx pre.length) b f) Q E s:=by
 intro todo
 induction todo with
 |nil =>
  intro us pre old s Q _ _ hz ht _ hl dr k;obtain rfl:=Paired.qF dr;have e:old=[]:=Kk.mp hl;subst e;rw[LM,List.zipIdx_nil,List.forIn_nil];exact Ja (k s.heap s.toks hz ht (λq hq=>(nomatch hq)) (λc o _ _ h=>h) rfl)
 |cons q todo ih =>
  intro us pre old s Q hm nd hz ht hn hl dr k;obtain⟨u,us,rfl,du,dr⟩:=Paired.gP dr
  cases old with
  |nil=>cases hl
  |cons o old =>
   rw[Jy,Ko] at nd;have hq:=hm q IZ;rw[Jy,N1,M0];refine IK (hf q hq pre.length _ u s _ hz ht hn du λh1 tk t1 a1 kp sz=>?_);rw[Ms _ _ (IU _),JP,LR,<- NW,<- Jl] at t1;have di:=D.it q hq;have z1:IsZip h1 z TI TO .ellipsis:=kp _ _ D.zt.2.1.symm di.1.symm hz;show wpAny _ _ (forIn _ b f) _ _ _;rw[show pre.length+1=(pre++[u]).length by rw[IL];rfl]
   refine ih us (pre++[u]) old {s with heap:=h1,toks:=tk} Q (λp hp=>hm p (IV _ hp)) nd.2 z1 t1 (by rw[Jl,IL] at *;exact hn) (Nat.succ.inj hl) ?_ λh2 tk2 z2 t2 a2 kp2 sz2=>?_
   ·have key:∀{l:List Src} {vs:List Value},(∀p∈l,p∈q::todo)->(∀p∈l,p.2.1≠q.2.1)->Paired (pO i s.heap) l vs->Paired (pO i h1) l vs:=λ{l}=>by
     induction l with
     |nil=>intro vs _ _ h;obtain rfl:=Paired.qF h;exact .nil
     |cons p l ihl =>
      intro vs hp hne h;obtain⟨v,vs,rfl,dv,h⟩:=Paired.gP h;have hpS:=hm p (hp p IZ);refine .cons (dv.kp λc o hc e=>?_) (ihl (λx hx=>hp x (IV _ hx)) (λx hx=>hne x (IV _ hx)) h);rcases hc with rfl|rfl
      ·exact kp _ _ (D.it p hpS).2.2 (hne p IZ) e
      ·exact kp _ _ (D.sr p hpS).2.1 ((D.sr p hpS).2.2 q hq) e
    exact key (λp hp=>IV _ hp) (λp hp e=>nd.1 (by rw[<- e];exact K0 (f:=λq:Src=>q.2.1) hp)) dr
   ·refine k h2 tk2 z2 (by rw[Jl] at t2;exact t2) (λp hp=>?_) (λc o c1 c2 e=>kp2 c o c1 (λp hp=>c2 p (IV _ hp)) (kp c o c1 (c2 q IZ) e)) (sz2.trans sz)
    rcases IX.mp hp with rfl|hp
    ·exact a1.kp λo e=>kp2 _ o di.2.2 (λx hx e2=>nd.1 (by rw[e2];exact K0 (f:=λq:Src=>q.2.1) hx)) e
    ·exact a2 p hp
noncomputable def FK(prog:Program)(w:World)(A:Around)(E:Value->Shared->Prop)(z TI TO:Addr)(S:List Src)(i:Nat)(f:Value×Nat->β->Sem (ForInStep β))(b:β):Prop:=
 ∀q∈S,∀(j:Nat) (s:Shared) (Q:ForInStep β->Shared->Prop),IsZip s.heap z TI TO .ellipsis->qx i s.heap q->(∃xs:Array Value,Cs s.heap q xs/\xs.size=i) ->
  (∀h' e tk,(∀c o,c≠z->c≠q.2.1->s.heap.get? c=some o->h'.get? c=some o)->(∃o,h'.get? e=some o/\o.cls=.type "StopIteration")->E (.ref e) {s with heap:=h',toks:=tk})->wpAny (model prog w) A (f (.ref q.2.1,j) b) Q E s
theorem Aj(D:Zn z TI TO S){f:Value×Nat->β->Sem (ForInStep β)}{b:β}(hf:Step prog w A E z TI TO S i f b)(he:FK prog w A E z TI TO S i f b){r:List Src}:
  ∀(a:List Src) (us pre old:List Value) (s:Shared) (Q:β->Shared->Prop),(∀p∈a++q::r,p∈S)->((a++q::r).map λq=>q.2.1).Nodup->IsZip s.heap z TI TO .ellipsis->f9 s.heap TO (pre++old)->(pre++old).length<=3->a.length<old.length->Paired (pO i s.heap) a us->qx i s.heap q->(∃xs:Array Value,Cs s.heap q xs/\xs.size=i) ->
  (∀h' e tk,(∀c o,c≠z->c≠TO->(∀q∈S,c≠q.2.1)->s.heap.get? c=some o->h'.get? c=some o)->(∃o,h'.get? e=some o/\o.cls=.type "StopIteration")->E (.ref e) {s with heap:=h',toks:=tk}) ->
  wpAny (model prog w) A (forIn (((a++q::r).map λq=>Value.ref q.2.1).zipIdx pre.length) b f) Q E s:=by
 intro a
 induction a with
 |nil =>
  intro us pre old s Q hm nd hz ht hn hl dr hi hx k;have hq:=hm q IZ;rw[J_,Jy,N1,M0];exact IK (he q hq _ s _ hz hi hx λh' e tk kp ho=>k h' e tk (λc o c1 _ c3 x=>kp c o c1 (c3 q hq) x) ho)
 |cons p a ih =>
  intro us pre old s Q hm nd hz ht hn hl dr hi hx k;obtain⟨u,us,rfl,du,dr⟩:=Paired.gP dr
  cases old with
  |nil=>exact absurd hl (LK _)
  |cons o old =>
   rw[Ks,Jy,Ko] at nd;have hp:=hm p IZ;rw[Ks,Jy,N1,M0];refine IK (hf p hp pre.length _ u s _ hz ht hn du λh1 tk t1 a1 kp sz=>?_);rw[Ms _ _ (IU _),JP,LR,<- NW,<- Jl] at t1;have z1:IsZip h1 z TI TO .ellipsis:=kp _ _ D.zt.2.1.symm (D.it p hp).1.symm hz;have ne:∀x∈a++q::r,x.2.1≠p.2.1:=λx hx e=>nd.1 (by rw[<- e];exact K0 (f:=λq:Src=>q.2.1) hx)
   have up:∀x∈a++q::r,∀c o,c=x.2.1\/c=x.2.2->s.heap.get? c=some o->h1.get? c=some o:=λx hx c o hc e=>by
    have hxS:=hm x (IV _ hx);rcases hc with rfl|rfl
    ·exact kp _ _ (D.it x hxS).2.2 (ne x hx) e
    ·exact kp _ _ (D.sr x hxS).2.1 ((D.sr x hxS).2.2 p hp) e
   have hqm:q∈a++q::r:=Jo _ IZ;show wpAny _ _ (forIn _ b f) _ _ _;rw[show pre.length+1=(pre++[u]).length by rw[IL];rfl]
   refine ih us (pre++[u]) old {s with heap:=h1,toks:=tk} Q (λx hx=>hm x (IV _ hx)) nd.2 z1 t1 (by rw[Jl,IL] at *;exact hn) (NK hl) ?_ (hi.kp λo=>up q hqm _ o (.inl rfl)) (let ⟨xs,x1,x2⟩:=hx;⟨xs,x1.kp λo=>up q hqm _ o (.inr rfl),x2⟩) λh2 e tk2 kp2 ho=>k h2 e tk2 (λc o c1 c2 c3 x=>kp2 c o c1 c2 c3 (kp c o c2 (c3 p hp) x)) ho
   have key:∀{l:List Src} {vs:List Value},(∀x∈l,x∈a)->Paired (pO i s.heap) l vs->Paired (pO i h1) l vs:=λ{l}=>by
    induction l with
    |nil=>intro vs _ h;obtain rfl:=Paired.qF h;exact .nil
    |cons y l ihl =>
     intro vs hy h;obtain⟨v,vs,rfl,dv,h⟩:=Paired.gP h;exact .cons (dv.kp (up y (Ku _ (hy y IZ)))) (ihl (λx hx=>hy x (IV _ hx)) h)
   exact key (λx h=>h) dr
theorem Ae(D:Zn z TI TO S){f:Value×Nat->β->Sem (ForInStep β)}{b:β}(hf:Step prog w A E z TI TO S i f b)(he:FK prog w A E z TI TO S i f b){old:List Value}{s:Shared}{Q:β->Shared->Prop}(hz:IsZip s.heap z TI TO .ellipsis)(ht:f9 s.heap TO old)(hn:old.length<=3)(hl:old.length=S.length)
  (hh:(∃us,Paired (pO i s.heap) S us/\∀h' tk,IsZip h' z TI TO .ellipsis->f9 h' TO us->(∀q∈S,qx (i+1) h' q)->(∀c o,c≠TO->(∀q∈S,c≠q.2.1)->s.heap.get? c=some o->h'.get? c=some o)->h'.objs.size=s.heap.objs.size->Q b {s with heap:=h',toks:=tk}) \/
   ∃a q r us,S=a++q::r/\Paired (pO i s.heap) a us/\qx i s.heap q/\(∃xs:Array Value,Cs s.heap q xs/\xs.size=i)/\∀h' e tk,(∀c o,c≠z->c≠TO->(∀q∈S,c≠q.2.1)->s.heap.get? c=some o->h'.get? c=some o)->(∃o,h'.get? e=some o/\o.cls=.type "StopIteration")->E (.ref e) {s with heap:=h',toks:=tk}) :
  wpAny (model prog w) A (forIn ((S.map λq=>Value.ref q.2.1).zipIdx) b f) Q E s:=by
 rcases hh with ⟨us,dr,k⟩|⟨a,q,r,us,rfl,dr,hi,hx,k⟩
 ·exact BC D hf S us [] old s Q (λq h=>h) D.nd hz ht hn hl dr k
 ·exact Aj D hf he a us [] old s Q (λq h=>h) D.nd hz ht hn (by rw[show old.length=_ from hl,IL,Jd];lia) dr hi hx k
theorem GO{s:Shared}{T:Addr}{xs:List Value}{x:Value}{Q:Unit->Shared->Prop}(hT:f9 s.heap T xs)(hn:xs.length<=3)
  (h:∀h',f9 h' T (xs.set k x)->Heap.SameBut T s.heap h'->Q () {s with heap:=h'}) :
  wpAny (model prog w) A (updateSeq T (·.setIfInBounds k x)) Q E s:=by
 refine wpAny_updateSeq (hz:=by rw[IS];exact IY hn (by decide)) (_hz':=by rw[Array.size_setIfInBounds,IS];exact IY hn (by decide)) hT rfl (h _ ?_ (JZ ..))
 show Heap.get? _ _=_;rw[Lv _ hT rfl];simp[Obj.mapSeq]
theorem gZ{α:Type}{P:α->β->Prop}{l:List α}{vs:List β}(h:Paired P l vs):vs.length=l.length:=by
 induction h with
 |nil=>rfl
 |cons _ _ ih=>exact JH (·+1) ih
theorem sM{g:Heap}{l:List Src}{vs:List Value}(k:∀q∈l,∀c o,c=q.2.1\/c=q.2.2->h.get? c=some o->g.get? c=some o)(r:Paired (pO i h) l vs):Paired (pO i g) l vs:=by
 induction r with
 |nil=>exact .nil
 |cons d _ ih=>exact .cons (d.kp (k _ IZ)) (ih λq hq=>k q (IV _ hq))
theorem Fi{s:Shared}{old:List Value}(D:Zn z TI TO S)(hS:S≠[])(hA:A.handled=none)(hz:IsZip s.heap z TI TO .none)(hTI:f9 s.heap TI (S.map λq=>.ref q.2.1))(hTO:f9 s.heap TO old)(hl:old.length=S.length)(hn:S.length<=3)
  (hh:(∃us,Paired (pO i s.heap) S us/\∀h' tk,IsZip h' z TI TO (rawInt s.heap.objs.size)->f9 h' TO us->(∀q∈S,qx (i+1) h' q)->f9 h' s.heap.objs.size us->(∀c o,c≠z->c≠TO->(∀q∈S,c≠q.2.1)->s.heap.get? c=some o->h'.get? c=some o)->Q (.ref s.heap.objs.size) {s with heap:=h',toks:=tk}) \/
   ∃a q r us,S=a++q::r/\Paired (pO i s.heap) a us/\qx i s.heap q/\(∃xs:Array Value,Cs s.heap q xs/\xs.size=i)/\∀h' e tk,(∀c o,c≠z->c≠TO->(∀q∈S,c≠q.2.1)->s.heap.get? c=some o->h'.get? c=some o)->(∃o,h'.get? e=some o/\o.cls=.type "StopIteration")->E (.ref e) {s with heap:=h',toks:=tk}) :
  wpAny (model prog w) A (Builtin.«zip.__next__» ⟨[.ref z],[]⟩) (λfin s'=>∃v,fin=.done (.ret v)/\Q v s') E s:=by
 obtain⟨q0,S',rfl⟩:=List.exists_cons_of_ne_nil hS;have zrec:=hz;show wpAny _ _ (field (.ref z) 2 >>= _) _ _ _;refine IK (Lo zrec rfl (x:=.bool false) rfl ?_);show wpAny _ _ (field (.ref z) 3 >>= _) _ _ _;refine IK (Lo zrec rfl (x:=.ref TI) rfl ?_);refine IK (Ly hTI rfl ?_);show wpAny _ _ (Builtin.SmallTypes.ownedTupleIsFree (.ref z) >>= _) _ _ _;refine IK ?_;unfold Builtin.SmallTypes.ownedTupleIsFree;refine IK (Lo zrec rfl (x:=.none) rfl (Ja ?_));simp only[Mo];refine IK (Nh ?_);refine IK (Lo zrec rfl (x:=.ref TO) rfl ?_);refine IK (LS zrec (by simp) λg1 zr1 sb1=>?_)
 replace zr1:IsZip g1 z TI TO .ellipsis:=zr1
 refine IK ?_;have old3:∀q∈q0::S',∀c o,c=q.2.1\/c=q.2.2->s.heap.get? c=some o->g1.get? c=some o:=λq hq c o hc e=>by
  rcases hc with rfl|rfl
  ·exact sb1.extBut _ _ (D.it q hq).1 e
  ·exact sb1.extBut _ _ (D.sr q hq).1 e
 refine Ae D (i:=i) ?hf ?he (old:=old) zr1 (sb1.extBut _ _ D.zt.2.1 hTO) (by lia) hl (hh.imp (λ⟨us,dr,hQ⟩=>⟨us,sM old3 dr,?k⟩) λ⟨a,q,r,us,eS,dr,hi,hx,hE⟩=>⟨a,q,r,us,eS,sM (λp hp=>old3 p (by rw[eS];exact Ku _ hp)) dr,hi.kp λo=>old3 q (by rw[eS];exact Jo _ IZ) _ o (.inl rfl),(let ⟨xs,x1,x2⟩:=hx;⟨xs,x1.kp λo=>old3 q (by rw[eS];exact Jo _ IZ) _ o (.inr rfl),x2⟩),λh' e tk kp ho=>hE h' e tk (λc o c1 c2 c3 x=>kp c o c1 c2 c3 (sb1.extBut _ _ c1 x)) ho⟩)
 case hf =>
  intro q hq j arr u s1 Q1 hz1 ht1 hn1 d1 k1;obtain⟨hi,xs,hx,hu⟩:=d1;refine IK (wpAny_onRaise ?_);show wpAny _ _ (Builtin.SmallTypes.nextOf (.ref q.2.1) >>= _) _ _ _;have lt:i<xs.size:=(KH.mp hu).1;refine IK ((su q.1 hA q.2.1 q.2.2 ((D.sr q hq).2.2 q hq) xs).item i _ _ _ lt ⟨hi,hx⟩ λx g2 tk2 px st2 sb2=>Ja ?_);have ex:x=u:=by rw[hu] at px;exact (Option.some.inj px).symm
  subst ex;have to2:f9 g2 TO arr:=sb2.extBut _ _ (D.it q hq).2.2.symm ht1;refine IK (Ly to2 rfl ?_);refine IK (GO to2 hn1 λg3 to3 sb3=>?_);refine IK (wpAny_letGo (Ja ?_));exact k1 g3 _ to3 (qx.kp (q:=q) st2.1 λo e=>sb3.extBut _ _ (D.it q hq).2.2 e) (λc o c1 c2 e=>sb3.extBut _ _ c1 (sb2.extBut _ _ c2 e)) (by rw[sb3.1,sb2.1])
 case he =>
  intro p hp j s1 Q1 hz1 hi1 hx1 k1;obtain⟨xs,hx1,hsz⟩:=hx1;refine IK (wpAny_onRaise ?_);show wpAny _ _ (Builtin.SmallTypes.nextOf (.ref p.2.1) >>= _) _ _ _;subst hsz;refine IK ((su p.1 hA p.2.1 p.2.2 ((D.sr p hp).2.2 p hp) xs).done _ _ _ ⟨hi1,hx1⟩ λg2 e sb2 he=>?_);obtain⟨oe,hoe,hce⟩:=he;have zr2:IsZip g2 z TI TO .ellipsis:=sb2 _ _ (D.it p hp).1.symm hz1;have nez:e≠z:=λq=>by subst q;rw[zr2] at hoe;cases hoe;simp at hce
  exact LS zr2 (by simp) λg3 _ sb3=>k1 g3 e _ (λc o e1 e3 q=>sb3.extBut _ _ e1 (sb2 _ _ e3 q)) ⟨oe,sb3.extBut _ _ nez hoe,hce⟩
 case k =>
  intro g2 tk z2 t2 a2 kp2 sz2;have hu3:us.length<=3:=by rw[gZ dr];exact hn
  replace t2:f9 g2 TO us:=t2
  show wpAny _ _ (seqItems? (.ref TO) >>= _) _ _ _;refine IK (Ly t2 rfl ?_);refine IK (NU ?_ (IY hu3 (by decide)))
  have size2:g2.objs.size=s.heap.objs.size:=sz2.trans sb1.1;have zlt:z<g2.objs.size:=Jh z2;show wpAny _ _ (Builtin.SmallTypes.ownedTupleHandOut (.ref z) (.ref g2.objs.size) >>= _) _ _ _;refine IK ?_;unfold Builtin.SmallTypes.ownedTupleHandOut;have zr6:IsZip (g2.push {cls:=.type "tuple",data:=.seq us.toArray}) z TI TO .ellipsis:=IM _ z2;refine IK (LS zr6 (by simp) λg8 zr8 sb8=>?_)
  replace zr8:IsZip g8 z TI TO (rawInt g2.objs.size):=zr8
  refine LS zr8 (by simp) λg9 zr9 sb9=>?_
  replace zr9:IsZip g9 z TI TO (rawInt g2.objs.size):=zr9
  have up:∀c o,c≠z->g2.get? c=some o->g9.get? c=some o:=λc o e1 q=>sb9.extBut _ _ e1 (sb8.extBut _ _ e1 (IM _ q));have pr8:f9 g9 g2.objs.size us:=sb9.extBut _ _ (Kv zlt) (sb8.extBut _ _ (Kv zlt) (Jf _ rfl));rw[size2] at zr9 pr8;refine Ja ⟨_,rfl,?_⟩;show Q (.ref g2.objs.size) _;rw[size2];exact hQ g9 _ zr9 (up _ _ D.zt.2.1 t2) (λq hq=>(a2 q hq).kp λo e=>up _ o (D.it q hq).1 e) pr8 λc o e1 e2 e3 q=>up c o e1 (kp2 c o e2 e3 (sb1.extBut _ _ e1 q))
end
noncomputable def FZ(K:Og)(S:List Src):It:=
  ⟨λi H=>∃vs,Paired (λ(q:Src) v=>∃xs,nH K q.1 H q.2.2 xs/\xs[i]?=some v) S vs,
   λi H v H'=>∃p vs,Paired (λ(q:Src) x=>∀xs,nH K q.1 H q.2.2 xs->xs[i]?=some x) S vs/\H p=none/\v=.ref p/\H'=upd H p (.tup vs),
   λi H=>∃a q r vs,S=a++q::r/\Paired (λ(q:Src) v=>∃xs,nH K q.1 H q.2.2 xs/\xs[i]?=some v) a vs/\∃xs,nH K q.1 H q.2.2 xs/\xs.length=i⟩
section
variable {X:Cx} {pins:List (Addr×Obj)} {σ:St} {H:Hp} {s:Shared} {i:Nat}
theorem wW(I:Inv X pins σ H s){l:List Src}{vs:List V}(hi:∀q∈l,qx i s.heap q)(h:Paired (λ(q:Src) v=>∃xs,nH X.K q.1 H q.2.2 xs/\xs[i]?=some v) l vs):∃us,Paired (pO i s.heap) l us/\Vals vs us/\Paired (λ(q:Src) x=>∀xs,nH X.K q.1 H q.2.2 xs->xs[i]?=some x) l vs:=by
 induction h with
 |nil=>exact⟨[],.nil,.nil,.nil⟩
 |cons d r ih =>
  obtain⟨us,h1,h2,h3⟩:=ih λp hp=>hi p (IV _ hp);obtain⟨xs,hx,ex⟩:=d;obtain⟨its,rv,p1⟩:=I.vA hx;obtain⟨u,hu,ru⟩:=rv.get ex;exact⟨u::us,.cons ⟨hi _ IZ,its.toArray,p1,by rw[KD];exact hu⟩ h1,.cons ru h2,.cons (λys hy=>by rw[I.zv hy hx];exact ex) h3⟩
end
theorem uv{es:List Expr}{tk:Nat}{tp:Pos}(S:List Src)(z TI TO:Addr)(D:Zn z TI TO S)(hS:S≠[])(hn:S.length<=3):
  Turn P w K (.Tuple es tk tp) (FZ K S) (z::TI::TO::S.map λq=>q.2.1) z (λi h=>IsZip h z TI TO .none/\f9 h TI (S.map λq=>.ref q.2.1)/\(∃old,f9 h TO old/\old.length=S.length)/\∀q∈S,qx i h q) where
 mem:=IZ
 obj:=λi h st c hc=>by
  obtain⟨s1,s2,⟨old,s3,_⟩,s4⟩:=st;rcases IX.mp hc with rfl|hc
  ·exact⟨_,s1,λv q=>by cases q⟩
  rcases IX.mp hc with rfl|hc
  ·exact⟨_,s2,λv q=>by cases q⟩
  rcases IX.mp hc with rfl|hc
  ·exact⟨_,s3,λv q=>by cases q⟩
  obtain⟨q,hq,rfl⟩:=JD.mp hc;obtain⟨o,e,_,d⟩:=j9.ty (s4 q hq);exact⟨o,e,λv q=>by rw[d] at q;cases q⟩
 keep:=λi h h' st k=>by
  obtain⟨s1,s2,⟨old,s3,s3'⟩,s4⟩:=st;exact⟨k z (by simp) _ s1,k TI (by simp) _ s2,⟨old,k TO (by simp) _ s3,s3'⟩,λq hq=>(s4 q hq).kp (k _ (IV _ (IV _ (IV _ (K0 (f:=λq:Src=>q.2.1) hq)))))⟩
 item:=by
  intro X hP hw hK hc i pins s σ H E I hf st hg;subst hP hw hK;obtain⟨vs,hg⟩:=hg;obtain⟨s1,s2,⟨old,s3,s3'⟩,s4⟩:=st;obtain⟨us,h1,h2,h3⟩:=wW I s4 hg;have hT:s.TypeIs (.ref z) "zip":=⟨_,s1,rfl⟩;unfold pyNext;refine IK (Mi (JM (name:=Str.ofString "__next__") hT PySem.F.slot_zip_next (JS PySem.F.slot_zip_next hT PySem.F.entry_zip_next
   (Fi D hS (I.ok.hd hc) s1 s2 s3 s3' hn (.inl ⟨us,h1,λh' tk' z1 t1 a1 pr kp=>Ja ?_⟩)) (PySem.F.args_zip_next_1 _))))
  have fr:H s.heap.objs.size=none:=I.bc.fresh (IU _);have lt:∀{c o},s.heap.get? c=some o->s.heap.objs.size≠c:=λe=>Kv (Jh e);refine⟨.ref s.heap.objs.size,rfl,wpAny_letOwnedTupleGo_zip z1 λh2' z2 sb2=>?_⟩;have pr2:f9 h2' s.heap.objs.size us:=sb2.extBut _ _ (lt s1) pr;have hvl:vs.length<=3:=by rw[gZ hg];exact hn
  have I2:Inv X pins σ (upd H s.heap.objs.size (.tup vs)) {s with heap:=h2',toks:=tk'}:=by
   refine I.rY (fp:=z::TI::TO::S.map λq=>q.2.1) hf (IU _) (λc o hcm ec=>?_) ⟨IY hvl (by decide),us,h2,⟨_,pr2,rfl,_,rfl,rfl⟩⟩
   simp only[IX,not_or] at hcm;exact sb2.extBut _ _ hcm.1 (kp c o hcm.1 hcm.2.2.1 (λq hq e=>hcm.2.2.2 (by rw[e];exact K0 (f:=λq:Src=>q.2.1) hq)) ec)
  refine⟨.ref s.heap.objs.size,_,I2,rfl,⟨s.heap.objs.size,vs,h3,fr,rfl,rfl⟩,⟨z2,?_,⟨us,?_,?_⟩,λq hq=>?_⟩,λc hcm=>?_⟩
  ·exact sb2.extBut _ _ D.zt.1 (kp _ _ D.zt.1 D.zt.2.2 (λq hq=>(D.it q hq).2.1.symm) s2)
  ·exact sb2.extBut _ _ D.zt.2.1 t1
  ·exact gZ h1
  ·exact (a1 q hq).kp λo e=>sb2.extBut _ _ (D.it q hq).1 e
  ·have hn:=(hf c hcm).1;rw[af]
   ·exact hn
   ·rcases IX.mp hcm with rfl|hcm
    ·exact (lt s1).symm
    rcases IX.mp hcm with rfl|hcm
    ·exact (lt s2).symm
    rcases IX.mp hcm with rfl|hcm
    ·exact (lt s3).symm
    obtain⟨q,hq,rfl⟩:=JD.mp hcm;obtain⟨o,e,_⟩:=j9.ty (s4 q hq);exact (lt e).symm
 done:=by
  intro X hP hw hK hc i pins s σ H E I hf st hg;subst hP hw hK;obtain⟨a,q,r,vs,eS,hg,xs,hx,hi⟩:=hg;obtain⟨s1,s2,⟨old,s3,s3'⟩,s4⟩:=st;obtain⟨us,h1,_,_⟩:=wW I (λp hp=>s4 p (by rw[eS];exact Ku _ hp)) hg
  obtain⟨its,rv,p1⟩:=I.vA hx;have hT:s.TypeIs (.ref z) "zip":=⟨_,s1,rfl⟩;unfold pyNext;refine IK (Mi (JM (name:=Str.ofString "__next__") hT PySem.F.slot_zip_next (JS PySem.F.slot_zip_next hT PySem.F.entry_zip_next
   (Fi D hS (I.ok.hd hc) s1 s2 s3 s3' hn (.inr ⟨a,q,r,us,eS,h1,s4 q (by rw[eS];exact Jo _ IZ),⟨its.toArray,p1,by rw[IS,<- rv.length,hi]⟩,λh' e tk' kp he=>?_⟩)) (PySem.F.args_zip_next_1 _))))
  obtain⟨o,ho,hcl⟩:=he;refine IK (wpAny_isInstance (T:="StopIteration") (b:=true) ⟨o,ho,hcl⟩ isSubtype_stop (Ja ⟨rfl,?_⟩));refine I.turns (t':=tk') hf λc o hcm ec=>?_;simp only[IX,not_or] at hcm;exact kp c o hcm.1 hcm.2.2.1 (λq hq e=>hcm.2.2.2 (by rw[e];exact K0 (f:=λq:Src=>q.2.1) hq)) ec
 self:=λA i s Q E st h=>wpAny_pyIter_zip st.1 h
theorem cZ.push{k:Bool}(x:cZ k h a xs)(o:Obj):cZ k (h.push o) a xs:=by
 cases k with
 |true=>exact Heap.IsList.push x _
 |false=>exact yQ x _
theorem rG{A:Around}{s:Shared}{k:Bool}{l:Addr}{items:Array Value}(hl:cZ k s.heap l items)
  (hQ:Q (.ref s.heap.objs.size) {s with heap:=s.heap.push {cls:=.type (vS k),data:=.fields #[.ref l,.int 0 0]}}):wpAny (model prog w) A (pyIter (.ref l)) Q E s:=by
 cases k with
 |true=>exact LZ hl hQ
 |false=>exact Lh hl hQ
noncomputable def fX(h:Heap):List (Bool×Addr)->Heap
 |[]=>h
 |p::l=>fX (h.push {cls:=.type (vS p.1),data:=.fields #[.ref p.2,.int 0 0]}) l
noncomputable def hZ(n:Nat):List (Bool×Addr)->List Src
 |[]=>[]
 |p::l=>(p.1,n,p.2)::hZ (n+1) l
abbrev Fw(h:Heap)(l:List (Bool×Addr)):Heap:=(fX h l).push {cls:=.type "tuple",data:=.seq ((hZ h.objs.size l).map λq=>Value.ref q.2.1).toArray}
abbrev E5(h:Heap)(l:List (Bool×Addr)):Heap:=(Fw h l).push {cls:=.type "tuple",data:=.seq ((hZ h.objs.size l).map λ_=>Value.none).toArray}
abbrev Br(h:Heap)(l:List (Bool×Addr)):Heap:=(E5 h l).push {cls:=.type "zip",data:=.fields #[.none,.bool false,.bool false,.ref (fX h l).objs.size,.ref (Fw h l).objs.size]}
theorem jX:∀(l:List (Bool×Addr)) (h:Heap),(fX h l).objs.size=h.objs.size+l.length
 |[],_=>rfl
 |p::l,h=>by rw[fX,jX l,JY,Jd];lia
theorem iP:∀(l:List (Bool×Addr)) {h:Heap} {c:Addr} {o:Obj},h.get? c=some o->(fX h l).get? c=some o
 |[],_,_,_,e=>e
 |p::l,_,_,_,e=>iP l (IM _ e)
theorem A5(l:List (Bool×Addr)):∀{h:Heap} (q:Src),q∈hZ h.objs.size l->(fX h l).get? q.2.1=some {cls:=.type (vS q.1),data:=.fields #[.ref q.2.2,.int 0 0]}:=by
 induction l with
 |nil=>intro h q hq;cases hq
 |cons p l ih =>
  intro h q hq;rcases IX.mp hq with rfl|hq
  ·exact iP l (Jf _ rfl)
  ·exact ih q (by rw[JY];exact hq)
theorem kB:∀(l:List (Bool×Addr)) (n:Nat),(hZ n l).length=l.length
 |[],_=>rfl
 |_::l,n=>JH (·+1) (kB l (n+1))
theorem tQ(l:List (Bool×Addr)):∀(n:Nat) (q:Src),q∈hZ n l->n<=q.2.1/\q.2.1<n+l.length/\(q.1,q.2.2)∈l:=by
 induction l with
 |nil=>intro n q hq;cases hq
 |cons p l ih =>
  intro n q hq;rcases IX.mp hq with rfl|hq
  ·exact⟨IU _,by rw[Jd];show n<_;lia,IZ⟩
  ·obtain⟨h1,h2,h3⟩:=ih (n+1) q hq;exact⟨by lia,by rw[Jd];lia,IV _ h3⟩
theorem sm:∀(l:List (Bool×Addr)) (n:Nat),((hZ n l).map λq=>q.2.1).Nodup
 |[],_=>List.nodup_nil
 |p::l,n=>by
  show (n::(hZ (n+1) l).map λq=>q.2.1).Nodup;refine Ko.mpr ⟨λh=>?_,sm l (n+1)⟩;obtain⟨q,hq,e⟩:=JD.mp h;have:=(tQ l (n+1) q hq).1;rw[e] at this;lia
theorem vw(p q r:Bool×Addr)(xs ys zs:Array Value):Meets (Builtin.«zip.__new__» ⟨[.type "zip",.ref p.2,.ref q.2,.ref r.2],[]⟩) (λ_ R s=>cZ p.1 s.heap p.2 xs/\cZ q.1 s.heap q.2 ys/\cZ r.1 s.heap r.2 zs/\R (.ok (.ret (.ref (E5 s.heap [p,q,r]).objs.size))) {s with heap:=Br s.heap [p,q,r]}):=
 .of_wp λprog w A R s h=>by
  obtain⟨hp,g,d,tk,os⟩:=s;obtain⟨q1,q2,q3,h⟩:=h;have hsub:=sub_zip;have w1:cZ p.1 (Shared.heap ⟨hp,g,d,tk,os⟩) p.2 xs:=q1;have w2:cZ q.1 (Shared.heap ⟨hp.push {cls:=.type (vS p.1),data:=.fields #[.ref p.2,.int 0 0]},g,d,tk,os⟩) q.2 ys:=cZ.push q2 _;have w3:cZ r.1 (Shared.heap ⟨(hp.push {cls:=.type (vS p.1),data:=.fields #[.ref p.2,.int 0 0]}).push {cls:=.type (vS q.1),data:=.fields #[.ref q.2,.int 0 0]},g,d,tk,os⟩) r.2 zs:=cZ.push (cZ.push q3 _) _;wp_walk using rG w1,rG w2,rG w3;refine⟨_,rfl,?_⟩;have e1:(hp.push {cls:=.type (vS p.1),data:=.fields #[.ref p.2,.int 0 0]}).objs.size=hp.objs.size+1:=JY ..;have e2:((hp.push {cls:=.type (vS p.1),data:=.fields #[.ref p.2,.int 0 0]}).push {cls:=.type (vS q.1),data:=.fields #[.ref q.2,.int 0 0]}).objs.size=(hp.push {cls:=.type (vS p.1),data:=.fields #[.ref p.2,.int 0 0]}).objs.size+1:=JY ..;have h':=h;simp only[Br,E5,Fw,fX,hZ,Jy,LM,<- e1,<- e2] at h';exact h'
theorem jQ(a b c:Value):checkTypeCall "zip" ⟨[a,b,c],[]⟩=pure ():=by kernel_rfl
theorem kU(a b c:Value):checkBuiltinCall "zip.__new__" ⟨[.type "zip",a,b,c],[]⟩=pure ():=by kernel_rfl
theorem oP(a b c d:Value):argsOk "object.__init__" ⟨[a,b,c,d],[]⟩:=by
 unfold argsOk;rw[signature?_of (id:="object.__init__") (n:=['_','_','t','i','n','i','_','_']) (o:=['t','c','e','j','b','o']) (by kernel_rfl) PySem.F.owner_object];kernel_rfl
section
variable {X:Cx} {es:List Expr} {tk:Nat} {tp:Pos}
theorem BD{pins:List (Addr×Obj)}{s:Shared}{R:It->Hp->Prop}(I:Inv X pins σ H s)(l:List (Bool×Addr))(hne:l≠[])(h3:l.length<=3)(hq:∀p∈l,∃xs,nH X.K p.1 H p.2 xs)(q:∀n,R (FZ X.K (hZ n l)) H):
  (∃o,(Br s.heap l).get? (E5 s.heap l).objs.size=some o/\o.cls=.type "zip")/\wpAny (model X.prog X.w) X.A (pyIter (.ref (E5 s.heap l).objs.size)) (HB X pins σ (.Tuple es tk tp) R) X.xe {s with heap:=Br s.heap l}:=by
 have n1:(fX s.heap l).objs.size=s.heap.objs.size+l.length:=jX l _;have n2:(Fw s.heap l).objs.size=s.heap.objs.size+l.length+1:=by rw[JY,n1]
 have n3:(E5 s.heap l).objs.size=s.heap.objs.size+l.length+2:=by rw[JY,n2]
 have p3:(Br s.heap l).get? (E5 s.heap l).objs.size=some _:=Jf _ rfl;have p2:(Br s.heap l).get? (Fw s.heap l).objs.size=some _:=IM _ (Jf _ rfl);have p1:(Br s.heap l).get? (fX s.heap l).objs.size=some _:=IM _ (IM _ (Jf _ rfl));have up:∀{c o},(fX s.heap l).get? c=some o->(Br s.heap l).get? c=some o:=λe=>IM _ (IM _ (IM _ e));rw[n1,n2,n3] at p3;rw[n2] at p2;rw[n1] at p1;rw[n3];refine⟨⟨_,p3,rfl⟩,wpAny_pyIter_zip p3 ?_⟩;have I2:Inv X pins σ H {s with heap:=Br s.heap l}:=I.kept (t':=s.toks) λc o e=>up (iP l e)
 have bd:=tQ l s.heap.objs.size;have lt:∀p∈l,p.2<s.heap.objs.size:=λp hp=>by
  obtain⟨xs,hx⟩:=hq p hp;obtain⟨its,_,p1⟩:=I.vA hx;obtain⟨o,e,_⟩:=p1.ty;exact Jh e
 have D:Zn (s.heap.objs.size+l.length+2) (s.heap.objs.size+l.length) (s.heap.objs.size+l.length+1) (hZ s.heap.objs.size l):=by
  have nl:∀(a b:Nat),a<b->a≠b:=λa b h=>Jr h;refine⟨⟨nl _ _ (by lia),nl _ _ (by lia),nl _ _ (by lia)⟩,λq hq'=>?_,λq hq'=>?_,sm l _⟩
  ·have:=(bd q hq').2.1;exact⟨nl _ _ (by lia),nl _ _ (by lia),nl _ _ (by lia)⟩
  ·have h1:=lt _ (bd q hq').2.2;refine⟨nl _ _ (by show q.2.2<_;have:q.2.2<s.heap.objs.size:=h1;lia),nl _ _ (by have:q.2.2<s.heap.objs.size:=h1;lia),λp hp=>nl _ _ (Ju h1 (bd p hp).1)⟩
 refine⟨_,_,_,_,H,rfl,I2,uv (hZ s.heap.objs.size l) _ _ _ D (λe=>?_) (by rw[kB];exact h3),⟨p3,p1,⟨_,p2,IP ..⟩,λq hq'=>Fl (up (A5 l q hq'))⟩,λc hc=>?_,q _⟩
 ·have:=kB l s.heap.objs.size;rw[e] at this;exact hne (Kk.mp this.symm)
 ·have hc':s.heap.objs.size<=c:=by
   rcases IX.mp hc with rfl|hc
   ·lia
   rcases IX.mp hc with rfl|hc
   ·lia
   rcases IX.mp hc with rfl|hc
   ·lia
   obtain⟨q,hq',rfl⟩:=JD.mp hc;exact (bd q hq').1
  exact I.rL hc' (I.bc.fresh hc')
noncomputable def yf(K:Og)(ta:TA):TI:=λσ H R=>ta σ H λvs H1=>∃p q r:Bool×Addr,vs=[.ref p.2,.ref q.2,.ref r.2]/\(∃xs,nH K p.1 H1 p.2 xs)/\(∃ys,nH K q.1 H1 q.2 ys)/\(∃zs,nH K r.1 H1 r.2 zs)/\∀n,R (FZ K (hZ n [p,q,r])) H1
theorem vals3{x y z:V}{us:List Value}(r:Vals [x,y,z] us):∃u w' q,us=[u,w',q]/\RelV x u/\RelV y w'/\RelV z q:=by
 obtain⟨u,us,rfl,h1,r⟩:=Paired.gP r;obtain⟨v,w',rfl,h2,h3⟩:=vals2 r;exact⟨u,v,w',rfl,h1,h2,h3⟩
theorem Aa{e1 e2 e3:Expr}{ta:TA}{pos:Pos}(hg:Gl X "zip")(hm:X.mg "zip"=none)(ha:PA X [e1,e2,e3] ta)(h1:autoParam (gK e1=true) ℜ0)(h2:autoParam (gK e2=true) ℜ0)(h3:autoParam (gK e3=true) ℜ0)(hv:autoParam (bootBuiltins "zip"=some (.type "zip")) ℜ6):
  PI X (.Tuple es tk tp) (.Call (.Name "zip" p) [e1,e2,e3] [] pos) (yf X.K ta):=by
 intro pins s σ H R I h;refine Call_ (hW I hg hm hv (K4 (bT (ha pos pins s σ H _ I h) λus s1 hq2=>?_) (by rw[dA h1,dA h2,dA h3]) (by rw[dA h2,dA h3];rfl)))
 obtain⟨vs,H1,I1,r1,q1⟩:=hq2;obtain⟨a,b,c,e,⟨xs,hx⟩,⟨ys,hy⟩,⟨zs,hz⟩,q⟩:=q1;subst e;obtain⟨u,w',t',rfl,ru,rw',rt'⟩:=vals3 r1
 cases ru;cases rw';cases rt'
 obtain⟨its1,_,p1⟩:=I1.vA hx;obtain⟨its2,_,p2⟩:=I1.vA hy;obtain⟨its3,_,p3⟩:=I1.vA hz;refine Od F.called_zip (by decide) (jQ _ _ _) (kU _ _ _) (λobj=>oP obj _ _ _) F.entry_zip_new (vw a b c _ _ _) ⟨p1,p2,p3,BD I1 [a,b,c] (by simp) (IU 3) (λp hp=>?_) q⟩
 simp only[IX,Js,JT] at hp;rcases hp with rfl|rfl|rfl
 ·exact⟨xs,hx⟩
 ·exact⟨ys,hy⟩
 ·exact⟨zs,hz⟩
end
namespace Z
theorem Iu{st:Stmt}:QS X st (λ_ _ _=>False):=⟨λ_ _ _ _ _ _ h=>h.elim⟩
theorem IH{o:Expr}{to:TE}{pos:Pos}(K:Og)(hK:X.K=K){name:Str}{apos:Pos}{T id:String}{r:V->List V->Hp->VK->Prop}(pa:PlainAttrs T)(slot:Slot T name id)(hty:typeOf (.builtin id)=pure (.type "method_descriptor"))(hm:wZ X id r)(ho:QE X o to)
  (hbase:autoParam (attributeBase o name X.env (eval o X.env)=eval o X.env) ℜ0) (hline:autoParam ((apos.endLine == pos.line)=true) ℜ0):QE X (.Call (.Attribute o name apos) [] [] pos) (xi K T r to):=by
 subst hK;exact⟨DA pa slot hty hm ho.h hbase hline⟩
theorem oX(K:Og)(hK:X.K=K):um X (DP K):=by subst hK;exact qJ
end Z
theorem Iq{H':Hp}{xs:List V}(h:bu K H a xs)(k:KB [] H H'):bu K H' a xs:=bu.same (λb o z=>k b o z (by simp)) h
namespace Z
theorem Ij{e:Expr}{te:TE}{x:Str}{pos:Pos}{d:Addr}{D:List (Str×List Str)}(K:Og)(hK:X.K=K)(hg:Gl X x)(hm:X.mg x=some (.ref d))(hd:lh K d D)(he:QE X e te)(hs:yu e:=by exactλ_ _=>rfl)(hdb:autoParam ((x ==("__debug__":Str))=false) ℜ1):QE X (.Subscript (.Name x p) e pos) (yP K D te):=by
 subst hK;exact⟨Dd (tF hg hm rfl hdb) hd he.h hs⟩
theorem Ff{e:Expr}{t:TA}{pos kpos lpos p1 p2 p3:Pos}{x y z:Str}{c Pt d:Addr}{j:Nat}{params:Arguments}{scope:Scope}(K:Og)(hK:X.K=K)(hx:z∈e7)(ht:PySem.W.tabIn K z=some (c,Pt))(hcode:X.env.code=.ref c)(hq:X.env.qual=z++".<locals>.")(hdef:defaultsOf params X.env=([],[]))(hcl:closureFor scope X.env=pure [(y,d)])
  (hg:Gl X "sorted") (hm:X.mg "sorted"=none) (ha:QA X [e] t) (hr:bI (k+3) X.A)
  (hsc:scope={kind:=.function,names:=[(x,.local),(y,.free)],isGenerator:=false,isCoroutine:=false,more:=[]}) (hxy:y≠x) (hx1:(x ==("__debug__":Str))=false) (hx2:(x ==("__classdict__":Str))=false) (hy1:(y ==("__debug__":Str))=false) (hy2:(y ==("__classdict__":Str))=false)
  (hj:X.N[j]?=some y) (hyc:X.env.scope.names.lookup y=some .cell) (hyl:X.env.cells.lookup y=some d)
  (hbind:∀c' pm ctv u,bindArgs (PySem.W.kla_fn "<lambda>" ((z++".<locals>.")++"<lambda>") params (.Subscript (.Name y p1) (.Name x p2) p3) scope [(y,d)] pm (.ref c') ctv) ⟨[u],[]⟩=pure [(x,u)]) (h1:autoParam (gK e=true) ℜ0) :
  QE X (.Call (.Name "sorted" p) [e] [⟨some "key",.Lambda params (.Subscript (.Name y p1) (.Name x p2) p3) scope lpos,kpos⟩] pos) (jA K j t):=by
 subst hK;exact⟨y8 hg hm ha.h h1 hr (EK hx ht hcode hq hdef hcl) hsc hxy hx1 hx2 hy1 hy2 hj hyc hyl hbind⟩
theorem GL(K:Og)(hK:X.K=K):cI X (compareOp .In) (Hw K false):=by subst hK;exact lL
theorem CO(K:Og)(hK:X.K=K):bD X (.type "list") (λxs H Q=>∃p ys,xs=[.ref p]/\(ck K H p ys\/bu K H p ys)/\∀l,H l=none->Q (.ref l) (upd H l (.lst ys))):=by subst hK;exact mM
end Z
namespace Ap
theorem yP(K:Og)(D:List (Str×List Str))(te:TE)(σ:St)(H:Hp)(Q:VK):L2.yP K D te σ H Q=te σ H λy H1=>∃k ws,y=.str k/\KTD.datumAt k D=some ws/\∀p,Fp K p (ws.map V.str)->Q (.ref p) H1:=rfl
theorem jA(K:Og)(j:Nat)(t:TA)(σ:St)(H:Hp)(Q:VK):L2.jA K j t σ H Q=t σ H λvs H1=>∃l xs kz,vs=[.ref l]/\(∃n:Nat,H1 l=some (.ml 0 n)/\xs=kj n)/\kz.length=xs.length/\xs.length<64 /\
 (∀(i:Nat) (v:V) (k:Int),xs[i]?=some v->kz[i]?=some k->∀H',eB H1 H'->∃i q ls,v=.int i/\Ic j σ=[some (.ref q)]/\bu K H' q ls/\bU ls i=some (.int k))/\∀H2 D,eB H1 H2->H2 D=none->Q (.ref D) (upd H2 D (.lst (jn kz xs))):=rfl
end Ap
section
variable {K:Og} {σ:St} {H:Hp} {tc:TT} {te:TE} {Q:VK}
theorem HW{x y:V}{c:Addr}{o1 o2:Option V}{R:St->Hp->Prop}(h:R (some x::some y::σ) (upd H c (.tup [x,y]))):Ag K 2 (ij (bC 0) (ij (bC 1) qr)) (.ref c) (o1::o2::σ) (upd H c (.tup [x,y])) R:=⟨c,[x,y],rfl,bu.of aa,rfl,x,[y],rfl,y,[],rfl,rfl,h⟩
theorem n_{xs:List V}(hn:xs.length<=sizeLine)(Pv:Addr->Nat->List V->Hp->Prop)(h0:∀D,H D=none->Pv D 0 [] (upd H D (.lst [])))(hD:∀D i ys H',Pv D i ys H'->H' D=some (.lst ys)/\ys.length=i)
  (hl:∀D i ys H',Pv D i ys H'->bu K H' a xs)
  (hs:∀D i ys H' x p (R:VK),xs[i]?=some x->Pv D i ys H'->H' p=none->(∀v H5,H5 D=some (.lst ys)->Pv D (i+1) (ys++[v]) (upd H5 D (.lst (ys++[v])))->R v H5)->te (some (.int i)::some x::σ) (upd H' p (.tup [.int i,x])) R) (hd:∀D ys H',Pv D xs.length ys H'->Q (.ref D) H') :
  mw (yD K a) 2 (Ag K 2 (ij (bC 0) (ij (bC 1) qr))) gL te Q σ H:=by
 intro D hD0;refine⟨λi m ys σ' H'=>m=xs.length-i/\i<=xs.length/\Pv D i ys H'/\∃o1 o2,σ'=o1::o2::σ,⟨xs.length,by simp,Jj _,h0 D hD0,none,none,rfl⟩,?_⟩
 rintro i m ys σ' H' ⟨rfl,hi,p,o1,o2,rfl⟩;obtain⟨hDi,hly⟩:=hD _ _ _ _ p;have q:=hl _ _ _ _ p;refine⟨hDi,?_⟩;by_cases hlt:i<xs.length
 ·refine .inr ⟨⟨xs[i],xs,q,by simp[hlt]⟩,by lia,λx H2 y=>?_⟩
  obtain⟨c,y,hy,fr,rfl,rfl⟩:=y;refine HW ?_;unfold gL;dsimp only;rw[if_pos rfl];exact hs D i ys H' y c _ (hy xs q) p fr λv H5 q1 q2=>⟨q1,xs.length-(i+1),by lia,rfl,hlt,q2,_,_,rfl⟩
 ·have e:i=xs.length:=by lia
  subst e;exact .inl ⟨⟨xs,q,rfl⟩,hd D ys H' p⟩
end
theorem pz{t:TS}{D:Ends}(h:∀N,N=D.nx->t {D with nx:=N} σ H):t D σ H:=h _ rfl
theorem zC{c:TT}{t u:TS}{D:Ends}(h:∀A B,A=t D->B=u D->c σ H λb H1=>if b=true then A σ H1 else B σ H1):ng c t u D σ H:=h _ _ rfl rfl
theorem HasFn.HY{mg:Str->Option Value}{base:Heap}{x:Str}{st:Stmt}{N ps:List Str}{sp:Sp}(F:HasFn K mg x st ps)(S:ay N ps (ae st))(len:∀vs H Q E,sp vs H Q E->vs.length=ps.length)
  (hbody:∀(f:Addr) (cdv:Value) (A:Around) (outer:List Env) (s:Shared) (H:Hp) (vs:List V) (Q:VK) (E:XK),bI k (A.deeper (envOfC x (ae st) s.heap.objs.size f cdv))->mg x=some (.ref f)->Ah K f cdv->sp vs H Q E ->
   ∃t,QB (fT bq P w K mg base N x (ae st) f cdv A outer s H E).qd (aU st) t/\t {nx:=λ_ H'=>Q .aT H',rt:=Q} (start N vs) H):aq P w K mg base bq (k+1) x ps sp:=by
 obtain⟨f,fd,F1,b,m⟩:=F.ex;have F2:=F1;obtain⟨oc,od,kV,doc,pm,an,cdv,ct,osl,rfl,lk,fH⟩:=F2.ex;refine⟨f,_,m,F1.kp,b,BU lk fH S len λA outer s H vs Q E hr nR=>?_⟩;obtain⟨t,h,q⟩:=hbody f cdv A outer s H vs Q E hr m ⟨_,_,lk,rfl,rfl⟩ nR;exact⟨t,h.h.qd,q⟩
end L2
namespace G
local macro_rules|`(tactic|and_intros)=>`(tactic|exact ⟨rfl,rfl,rfl,by decide +kernel,rfl,by decide +kernel,by decide +kernel⟩)
open PySem L2 PySem.Spec PyProof.Rows
variable{L i k p t:Nat}{C a dq f lc_code_of lp_code_of:Addr}{b done sp sp1 sp2 ss ws1 ws2 z z1 z2:List Nat}{d:Int}{xs ys:List V}{as ex:List Addr}{H H':Hp}{ln:Nat->Nat}{ws:List (List Nat)}{α:Type}{g ls:List Int}{h:Heap}{Q:VK}{fd:FuncData}{K:Og}{gs:List (Option Nat)}{cd1 cd2:List (List (List Nat))}{q:Program}{neg:Bool}{bk1 bk2:List (List Int)}{mg:Str->Option Value}{lO_code_of:Value}{lD_code_of:Option Addr}{lv_code_of:Array Value}{lS_code_of:Array (Option Value)}
noncomputable def top(i:Nat):Stmt:=PySem.Challenge.pw_shortrows_k37_whole_longer_runs.main.body.getD i (.Pass ⟨0,0,0,0⟩)
abbrev gh:Stmt:=top 4
theorem qA:ay ["row"] ["row"] (ae gh):=by and_intros
abbrev aM:Stmt:=inClass (top 6) 0
theorem gI:ay ["self","given"] ["self","given"] (ae aM):=by and_intros
abbrev aJ:Stmt:=inClass (top 6) 1
theorem c_:ay ["self","row","behind","end","goes"] ["self","row","behind","end"] (ae aJ):=by and_intros
abbrev aN:Stmt:=inClass (top 6) 2
theorem dz:ay ["self","row","word"] ["self","row"] (ae aN):=by and_intros
abbrev aK:Stmt:=inClass (top 6) 3
theorem bH:ay ["self","row","word","old","other"] ["self","row"] (ae aK):=by and_intros
abbrev aF:Stmt:=inClass (top 6) 4
theorem fb:ay ["self"] ["self"] (ae aF):=by and_intros
abbrev aG:Stmt:=inClass (top 6) 5
theorem eQ:ay ["self"] ["self"] (ae aG):=by and_intros
abbrev aC:Stmt:=inClass (top 6) 6
theorem fj:ay ["self"] ["self"] (ae aC):=by and_intros
abbrev iG:Stmt:=top 11
theorem cC:ay ["lengths","free","depth","left","length"] ["lengths"] (ae iG):=by and_intros
abbrev cP:Stmt:=top 13
theorem e9:ay ["lengths","words","ahead","thing"] ["lengths"] (ae cP):=by and_intros
abbrev dm:Stmt:=top 14
theorem kq:ay ["ahead","length"] ["ahead","length"] (ae dm):=by and_intros
abbrev ff:Stmt:=top 15
theorem fL:ay ["code","bits","place","thing","word"] ["code","bits","place"] (ae ff):=by and_intros
abbrev dP:Stmt:=top 23
theorem pU:ay ["book"] ["book"] (ae dP):=by and_intros
abbrev i6:Stmt:=top 25
theorem cO:ay ["codes","bits","place","found","word","row","behind","kind","part"] ["codes","bits","place"] (ae i6):=by and_intros
abbrev fe:Stmt:=top 26
theorem ji:ay ["code","bits","place","thing"] ["code","bits","place"] (ae fe):=by and_intros
abbrev gn:Stmt:=top 27
theorem kA:ay ["kind","codes","bits","place","found"] ["kind","codes","bits","place"] (ae gn):=by and_intros
abbrev eJ:Stmt:=top 28
theorem fk:ay ["code","bits","place","found","behind"] ["code","bits","place"] (ae eJ):=by and_intros
abbrev gc:Stmt:=top 29
theorem de:ay ["bits","place","found","width","behind","distance"] ["bits","place"] (ae gc):=by and_intros
abbrev fA:Stmt:=top 31
theorem ba:ay ["bits","book","given","most","codes","machine","read","done","place","found","how"] ["bits","book","given","most"] (ae fA):=by and_intros
abbrev dn:Stmt:=top 33
theorem m_:ay ["script"] ["script"] (ae dn):=by and_intros
abbrev fm:Stmt:=top 34
theorem fO:ay ["number","turn","one"] ["number","turn"] (ae fm):=by and_intros
abbrev eE:Stmt:=top 35
theorem iC:ay ["deck","most","number"] ["deck","most"] (ae eE):=by and_intros
abbrev dH:Stmt:=top 36
theorem kN:ay [] [] (ae dH):=by and_intros
abbrev eI:Stmt:=top 37
theorem cU:ay ["number","many","text","k"] ["number","many"] (ae eI):=by and_intros
abbrev d5:Stmt:=top 38
theorem b8:ay ["lengths","found","number","size","length","thing","k"] ["lengths"] (ae d5):=by and_intros
abbrev cS:Stmt:=top 39
theorem cc:ay ["deck","many","depths","k","deep","at"] ["deck","many"] (ae cS):=by and_intros
abbrev dy:Stmt:=top 40
theorem nu:ay ["deck"] ["deck"] (ae dy):=by and_intros
abbrev dk:Stmt:=top 41
theorem eA:ay ["deck","size","top"] ["deck"] (ae dk):=by and_intros
abbrev fi:Stmt:=top 42
theorem eG:ay ["deck","goals","some","word","box"] ["deck","goals"] (ae fi):=by and_intros
abbrev cy:Stmt:=top 43
theorem fB:ay ["deck","most","many"] ["deck","most"] (ae cy):=by and_intros
abbrev cV:Stmt:=top 44
theorem kW:ay ["program"] ["program"] (ae cV):=by and_intros
abbrev dJ:Stmt:=top 45
theorem cq:ay ["row","codes","text","part","size"] ["row","codes"] (ae dJ):=by and_intros
abbrev dF:Stmt:=top 46
theorem cL:ay ["sizes","goals","widths","found","size","goal","width"] ["sizes","goals","widths"] (ae dF):=by and_intros
abbrev dB:Stmt:=top 47
theorem bO:ay ["sizes","goals","widths","turn","spots","k","half","far"] ["sizes","goals","widths"] (ae dB):=by and_intros
abbrev bN:Stmt:=top 48
theorem aQ:ay ["program","book","widths","codes","plain","goals","sizes","spots","bits","k","span","far"] ["program","book","widths"] (ae bN):=by and_intros
abbrev b_:Stmt:=top 49
theorem aL:ay ["deck","book","most","codes","bits","begins","k","row","width","half","far","goal"] ["deck","book","most"] (ae b_):=by and_intros
abbrev dE:Stmt:=top 50
theorem dj:ay ["deck","found","k","number"] ["deck"] (ae dE):=by and_intros
abbrev cR:Stmt:=top 51
theorem d6:ay ["bits","book","given","most","more","less","found"] ["bits","book","given","most","more"] (ae cR):=by and_intros
abbrev cW:Stmt:=top 52
theorem kR:ay ["program"] ["program"] (ae cW):=by and_intros
abbrev dI:Stmt:=top 53
theorem gT:ay ["bits","book","given","most","padded"] ["bits","book","given","most"] (ae dI):=by and_intros
abbrev fN:Stmt:=top 54
theorem cN:ay ["script","deck","turn","program","books","given","most","first","second","one","other","raw","more","bits","book"] ["script"] (ae fN):=by and_intros
structure Txt (K:Og) (mg:Str->Option Value):Prop where
 GD:mg "abs"=none
 De:mg "dict"=none
 jh:mg "enumerate"=none
 tB:mg "int"=none
 nq:mg "isinstance"=none
 cf:mg "len"=none
 yh:mg "list"=none
 Fn:mg "max"=none
 Cj:mg "min"=none
 cT:mg "range"=none
 kn:mg "sorted"=none
 FN:mg "str"=none
 FF:mg "sum"=none
 dG:mg "tuple"=none
 Gm:mg "zip"=none
 nK:∃a,mg "BOXES"=some (.ref a)/\∀H,bu K H a [.str "a",.str "b",.str "c",.str "d",.str "e",.str "f",.str "g",.str "h"]
 vZ:∃a,mg "HALVES"=some (.ref a)/\∀H,bu K H a [.int 8,.int 128,.int 32768]
 Az:∃a,mg "HEADS"=some (.ref a)/\∀H,bu K H a [.str "0",.str "10",.str "11"]
 rm:∃u,mg "OF_BOXES"=some u/\RelV (.int 2) u
 nG:∃u,mg "OF_CLASSES"=some u/\RelV (.int 1) u
 qL:∃u,mg "OF_WORDS"=some u/\RelV (.int 0) u
 B0:∃u,mg "WHOLE"=some u/\RelV (.int 65536) u
 xR:∃a,mg "WIDTHS"=some (.ref a)/\∀H,bu K H a [.int 4,.int 8,.int 16]
 oF:∃d,mg "SHAPES"=some (.ref d)/\lh K d [("put",["box","number"]),("add",["box","box"]),("sub",["box","box"]),("copy",["box","box"]),("tell",["box"]),("hear",["box"]),("jump",["goal"]),("zero",["box","goal"]),("halt",[])]
 mc:∃(C_Machine f___init__ f_place_next f_carry_out f_number_for f_heard_number f_told_numbers f_box_numbers:Addr) (d___init__ d_place_next d_carry_out d_number_for d_heard_number d_told_numbers d_box_numbers:FuncData),mg "Machine"=some (.ref C_Machine)/\kM K C_Machine/\bF K C_Machine "given"/\bF K C_Machine "heard"/\bF K C_Machine "told"/\bF K C_Machine "boxes"/\Mk K C_Machine f___init__/\jS K "__init__" "Machine.__init__" aM f___init__ d___init__/\Binds K d___init__ ["self","given"] []/\Meth K C_Machine "place_next" f_place_next/\jS K "place_next" "Machine.place_next" aJ f_place_next d_place_next/\Binds K d_place_next ["self","row","behind","end"] []/\Meth K C_Machine "carry_out" f_carry_out/\jS K "carry_out" "Machine.carry_out" aN f_carry_out d_carry_out/\Binds K d_carry_out ["self","row"] []/\Meth K C_Machine "number_for" f_number_for/\jS K "number_for" "Machine.number_for" aK f_number_for d_number_for/\Binds K d_number_for ["self","row"] []/\Meth K C_Machine "heard_number" f_heard_number/\jS K "heard_number" "Machine.heard_number" aF f_heard_number d_heard_number/\Binds K d_heard_number ["self"] []/\Meth K C_Machine "told_numbers" f_told_numbers/\jS K "told_numbers" "Machine.told_numbers" aG f_told_numbers d_told_numbers/\Binds K d_told_numbers ["self"] []/\Meth K C_Machine "box_numbers" f_box_numbers/\jS K "box_numbers" "Machine.box_numbers" aC f_box_numbers d_box_numbers/\Binds K d_box_numbers ["self"] []
 oh:sA K mg "code_of"
section
variable {P:Program} {w:World} {K:Og} {mg:Str->Option Value} {base:Heap}
namespace Kr
noncomputable def ks(L:Nat):List Nat->Nat
 |[]=>0
 |l::r=>2^(L-l)+ks L r
theorem cE(L:Nat):∀a b,ks L (a++b)=ks L a+ks L b
 |[],b=>by simp[ks]
 |x::a,b=>by simp[ks,cE L a b];lia
theorem i5{a:List Nat}(h:a.Perm b):ks L a=ks L b:=by
 induction h with
 |nil=>rfl
 |cons x _ ih=>simp[ks,ih]
 |swap x y l=>simp[ks];lia
 |trans _ _ h1 h2=>exact h1.trans h2
theorem v9{d l:Nat}(h:d<l)(hl:l<=L):2^(L-d)=2*2^(L-(d+1)):=by
 have:L-d=(L-(d+1))+1:=by lia
 rw[this,ME];lia
noncomputable def fit:List Nat->Nat->Nat->Nat->Prop:=λr free depth L=>ks L r<=free*2^(L-depth)
theorem Cg{L d:Nat}:∀{r:List Nat},(∀x∈r,d<=x)->ks L r<=r.length*2^(L-d)
 |[],_=>by simp[ks]
 |x::r,h=>by
  have ih:=Cg (L:=L) (d:=d) (r:=r) λy hy=>h y (IV _ hy);have hx:=h x IZ;have:=MG (n:=2) (by decide) (Nat.sub_le_sub_left hx L)
  simp only[ks,Jd,LN];lia
theorem EF{x:Nat}{r:List Nat}:0<ks L (x::r):=by
 have:=Nat.pow_pos (n:=L-x) (show 0<2 by decide)
 simp only[ks];lia
theorem qp{r:List Nat}{free depth:Nat}(h:∀x∈r,depth<=x)(hf:r.length<=free):fit r free depth L:=
 IY (Cg h) (Nat.mul_le_mul_right _ hf)
theorem qM{r:List Nat}{free depth l:Nat}(h:depth<l)(hl:l<=L):fit r free depth L ↔ fit r (free*2) (depth+1) L:=by
 unfold fit;rw[v9 h hl,LG]
theorem wY{r:List Nat}{free l:Nat}(hf:0<free):fit (l::r) free l L ↔ fit r (free-1) l L:=by
 unfold fit;simp only[ks];obtain⟨f,rfl⟩:∃f,free=f+1:=⟨free-1,by lia⟩
 rw[LU,LN];lia
theorem xG{x:Nat}{r:List Nat}{depth L:Nat}:¬ fit (x::r) 0 depth L:=by
 unfold fit;have:=EF (L:=L) (x:=x) (r:=r);lia
noncomputable def ET(L:Nat)(done:List Nat)(need last:Int):Prop:=0<=need/\0<=last/\∀m:Nat,(need<=m ↔ ks L done<=m*2^(L-last.toNat))
theorem shr(n:Int)(g:Nat)(hn:0<=n)(m:Nat):(1-((0-n) / 2^g)<=(m:Int)) ↔ (1<=m/\n<=((m-1:Nat):Int)*2^g):=by
 have hp:(0:Int)<2^g:=MW (by decide)
 have h1:(1-((0-n) / 2^g)<=(m:Int)) ↔ (1-(m:Int))<=(0-n) / 2^g:=by lia
 rw[h1,NI hp];constructor
 ·intro h;have hm:1<=m:=by
   rcases LV m with z|z
   ·subst z;simp at h;lia
   ·exact z
  refine⟨hm,?_⟩;have e:((m-1:Nat):Int)=(m:Int)-1:=by lia
  rw[e,NL];rw[NL] at h;lia
 ·rintro⟨hm,h⟩;have e:((m-1:Nat):Int)=(m:Int)-1:=by lia
  rw[e,NL] at h;rw[NL];lia
theorem ET.step{need last l:Int}(h:ET L done need last)(h0:0<=l)(hl:l<=last)(hL:last<=L):
  ET L (done++[l.toNat]) (1-((0-need) / 2^(last-l).toNat)) l:=by
 obtain⟨n0,l0,hm⟩:=h;refine⟨?_,h0,λm=>?_⟩
 ·have hp:(0:Int)<2^(last-l).toNat:=MW (by decide)
  have:(0-need) / 2^(last-l).toNat<=0:=Int.ediv_nonpos_of_nonpos_of_neg (by lia) hp
  lia
 ·rw[shr need _ n0 m,cE];simp only[ks];have e1:2^(L-l.toNat)=2^(last-l).toNat*2^(L-last.toNat):=by
   rw[<- NM];congr 1;lia
  have hpos:=Nat.pow_pos (n:=L-l.toNat) (show 0<2 by decide)
  constructor
  ·rintro⟨m1,h⟩;have h':need<=(((m-1)*2^(last-l).toNat:Nat):Int):=by
    rw[Int.natCast_mul,Int.natCast_pow];exact h
   have:=(hm _).mp h';rw[LG,<- e1] at this;obtain⟨k,rfl⟩:∃k,m=k+1:=⟨m-1,by lia⟩
   rw[LU] at this;rw[LN];exact Nat.add_le_add this (IU _)
  ·intro h;have m1:1<=m:=by
    rcases LV m with z|z
    ·subst z;lia
    ·exact z
   refine⟨m1,?_⟩;have h':need<=(((m-1)*2^(last-l).toNat:Nat):Int):=by
    refine (hm _).mpr ?_;rw[LG,<- e1];obtain⟨k,rfl⟩:∃k,m=k+1:=⟨m-1,by lia⟩
    rw[LU];rw[LN] at h;exact Nat.le_of_add_le_add_right h
   rw[Int.natCast_mul,Int.natCast_pow] at h';exact h'
end Kr
noncomputable def iV(xs:List Int):List V:=xs.map V.int
theorem bA(xs:List Int):(iV xs).length=xs.length:=IP ..
theorem fJ(xs ys:List Int):iV (xs++ys)=iV xs++iV ys:=Jm
theorem BM{xs:List Int}(h:i<xs.length):bU (iV xs) (i:Int)=some (.int xs[i]):=b7 (by unfold iV;rw[I_,IJ h];rfl)
theorem nI{xs:List Int}{v:V}(h:(iV xs)[i]?=some v):∃hi:i<xs.length,v=.int xs[i]:=by
 unfold iV at h;rw[I_] at h
 cases e:xs[i]? with
 |none=>rw[e] at h;cases h
 |some x=>rw[e] at h;cases h;obtain⟨hi,rfl⟩:=IQ.mp e;exact⟨hi,rfl⟩
theorem CJ(xs:List Int)(i:Nat)(x:Int):(iV xs).set i (.int x)=iV (xs.set i x):=by unfold iV;rw[L4]
theorem DY(h:(i:Int)<(xs.length:Nat)):∃t,t∈xs/\bU xs (i:Int)=some t:=by
 have hn:i<xs.length:=by lia
 exact⟨xs[i],Ji hn,b7 (IJ hn)⟩
theorem En(k:KB ex H H')(hx:∀b∈ex,∃ys,H b=some (.lst ys))(h:H a=some (.tup xs)):H' a=some (.tup xs):=k _ _ h λz=>by
 obtain⟨ys,e⟩:=hx a z;rw[h] at e;cases e
noncomputable def jl(ls:List Int):Prop:=0<ls.length/\ls.length<=20/\∀x∈ls,1<=x/\x<=20
noncomputable def KS(ls:List Int):Nat:=Kr.ks 40 (ls.map Int.toNat)
noncomputable def nj(ls:List Int):Bool:=decide (KS ls<=2^40)
namespace Cw
noncomputable def inc:List Nat->List Nat
 |[]=>[]
 |c::r=>if r.all (· == 49) then (if c=48 then 49::r.map (λ_=>48) else 48::r.map (λ_=>48)) else c::inc r
noncomputable def pad(n:Nat)(w:List Nat):List Nat:=w++List.replicate (n-w.length) 48
noncomputable def eZ(w:List Nat)(n:Nat):List Nat:=pad n (inc w)
noncomputable def eK(w:List Nat)(n:Nat):List Nat:=pad n ((w.reverse.dropWhile (· == 49)).reverse.dropLast++[49])
theorem Gv:∀w:List Nat,w.all (· == 49)=true->inc w=w.map λ_=>48
 |[],_=>rfl
 |c::r,h=>by
  rw[Ky,JQ] at h;have hc:c=49:=L5.mp h.1;unfold inc;rw[IW h.2,IT (by rw[hc];decide),Jy]
theorem mW:∀{l:List Nat},l.all (· == 49)=true->l=List.replicate l.length 49
 |[],_=>rfl
 |c::r,h=>by
  rw[Ky,JQ] at h;have hc:c=49:=L5.mp h.1;rw[Jd,J9,<- mW h.2,hc]
theorem Ao(k:Nat):(List.replicate k 49).all (· == 49)=true:=by
 rw[Kq];intro x hx;rw[(JV.mp hx).2];rfl
theorem parts:∀{w:List Nat},(∀c∈w,c=48\/c=49)->w.all (· == 49)=false->∃p k,w=p++48::List.replicate k 49
 |[],_,h=>by cases h
 |c::r,hb,h=>by
  by_cases z:r.all (· == 49)=true
  ·rw[Ky,z,Mh] at h;have hc:c=48:=(hb c IZ).resolve_right λe=>by rw[e] at h;cases h
   exact⟨[],r.length,by rw[hc,J_,<- mW z]⟩
  ·obtain⟨p,k,e⟩:=parts (w:=r) (λx hx=>hb x (IV _ hx)) (by simpa using z)
   exact⟨c::p,k,by rw[e];rfl⟩
theorem gi(k:Nat):∀p:List Nat,inc (p++48::List.replicate k 49)=p++49::List.replicate k 48
 |[]=>by
  rw[J_,J_];unfold inc;rw[IW (Ao k),IW rfl,K8]
 |c::p=>by
  rw[Ks];unfold inc;have z:¬ (p++48::List.replicate k 49).all (· == 49)=true:=by
   rw[List.all_append,Ky];simp
  rw[IT z,gi k p];rfl
theorem qm(k:Nat)(p:List Nat):((p++48::List.replicate k 49).reverse.dropWhile (· == 49)).reverse=p++[48]:=by
 rw[ML,List.reverse_cons,List.reverse_replicate];have e:∀(k:Nat) (t:List Nat),(List.replicate k 49++[48]++t).dropWhile (· == 49)=[48]++t:=λk t=>by
  induction k with
  |zero=>rfl
  |succ k ih=>rw[J9,Ks,Ks,LH,IW (by decide)];exact ih
 rw[e,ML,L9];rfl
theorem lK{w:List Nat}{n:Nat}(hb:∀c∈w,c=48\/c=49)(h:w.all (· == 49)=false)(hn:w.length<=n):eK w n=eZ w n:=by
 obtain⟨p,k,rfl⟩:=parts hb h;unfold eK eZ pad;rw[qm,gi,List.dropLast_append_of_ne_nil (by simp)]
 rw[IL,Jd,Je] at hn;simp only[List.dropLast_singleton,JE,IL,Jd,Je,Ka,Jl,Ks,J_];congr 2;rw[List.replicate_append_replicate];congr 1;lia
noncomputable def val:List Nat->Nat
 |[]=>0
 |c::r=>(c-48)*2^r.length+val r
theorem gE:∀a b:List Nat,val (a++b)=val a*2^b.length+val b
 |[],b=>by simp[val]
 |c::a,b=>by
  rw[Ks,val,val,gE a b,IL,NM,Nat.add_mul,LG,Mj]
theorem e_:∀k,val (List.replicate k 48)=0
 |0=>rfl
 |k+1=>by rw[J9,val,e_ k];simp
theorem j8:∀k,val (List.replicate k 49)+1=2^k
 |0=>rfl
 |k+1=>by
  have:=j8 k;rw[J9,val,Je,ME];lia
theorem nc:∀w:List Nat,(inc w).length=w.length
 |[]=>rfl
 |c::r=>by
  unfold inc;split
  ·split<;>simp
  ·rw[Jd,Jd,nc r]
theorem pq:∀{w:List Nat},(∀c∈w,c=48\/c=49)->∀c∈inc w,c=48\/c=49
 |[],_,_,h=>by cases h
 |d::r,hb,c,h=>by
  unfold inc at h
  split at h
  ·split at h
   ·rcases IX.mp h with h|h
    ·exact .inr h
    ·obtain⟨_,_,e⟩:=JD.mp h;exact .inl e.symm
   ·rcases IX.mp h with h|h
    ·exact .inl h
    ·obtain⟨_,_,e⟩:=JD.mp h;exact .inl e.symm
  ·rcases IX.mp h with h|h
   ·rw[h];exact hb d IZ
   ·exact pq (λx hx=>hb x (IV _ hx)) c h
theorem e8{w:List Nat}{n:Nat}(h:w.length<=n):(eZ w n).length=n:=by
 unfold eZ pad;rw[IL,Je,nc];lia
theorem mx{w:List Nat}{n:Nat}(hb:∀c∈w,c=48\/c=49):∀c∈eZ w n,c=48\/c=49:=λc h=>by
 rcases JG.mp h with h|h
 ·exact pq hb c h
 ·exact .inl (JV.mp h).2
theorem ou{w:List Nat}{n:Nat}(hb:∀c∈w,c=48\/c=49)(h:w.all (· == 49)=false):val (eZ w n)=(val w+1)*2^(n-w.length):=by
 unfold eZ pad;rw[gE,e_,Je,nc,Nat.add_zero];congr 1;obtain⟨p,k,rfl⟩:=parts hb h;have:=j8 k;rw[gi,gE,gE,val,val,e_,Jd,Jd,Je,Je];lia
theorem w8{w:List Nat}(h:w.all (· == 49)=true):val w+1=2^w.length:=by
 rw[mW h,Je];exact j8 _
structure hU (done:List Nat) (w:List Nat):Prop where
 bits:∀c∈w,c=48\/c=49
 len:w.length<=40
 sum:(val w+1)*2^(40-w.length)=Kr.ks 40 done
theorem hU.zero{rest w:List Nat}{l:Nat}(h:hU done w)(hk:Kr.ks 40 done+2^(40-l)<=2^40):w.all (· == 49)=false:=by
 cases z:w.all (· == 49) with
 |false=>rfl
 |true =>
  have e:=h.sum;rw[w8 z,<- NM,Nat.add_sub_cancel' h.len] at e;have:0<2^(40-l):=Nat.pow_pos (by decide)
  lia
theorem hU.next{w:List Nat}{l:Nat}(h:hU done w)(hl:w.length<=l)(hl2:l<=40)(hk:Kr.ks 40 done+2^(40-l)<=2^40):hU (done++[l]) (eZ w l):=by
 have z:=h.zero (rest:=[]) hk;refine⟨mx h.bits,by rw[e8 hl];exact hl2,?_⟩
 rw[ou h.bits z,e8 hl,Nat.add_mul,LG,<- NM,Kr.cE,<- h.sum];have e:l-w.length+(40-l)=40-w.length:=by lia
 rw[e];simp[Kr.ks]
theorem hU.first{l:Nat}(hl:l<=40):hU [l] (List.replicate l 48):=⟨λc h=>.inl (JV.mp h).2,by rw[Je];exact hl,by rw[e_,Je];simp[Kr.ks]⟩
noncomputable def along(nx:List Nat->Nat->List Nat)(ln:Nat->Nat):List Nat->Option (List Nat)×List (List Nat)->Option (List Nat)×List (List Nat)
 |[],s=>s
 |t::r,(a,ws) =>
  let w:=match a with|none=>List.replicate (ln t) 48|some v=>nx v (ln t)
  along nx ln r (some w,ws.set t w)
theorem hG:∀(order done:List Nat) (a:Option (List Nat)) (ws:List (List Nat)),(order.Pairwise λi j=>ln i<=ln j)->(∀t∈order,ln t<=40)->(∀v,a=some v->hU done v/\∀t∈order,v.length<=ln t)->(a=none->done=[])->Kr.ks 40 (done++order.map ln)<=2^40->along eK ln order (a,ws)=along eZ ln order (a,ws)
 |[],_,_,_,_,_,_,_,_=>rfl
 |t::r,done,a,ws,hp,h20,ha,hn,hk=>by
  obtain⟨p1,p2⟩:=J5.mp hp;have ht:=h20 t IZ;have hk':Kr.ks 40 ((done++[ln t])++r.map ln)<=2^40:=by rw[Jl];exact hk
  cases a with
  |none =>
   have:=hn rfl;subst this;exact hG r [ln t] _ _ p2 (λx hx=>h20 x (IV _ hx)) (λv e=>by cases e;exact⟨hU.first ht,λx hx=>by rw[Je];exact p1 x hx⟩) (λe=>by cases e) hk'
  |some v =>
   obtain⟨hv,hl⟩:=ha v rfl;have hvl:=hl t IZ;have hk2:Kr.ks 40 done+2^(40-ln t)<=2^40:=by
    rw[Kr.cE,Kr.cE] at hk';simp[Kr.ks] at hk';lia
   have e:=lK hv.bits (hv.zero (rest:=[]) hk2) hvl;show along eK ln r (some (eK v (ln t)),ws.set t (eK v (ln t)))=along eZ ln r (some (eZ v (ln t)),ws.set t (eZ v (ln t)));rw[e];exact hG r (done++[ln t]) _ _ p2 (λx hx=>h20 x (IV _ hx)) (λu e=>by cases e;exact⟨hv.next hvl ht hk2,λx hx=>by rw[e8 hvl];exact p1 x hx⟩) (λe=>by cases e) hk'
theorem f7{nx:List Nat->Nat->List Nat}:∀(a b:List Nat) (s:Option (List Nat)×List (List Nat)),along nx ln (a++b) s=along nx ln b (along nx ln a s)
 |[],_,_=>rfl
 |t::r,b,(a,ws)=>f7 r b _
theorem gq{nx:List Nat->Nat->List Nat}:∀(o:List Nat) (s:Option (List Nat)×List (List Nat)),(along nx ln o s).2.length=s.2.length
 |[],_=>rfl
 |t::r,(a,ws)=>(gq r _).trans KA
end Cw
local macro_rules | `(tactic| walk_at "lc") => `(tactic| first | exact Or.inl rfl | exact Or.inr rfl)
local macro_rules | `(tactic| wp_walk using $ts,*) => do
  let ids := ("Nat.reduceAdd Nat.reduceSub L2.Ap.uQ L2.Ap.tC L2.Ap.xO L2.Ap.FG L2.Ap.kH L2.Ap.Gb L2.Ap.ym L2.Ap.GW L2.Ap.vO L2.Ap.pX L2.Ap.kl L2.Ap.jq L2.Ap.tK L2.Ap.Ay L2.Ap.jg L2.Ap.zm L2.Ap.yR L2.Ap.i7 L2.Ap.Ak L2.Ap.Fe L2.Ap.xi L2.Ap.Fu L2.Ap.iA L2.Ap.pS L2.Ap.uR L2.Ap.nA L2.Ap.bC L2.Ap.xq L2.Ap.ij L2.Ap.qr L2.Ap.yS L2.Ap.ph L2.Ap.ng L2.Ap.p7 L2.Ap.m4 L2.Ap.vL L2.Ap.oQ BH yn L2.Ap.rI L2.Ap.vb L2.Ap.rU L2.Ap.BW L2.Ap.Fz L2.Ap.Gp L2.Ap.HN L2.Ap.DZ L2.Ap.HP L2.Ap.HC L2.Ap.fC L2.Ap.Fg L2.Ap.setRef L2.Ap.vP L2.Ap.Er L2.Ap.FO L2.Ap.Gy L2.Ap.HA L2.Ap.qG L2.Ap.Hd L2.Ap.Fy L2.Ap.HX L2.Ap.Eh L2.Ap.B1 L2.start kD jt BB HV C1 List.map_cons List.map_nil List.length_cons List.length_nil List.replicate List.cons_append List.nil_append List.append_nil List.getElem?_cons_zero List.getElem?_cons_succ List.set_cons_zero List.set_cons_succ Option.some.injEq exists_eq_left exists_eq_left' V.int.injEq V.str.injEq V.bl.injEq V.ref.injEq List.cons.injEq and_true true_and decide_eq_true_eq Bool.not_eq_true' decide_eq_false_iff_not Bool.false_eq_true L2.Ap.w_ L2.Ap.zj L2.Ap.jV L2.Ap.pV L2.Ap.p8 L2.Ap.oE L2.Ap.wu L2.Ap.yP L2.Ap.jA".splitOn " ").toArray.map λn => Lean.mkIdent n.toName
  `(tactic| simp only [↓reduceIte, $[$ids:ident],*, $[$ts:term],*])
local macro_rules | `(tactic| walk_at "rz") => `(tactic| wp_walk using and_self)
local macro_rules|`(tactic|rfl')=>`(tactic|wp_walk using and_self)
local macro_rules|`(tactic|symm)=>do
  let n:=Lean.mkIdent `N
  let h:=Lean.mkIdent `hN
  `(tactic|(refine $h _ ?_;clear $h $n;refine ar λ$n $h=>?_))
local macro_rules|`(tactic|ac_rfl)=>do
  let n:=Lean.mkIdent `N
  let h:=Lean.mkIdent `hN
  `(tactic|(refine $h _ ?_;clear $h $n))
local macro_rules|`(tactic|right)=>`(tactic|walk_at "lc")
local macro_rules|`(tactic|exists $ts,*)=>`(tactic|wp_walk using $ts,*)
local macro_rules|`(tactic|left)=>do
  let i:=#[`args,`Qt,`hl,`h,`f,`cdv,`A,`outer,`s,`H,`E,`hr].map Lean.mkIdent
  let u:=Lean.mkIdent `hu
  `(tactic|(intro $[$i:ident]*;have $u:ident:=bo $(Lean.mkIdent `hr)))
noncomputable def wd(w:List Nat):Str:=⟨w.toArray⟩
theorem aO(w:List Nat):(wd w).length=w.length:=IS ..
theorem yF{x:Str}{w:List Nat}(h:x.cps.toList=w):x=wd w:=by
 cases x with|mk a=>subst h;unfold wd;rw[LA]
noncomputable def GJ:Sp:=λvs H Q _=>∃n:Nat,n<=40/\((vs=[.aT,.int (n:Int)]/\Q (.str (wd (List.replicate n 48))) H)\/∃w,vs=[.str (wd w),.int (n:Int)]/\w.length<=40/\Q (.str (wd (Cw.eK w n))) H)
theorem vx(T:Txt K mg)(F:HasFn K mg "word_behind" dm ["ahead","length"]):aq P w K mg base bq 1 "word_behind" ["ahead","length"] GJ:=by
 refine F.gU kq (λvs H Q E h=>?_) (λf cdv A outer s H vs Q E hr h=>?_)
 ·obtain⟨n,hn,⟨rfl,_⟩|⟨_,rfl,_⟩⟩:=h<;>rfl
 ·have hu:=bo hr;obtain⟨n,hn,h⟩:=h;rcases h with ⟨rfl,q⟩|⟨v,rfl,hv,q⟩
  ·refine⟨_,(Z.ai (Z.d9 (Z.bf fu (Z.v 0) Z.aT) (Z.aA (Z.ret (Z.op Y.tI Z.str (Z.v 1)))) Z.bG)
   (Z.aA (Z.ret (Z.bm K rfl PySem.F.plainAttrs_str PySem.F.slot_str_ljust PySem.F.type_str_ljust Y.oj (Z.op (Z.aR K rfl) (Z.slice Y.j7 (Z.bm K rfl PySem.F.plainAttrs_str PySem.F.slot_str_rstrip PySem.F.type_str_rstrip Y.lP (Z.v 0) (Z.cons Z.str Z.nil)) Z.yy (Z.qu (Z.un fK Z.int))) Z.str) (Z.cons (Z.v 1) (Z.cons Z.str Z.nil)))))),?_⟩
   refine ar λN hN=>?_;walk_at "rz";refine⟨48,_,rfl,rfl,by lia,by lia,?_⟩
   rw[Jw];exact q
  ·refine⟨_,(Z.ai (Z.d9 (Z.bf fu (Z.v 0) Z.aT) (Z.aA (Z.ret (Z.op Y.tI Z.str (Z.v 1)))) Z.bG)
   (Z.aA (Z.ret (Z.bm K rfl PySem.F.plainAttrs_str PySem.F.slot_str_ljust PySem.F.type_str_ljust Y.oj (Z.op (Z.aR K rfl) (Z.slice Y.j7 (Z.bm K rfl PySem.F.plainAttrs_str PySem.F.slot_str_rstrip PySem.F.type_str_rstrip Y.lP (Z.v 0) (Z.cons Z.str Z.nil)) Z.yy (Z.qu (Z.un fK Z.int))) Z.str) (Z.cons (Z.v 1) (Z.cons Z.str Z.nil)))))),?_⟩
   refine ar λN hN=>?_;walk_at "rz";rw[hN];clear hN N;walk_at "rz";rw[IT V.noConfusion];refine⟨rfl,wd v,_,rfl,rfl,by rw[aO];exact IY hv (by decide),?_⟩
   have e0:(Str.ofString "1").cps.contains=λc:Nat=>c == 49:=by
    funext c
    show (#[49]:Array Nat).contains c=_;rw[Array.contains_eq_any_beq];simp
   have e1:=oo (wd v) (Str.ofString "1");rw[e0] at e1;have e2:(Txt.rstripChars (wd v) (Str.ofString "1")).cps.toList=(v.reverse.dropWhile (· == 49)).reverse:=by
    rw[<- L9 (Txt.rstripChars (wd v) (Str.ofString "1")).cps.toList,e1];rfl
   generalize Txt.rstripChars (wd v) (Str.ofString "1")=r at e2 ⊢;have hr2:r.length<=40:=by
    have:r.length=r.cps.toList.length:=by rw[J8];rfl
    rw[this,e2,La];exact IY (Me _).length_le (by rw[La];exact hv)
   have e3:(Y.iw r none (some (-1))).cps.toList=r.cps.toList.dropLast:=by
    show (Y.rS r.cps.toList none (some (-1))).toArray.toList=_;rw[MM];unfold Y.rS;rw[HT.fU,Kj,M9,List.dropLast_eq_take];congr 1;show (if (-1:Int)<0 then ((-1:Int)+(r.cps.toList.length:Int)).toNat else min (-1:Int).toNat r.cps.toList.length)=_
    rw[IW (by decide)]
    lia
   have hl3:(Y.iw r none (some (-1))).length<=40:=by
    have:(Y.iw r none (some (-1))).length=(Y.iw r none (some (-1))).cps.toList.length:=by rw[J8];rfl
    rw[this,e3,List.length_dropLast,J8];exact IY (Nat.sub_le _ _) hr2
   refine⟨r,rfl,IY hr2 (by decide),?_⟩
   refine⟨IY (show _<=41 from Nat.add_le_add_right hl3 1) (by decide),rfl,_,(n:Int),_,rfl,rfl,by lia,by lia,rfl,?_⟩
   have e4:Txt.ljustF (Y.iw r none (some (-1))++Str.ofString "1") (n:Int) ((Str.ofString "0").cps.getD 0 0)=wd (Cw.eK v n):=by
    refine yF ?_;rw[PyProof.Rows.ljustF_list,Jw];have e5:(Y.iw r none (some (-1))++Str.ofString "1").cps.toList=(v.reverse.dropWhile (· == 49)).reverse.dropLast++[49]:=by
     show ((Y.iw r none (some (-1))).cps++#[49]).toList=_;rw[Lb,e3,e2]
    have e6:(Y.iw r none (some (-1))++Str.ofString "1").length=((v.reverse.dropWhile (· == 49)).reverse.dropLast++[49]).length:=by
     rw[<- e5,J8];rfl
    rw[e5,e6];rfl
   rw[e4];exact q
theorem B6:Str.ofString ""=wd []:=rfl
theorem vf(z y:List Nat)(p:Nat)(hy:y≠[]):Y.ko (wd z) (wd y) (p:Int)=decide (y <+: z.drop p):=by
 have hl:0<y.length:=MN.mpr hy;unfold Y.ko;have e0:fromIndex (wd z).length (p:Int)=p:=by unfold fromIndex;rw[IT (by lia)];lia
 rw[e0];have e:Builtin.Str.subAt (wd z) (wd y) p=decide ((z.drop p).take y.length=y):=by
  unfold Builtin.Str.subAt wd;rw[Lf,L5,Ls,<- Nw,Array.toList_extract,Nk];rw[show (⟨y.toArray⟩:Str).length=y.length from IS ..];simp
 rw[e,Lf,JQ,Ls,Ls,Ls,List.prefix_iff_eq_take,aO,aO];refine⟨λh=>h.2.symm,λh=>⟨?_,h.symm⟩⟩;have:=JH List.length h;rw[Jn,JC] at this;lia
noncomputable def xx(ws:List (List Nat))(z:List Nat)(p:Nat):Option Nat:=(List.range ws.length).find? λi=>decide (ws.getD i [] <+: z.drop p)
theorem jJ(h:xx ws z p=some t):t<ws.length/\ws.getD t [] <+: z.drop p:=by
 have h1:=List.mem_of_find?_eq_some h;have h2:=List.find?_some h;exact⟨Ki.mp h1,JJ h2⟩
theorem wj(h:xx ws z p=none)(ht:t<ws.length):¬ ws.getD t [] <+: z.drop p:=λhp=>by
 have:=List.find?_eq_none.mp h t (Ki.mpr ht);exact this (Jt hp)
structure Pf (ws:List (List Nat)):Prop where
 ne:∀w∈ws,w≠[]
 pre:∀(i j:Nat) (hi:i<ws.length) (hj:j<ws.length),i≠j->¬ ws[i] <+: ws[j]
theorem Pf.th(h:Pf ws)(ht:t<ws.length)(hp:ws.getD t [] <+: z.drop p):xx ws z p=some t:=by
 cases c:xx ws z p with
 |none=>exact absurd hp (wj c ht)
 |some i =>
  obtain⟨hi,hpi⟩:=jJ c;by_cases e:i=t
  ·rw[e]
  ·have g:∀{k:Nat} (hk:k<ws.length),ws.getD k []=ws[k]:=λhk=>by rw[Jc,IJ hk];rfl
   rw[g hi] at hpi;rw[g ht] at hp;rcases List.prefix_or_prefix_of_prefix hpi hp with q|q
   ·exact absurd q (h.pre i t hi ht e)
   ·exact absurd q (h.pre t i ht hi (Kp e))
theorem u5(n:Nat)(h:n<ws.length):(List.range' n (ws.length-n)).find? (λi=>decide (ws.getD i [] <+: z.drop p))=if ws[n] <+: z.drop p then some n else (List.range' (n+1) (ws.length-(n+1))).find? λi=>decide (ws.getD i [] <+: z.drop p):=by
 rw[show ws.length-n=(ws.length-(n+1))+1 by lia,L6,KC]
 rw[Jc,IJ h];show (match decide (ws[n] <+: z.drop p) with|true=>some n|false=>_)=_
 by_cases c:ws[n] <+: z.drop p
 ·rw[Jt c,IW c]
 ·rw[Jq c,IT c]
noncomputable def wV(ws:List (List Nat)):List V:=ws.map λw=>.str (wd w)
noncomputable def HQ:Option Nat->V
 |none=>.aT
 |some t=>.int (t:Int)
noncomputable def sL(K:Og):Sp:=λvs H Q _=>∃(a:Addr) (ws:List (List Nat)) (z:List Nat) (p:Nat),vs=[.ref a,.str (wd z),.int (p:Nat)]/\bu K H a (wV ws)/\(∀w∈ws,w≠[])/\ws.length<=100/\z.length<=1000000/\∀H',KB [] H H'->Q (HQ (xx ws z p)) H'
theorem wz(T:Txt K mg)(F:HasFn K mg "thing_at" ff ["code","bits","place"]):aq P w K mg base bq 1 "thing_at" ["code","bits","place"] (sL K):=by
 refine F.gU fL (λvs H Q E h=>?_) (λf cdv A outer s H vs Q E hr h=>?_)
 ·obtain⟨a,ws,z,p,rfl,_⟩:=h;rfl
 ·have hu:=bo hr;obtain⟨a,ws,z,p,rfl,ha,hne,h100,hz,q⟩:=h;refine⟨_,(Z.ai (Z.fQ J6 rfl (Z.enum K rfl rfl T.jh (Z.cons (Z.v 0) Z.nil)) (Z.zu (n:=2) K rfl rfl (Z.dW (Z.bp (i:=3) fL.nd rfl (by right)) (Z.dW (Z.bp (i:=4) fL.nd rfl (by right)) Z.pL))) (Z.aA (Z.d9 (Z.tw (Z.vk (Z.bf rg (Z.v 4) Z.str) (Z.lU (Z.qi K rfl (Z.bm K rfl PySem.F.plainAttrs_str PySem.F.slot_str_startswith PySem.F.type_str_startswith Y.rp (Z.v 1) (Z.cons (Z.v 4) (Z.cons (Z.v 2) Z.nil))))))) (Z.aA (Z.ret (Z.v 3))) Z.bG)))
   (Z.aA (Z.ret Z.aT))),?_⟩
  refine ar λN hN=>?_;walk_at "rz";refine⟨⟨_,ha⟩,?_⟩;refine qK (xs:=wV ws) (λi σ H'=>KB [] H H'/\i<=ws.length/\(List.range' i (ws.length-i)).find? (λi=>decide (ws.getD i [] <+: z.drop p))=xx ws z p/\∃(s3 s4:Option V),σ=[some (.ref a),some (.str (wd z)),some (.int (p:Nat)),s3,s4]) ⟨KB.refl _ _,Jj _,by unfold xx;rw[MC];rfl,none,none,rfl⟩ ?_ ?_ ?_
  ·rintro i σ H' hi ⟨k,_⟩;exact Iq ha k
  ·rintro i x σ H' b hx ⟨k,hi,ef,s3,s4,rfl⟩ hb;have hlt:i<ws.length:=by
    have:=(IQ.mp hx).1;unfold wV at this;rw[IP] at this;exact this
   have ex:x=.str (wd ws[i]):=by
    unfold wV at hx;rw[I_,IJ hlt] at hx;exact (Option.some.inj hx).symm
   subst ex;refine⟨b,_,rfl,bu.of aa,rfl,?_⟩;have k1:KB [] H (upd H' b (.tup [.int i,.str (wd ws[i])])):=k.trans (KB.new hb);generalize upd H' b (.tup [.int i,.str (wd ws[i])])=H1 at k1;have h0:ws[i]≠[]:=hne _ (Ji hlt);have hne':¬ wd ws[i]=Str.ofString "":=λe=>h0 (by rw[B6] at e;exact JH (λs:Str=>s.cps.toList) e)
   rw[u5 i hlt] at ef;walk_at "rz";rw[IW hne'];refine⟨rfl,_,_,_,rfl,rfl,_,rfl,?_⟩;rw[vf z ws[i] p h0];by_cases c:ws[i] <+: z.drop p
   ·rw[IW c] at ef;rw[<- ef] at q;rw[IW (Jt c)];exact q _ k1
   ·rw[IT c] at ef;rw[IT (by rw[Jq c];exact Jb)]
    exact⟨k1,hlt,ef,_,_,rfl,rfl⟩
  ·rintro σ H' ⟨k,_,ef,s3,s4,rfl⟩;have e:(wV ws).length=ws.length:=IP ..;rw[e,JP] at ef;have ef':xx ws z p=none:=ef.symm;rw[ef'] at q;show N _ _;rw[hN];clear hN N;walk_at "rz";exact q _ k
noncomputable def jo(ws:List (List Nat))(z:List Nat)(p:Nat):Option (Nat×Nat):=(xx ws z p).map λt=>(t,p+(ws.getD t []).length)
theorem eN{x:Nat×Nat}(hne:∀w∈ws,w≠[])(h:jo ws z p=some x):x.1<ws.length/\x.2=p+(ws.getD x.1 []).length/\p<x.2/\x.2<=z.length:=by
 unfold jo at h
 cases c:xx ws z p with
 |none=>rw[c] at h;cases h
 |some t =>
  rw[c] at h;cases h;obtain⟨h1,h2⟩:=jJ c;have h3:=h2.length_le;rw[JC] at h3;have h4:ws.getD t []≠[]:=by rw[Jc,IJ h1];exact hne _ (Ji h1)
  have h5:=MN.mpr h4;exact⟨h1,rfl,by show p<p+_;lia,by show p+_<=_;lia⟩
noncomputable def Io(H:Hp)(v:V):Option (Nat×Nat)->Prop
 |none=>v=.aT
 |some x=>∃t,v=.ref t/\H t=some (.tup [.int (x.1:Nat),.int (x.2:Nat)])
noncomputable def iH(K:Og):Sp:=λvs H Q _=>∃(a:Addr) (ws:List (List Nat)) (z:List Nat) (p:Nat),vs=[.ref a,.str (wd z),.int (p:Nat)]/\bu K H a (wV ws)/\(∀w∈ws,w≠[])/\ws.length<=100/\z.length<=1000000/\∀v H',KB [] H H'->Io H' v (jo ws z p)->Q v H'
theorem yb(T:Txt K mg)(F:HasFn K mg "coded_at" fe ["code","bits","place"])(hthing_at:aq P w K mg base bq 1 "thing_at" ["code","bits","place"] (sL K)):aq P w K mg base bq 2 "coded_at" ["code","bits","place"] (iH K):=by
 refine F.gU ji (λvs H Q E h=>?_) (λf cdv A outer s H vs Q E hr h=>?_)
 ·obtain⟨a,ws,z,p,rfl,_⟩:=h;rfl
 ·have hu:=bo hr;obtain⟨a,ws,z,p,rfl,ha,hne,h100,hz,q⟩:=h;refine⟨_,(Z.ai (Z.set (i:=3) ji.nd rfl (by right) (Z.fn hthing_at (hr.mono (by decide)) rfl av (Z.cons (Z.v 0) (Z.cons (Z.v 1) (Z.cons (Z.v 2) Z.nil)))))
   (Z.aA (Z.ret (Z.EY (Z.bf fu (Z.v 3) Z.aT) Z.aT (Z.tup (Z.cons (Z.v 3) (Z.cons (Z.op (Z.aR K rfl) (Z.v 2) (Z.cb (Z.cw K rfl) rfl T.cf (by decide +kernel) (Z.cons (Z.ix (Z.oX K rfl) (Z.v 0) (Z.v 3)) Z.nil))) Z.nil))))))),?_⟩
  refine ar λN hN=>?_;walk_at "rz";refine⟨a,ws,z,p,rfl,ha,hne,h100,hz,λH1 k1=>?_⟩;rw[hN];clear hN N;have ha1:=Iq ha k1;unfold jo at q
  cases c:xx ws z p with
  |none =>
   rw[c] at q;unfold HQ;walk_at "rz";exact q _ _ k1 rfl
  |some t =>
   rw[c] at q;obtain⟨h1,h2⟩:=jJ c;unfold HQ;walk_at "rz";rw[IT V.noConfusion];have h3:=h2.length_le;rw[JC] at h3;refine⟨a,wV ws,_,.str (wd (ws.getD t [])),rfl,rfl,ha1,b7 (by unfold wV;rw[I_,Jc,IJ h1];rfl),?_⟩
   walk_at "rz";rw[aO];refine⟨IY (show _<=1000000 by lia) (by decide),by decide,λb hb=>q _ _ (k1.trans (KB.new hb)) ⟨b,rfl,?_⟩⟩
   rw[aa];rfl
noncomputable def cY(z:List Nat):Prop:=∀c∈z,c=48\/c=49
theorem cY.cut(h:cY z)(a n:Nat):cY ((z.drop a).take n):=λc hc=>h c (List.mem_of_mem_drop (List.mem_of_mem_take hc))
theorem sT(z:List Nat)(a b:Nat)(h1:a<=b)(h2:b<=z.length):Y.iw (wd z) (some (a:Int)) (some (b:Int))=wd ((z.drop a).take (b-a)):=by
 unfold Y.iw wd;congr 2;show Y.rS z (some (a:Int)) (some (b:Int))=_;unfold Y.rS;rw[HT.fo,HT.fo,NC h2,NC (IY h1 h2)]
noncomputable def yT(ws:List (List Nat))(z:List Nat)(p:Nat):Option (Nat×Nat):=match jo ws z p with
 |none=>none
 |some x=>if x.1=0 then some x else if x.2+(x.1-1)<=z.length then some (jO (49::(z.drop x.2).take (x.1-1)),x.2+(x.1-1)) else none
theorem Bm(c:Nat)(w:List Nat):wd [c]++wd w=wd (c::w):=yF (by
 show (#[c]++w.toArray).toList=_;rw[Lb];rfl)
noncomputable def uf(K:Og):Sp:=λvs H Q _=>∃(a:Addr) (ws:List (List Nat)) (z:List Nat) (p:Nat),vs=[.ref a,.str (wd z),.int (p:Nat)]/\bu K H a (wV ws)/\(∀w∈ws,w≠[])/\ws.length<=20/\cY z/\z.length<=1000000/\∀v H',KB [] H H'->Io H' v (yT ws z p)->Q v H'
theorem yX(T:Txt K mg)(F:HasFn K mg "number_at" eJ ["code","bits","place"])(hcoded_at:aq P w K mg base bq 2 "coded_at" ["code","bits","place"] (iH K)):aq P w K mg base bq 3 "number_at" ["code","bits","place"] (uf K):=by
 refine F.gU fk (λvs H Q E h=>?_) (λf cdv A outer s H vs Q E hr h=>?_)
 ·obtain⟨a,ws,z,p,rfl,_⟩:=h;rfl
 ·have hu:=bo hr;obtain⟨a,ws,z,p,rfl,ha,hne,h20,hb,hz,q⟩:=h;refine⟨_,(Z.ai (Z.set (i:=3) fk.nd rfl (by right) (Z.fn hcoded_at (hr.mono (by decide)) rfl av (Z.cons (Z.v 0) (Z.cons (Z.v 1) (Z.cons (Z.v 2) Z.nil)))))
   (Z.ai (Z.d9 (Z.tw (Z.Ht (Z.bf fu (Z.v 3) Z.aT) (Z.DU (Z.bf bB (Z.ix (Z.az K rfl hu) (Z.v 3) Z.int) Z.int)))) (Z.aA (Z.ret (Z.v 3))) Z.bG)
   (Z.ai (Z.set (i:=4) fk.nd rfl (by right) (Z.op bX (Z.op (Z.aR K rfl) (Z.ix (Z.az K rfl hu) (Z.v 3) Z.int) (Z.ix (Z.az K rfl hu) (Z.v 3) Z.int)) Z.int))
   (Z.ai (Z.d9 (Z.bf wR (Z.v 4) (Z.cb (Z.cw K rfl) rfl T.cf (by decide +kernel) (Z.cons (Z.v 1) Z.nil))) (Z.aA (Z.ret Z.aT)) Z.bG)
   (Z.aA (Z.ret (Z.tup (Z.cons (Z.ct lV rfl T.tB (by decide +kernel) (Z.cons (Z.op (Z.aR K rfl) Z.str (Z.slice Y.j7 (Z.v 1) (Z.qu (Z.ix (Z.az K rfl hu) (Z.v 3) Z.int)) (Z.qu (Z.v 4)))) (Z.cons Z.int Z.nil))) (Z.cons (Z.v 4) Z.nil))))))))),?_⟩
  refine ar λN hN=>?_;walk_at "rz";refine⟨a,ws,z,p,rfl,ha,hne,by lia,hz,λv H1 k1 o1=>?_⟩
  rw[hN];clear hN N;refine ar λN hN=>?_;unfold yT at q
  cases c:jo ws z p with
  |none =>
   rw[c] at q o1;obtain rfl:v=.aT:=o1;walk_at "rz";exact q _ _ k1 rfl
  |some x =>
   rw[c] at q o1;obtain⟨t,e⟩:=x;obtain⟨h1,_,h3,h4⟩:=eN hne c;obtain⟨b,rfl,hb1⟩:=o1;dsimp only at q h1 h3 h4 hb1;have sb:=ax hb1;have ne:¬ V.ref b=V.aT:=V.noConfusion;have a0:bU [V.int (t:Int),V.int (e:Int)] 0=some (.int (t:Int)):=rfl;have a1:bU [V.int (t:Int),V.int (e:Int)] 1=some (.int (e:Int)):=rfl;walk_at "rz";simp only[sb,a0,a1,if_neg ne];walk_at "rz";by_cases c0:t=0
   ·subst c0;rw[IW rfl] at q;rw[IW (by rfl)]
    exact q _ _ k1 ⟨b,rfl,hb1⟩
   ·rw[IT c0] at q;have ci:¬ ((t:Nat):Int)=0:=by lia
    rw[IT ci,hN];clear hN N;refine ar λN hN=>?_;walk_at "rz";simp only[sb,a0,a1];walk_at "rz";have eb:(e:Int)+(t:Int)-1=((e+(t-1):Nat):Int):=by lia
    rw[eb,hN];clear hN N;refine ar λN hN=>?_;walk_at "rz";refine⟨by rw[aO];exact IY hz (by decide),?_⟩
    rw[aO];by_cases cl:e+(t-1)<=z.length
    ·rw[IW cl] at q;rw[IT (by lia),hN];clear hN N
     walk_at "rz";simp only[sb,a0,a1];have hb2:=hb.cut e (t-1);have hll:((z.drop e).take (t-1)).length<=20:=by rw[Jn];lia
     have hcl:(49::(z.drop e).take (t-1)).length<=21:=by rw[Jd];lia
     refine⟨(e:Int),rfl,wd z,rfl,by rw[aO];exact IY hz (by decide),?_⟩
     rw[sT z _ _ (by lia) cl,N6,show Str.ofString "1"=wd [49] from by decide +kernel]
     show _/\BO [.str (wd [49]++wd ((z.drop e).take (t-1))),.int 2] H1 _;rw[Bm,aO,aO];refine⟨IY (show _<=21 by rw[Lw];lia) (by decide),_,rfl,by rw[aO];exact IY hcl (by decide),λc hc=>?_,by simp[wd],by decide,λb2 hb2'=>?_⟩
     ·rcases IX.mp (show c∈49::(z.drop e).take (t-1) from hc) with rfl|hc
      ·exact .inr rfl
      ·exact hb2 c hc
     ·exact q _ _ (k1.trans (KB.new hb2')) ⟨b2,rfl,by rw[aa];rfl⟩
    ·rw[IT cl] at q;rw[IW (by lia)]
     exact q _ _ k1 rfl
noncomputable def cH:Nat->List Nat
 |0=>[48]
 |1=>[49,48]
 |_=>[49,49]
noncomputable def aS:Nat->Nat
 |0=>4
 |1=>8
 |_=>16
noncomputable def bS(k:Nat):Int:=if k=0 then 8 else if k=1 then 128 else 32768
noncomputable def sh:List (List Nat):=[cH 0,cH 1,cH 2]
theorem j4(h:k<3):k=0\/k=1\/k=2:=by lia
theorem m8:∀w∈sh,w≠[]:=by decide
theorem wF(h:k<3):sh.getD k []=cH k:=by rcases j4 h with rfl|rfl|rfl<;>rfl
noncomputable def zO(k n:Nat):Int:=if bS k<=(n:Int) then (n:Int)-2*bS k else (n:Int)
noncomputable def gA(z:List Nat)(p:Nat):Option (Int×Nat):=match jo sh z p with
 |none=>none
 |some x=>if x.2+aS x.1<=z.length then some (zO x.1 (jO ((z.drop x.2).take (aS x.1))),x.2+aS x.1) else none
theorem GI:[V.str (Str.ofString "0"),.str (Str.ofString "10"),.str (Str.ofString "11")]=wV sh:=by
 rw[show Str.ofString "0"=wd [48] from by decide +kernel,show Str.ofString "10"=wd [49,48] from by decide +kernel,show Str.ofString "11"=wd [49,49] from by decide +kernel]
 rfl
noncomputable def IF(H:Hp)(v:V):Option (Int×Nat)->Prop
 |none=>v=.aT
 |some x=>∃t,v=.ref t/\H t=some (.tup [.int ((x.2:Int)+x.1),.int (x.2:Nat)])
noncomputable def pj(K:Og):Sp:=λvs H Q _=>∃(z:List Nat) (p:Nat),vs=[.str (wd z),.int (p:Nat)]/\cY z/\z.length<=1000000/\∀v H',KB [] H H'->IF H' v (gA z p)->Q v H'
theorem vp(T:Txt K mg)(F:HasFn K mg "goal_at" gc ["bits","place"])(hcoded_at:aq P w K mg base bq 2 "coded_at" ["code","bits","place"] (iH K)):aq P w K mg base bq 3 "goal_at" ["bits","place"] (pj K):=by
 refine F.gU de (λvs H Q E h=>?_) (λf cdv A outer s H vs Q E hr h=>?_)
 ·obtain⟨z,p,rfl,_⟩:=h;rfl
 ·have hu:=bo hr;obtain⟨z,p,rfl,hb,hz,q⟩:=h;obtain⟨aE,hg_HEADS,sE⟩:=T.Az;obtain⟨aW,hg_WIDTHS,sW⟩:=T.xR;obtain⟨aV,hg_HALVES,sV⟩:=T.vZ;have hr_HEADS:RelV (.ref aE) (.ref aE):=rfl;have hr_WIDTHS:RelV (.ref aW) (.ref aW):=rfl;have hr_HALVES:RelV (.ref aV) (.ref aV):=rfl;refine⟨_,(Z.ai (Z.set (i:=2) de.nd rfl (by right) (Z.fn hcoded_at (hr.mono (by decide)) rfl av (Z.cons (Z.glob rfl hg_HEADS hr_HEADS) (Z.cons (Z.v 0) (Z.cons (Z.v 1) Z.nil)))))
   (Z.ai (Z.d9 (Z.bf fu (Z.v 2) Z.aT) (Z.aA (Z.ret Z.aT)) Z.bG)
   (Z.ai (Z.set (i:=3) de.nd rfl (by right) (Z.ix (Z.az K rfl hu) (Z.v 2) Z.int))
   (Z.ai (Z.set (i:=4) de.nd rfl (by right) (Z.op (Z.aR K rfl) (Z.ix (Z.az K rfl hu) (Z.v 2) Z.int) (Z.ix (Z.oX K rfl) (Z.glob rfl hg_WIDTHS hr_WIDTHS) (Z.v 3))))
   (Z.ai (Z.d9 (Z.bf wR (Z.v 4) (Z.cb (Z.cw K rfl) rfl T.cf (by decide +kernel) (Z.cons (Z.v 0) Z.nil))) (Z.aA (Z.ret Z.aT)) Z.bG)
   (Z.ai (Z.set (i:=5) de.nd rfl (by right) (Z.ct lV rfl T.tB (by decide +kernel) (Z.cons (Z.slice Y.j7 (Z.v 0) (Z.qu (Z.ix (Z.az K rfl hu) (Z.v 2) Z.int)) (Z.qu (Z.v 4))) (Z.cons Z.int Z.nil))))
   (Z.ai (Z.d9 (Z.bf wq (Z.v 5) (Z.ix (Z.oX K rfl) (Z.glob rfl hg_HALVES hr_HALVES) (Z.v 3))) (Z.aA (Z.set (i:=5) de.nd rfl (by right) (Z.op bX (Z.v 5) (Z.op bR Z.int (Z.ix (Z.oX K rfl) (Z.glob rfl hg_HALVES hr_HALVES) (Z.v 3)))))) Z.bG)
   (Z.aA (Z.ret (Z.tup (Z.cons (Z.op (Z.aR K rfl) (Z.v 4) (Z.v 5)) (Z.cons (Z.v 4) Z.nil)))))))))))),?_⟩
  refine ar λN hN=>?_;walk_at "rz";refine⟨aE,sh,z,p,rfl,by rw[<- GI];exact sE H,m8,by decide,hz,λv H1 k1 o1=>?_⟩
  rw[hN];clear hN N;refine ar λN hN=>?_;unfold gA at q
  cases c:jo sh z p with
  |none =>
   rw[c] at q o1;obtain rfl:v=.aT:=o1;walk_at "rz";exact q _ _ k1 rfl
  |some x =>
   rw[c] at q o1;obtain⟨k,e⟩:=x;obtain⟨h1,_,h3,h4⟩:=eN m8 c;obtain⟨b,rfl,hb1⟩:=o1;dsimp only at q h1 h3 h4 hb1;have hk:k<3:=h1;have sb:=ax hb1;have ne:¬ V.ref b=V.aT:=V.noConfusion;have a0:bU [V.int (k:Int),V.int (e:Int)] 0=some (.int (k:Int)):=rfl;have a1:bU [V.int (k:Int),V.int (e:Int)] 1=some (.int (e:Int)):=rfl;walk_at "rz";rw[if_neg ne,hN];clear hN N;refine ar λN hN=>?_;walk_at "rz";simp only[sb,a0,a1];rw[hN];clear hN N;refine ar λN hN=>?_;walk_at "rz";simp only[sb,a0,a1];have aw:bU [V.int 4,.int 8,.int 16] (k:Int)=some (.int (aS k:Nat)):=by rcases j4 hk with rfl|rfl|rfl<;>rfl
   have ah:bU [V.int 8,.int 128,.int 32768] (k:Int)=some (.int (bS k)):=by rcases j4 hk with rfl|rfl|rfl<;>rfl
   have h16:aS k<=16/\0<aS k:=by rcases j4 hk with rfl|rfl|rfl<;>decide
   refine⟨aW,_,_,_,rfl,rfl,sW H1,aw,?_⟩;show N [_,_,_,_,some (V.int ((e:Int)+(aS k:Nat))),none] H1;rw[show (e:Int)+(aS k:Nat)=((e+aS k:Nat):Int) by lia,hN];clear hN N
   refine ar λN hN=>?_;walk_at "rz";refine⟨by rw[aO];exact IY hz (by decide),?_⟩
   rw[aO];by_cases cl:e+aS k<=z.length
   ·rw[IW cl] at q;rw[IT (by lia),hN];clear hN N
    refine ar λN hN=>?_;walk_at "rz";simp only[sb,a0,a1];have hb2:=hb.cut e (aS k);have hl2:((z.drop e).take (aS k)).length=aS k:=by rw[Jn,JC];lia
    refine⟨(e:Int),rfl,wd z,rfl,by rw[aO];exact IY hz (by decide),?_⟩
    rw[sT z _ _ (by lia) cl,N6]
    refine⟨_,rfl,by rw[aO,hl2];lia,hb2,λe0=>by have e1:(z.drop e).take (aS k)=[]:=e0;rw[e1] at hl2;simp at hl2;lia,?_⟩
    rw[show (wd ((z.drop e).take (aS k))).cps.toList=(z.drop e).take (aS k) from rfl];generalize jO ((z.drop e).take (aS k))=n at *;unfold zO at q;show N _ _;rw[hN];clear hN N;refine ar λN hN=>?_;walk_at "rz";refine⟨aV,_,_,_,rfl,rfl,sV H1,ah,_,_,rfl,rfl,_,rfl,?_⟩;have fin:∀d:Int,d=(if bS k<=(n:Int) then (n:Int)-2*bS k else (n:Int))->N [some (.str (wd z)),some (.int (p:Nat)),some (.ref b),some (.int (k:Nat)),some (.int ((e+aS k:Nat):Int)),some (.int d)] H1:=λd ed=>by
     rw[hN];clear hN N;walk_at "rz";refine⟨by decide,λb2 hb2'=>q _ _ (k1.trans (KB.new hb2')) ⟨b2,rfl,?_⟩⟩
     rw[aa,ed]
    by_cases ch:bS k<=(n:Int)
    ·rw[IW (Jt ch)];refine⟨aV,_,_,_,rfl,rfl,sV H1,ah,?_⟩;exact⟨.inl (by decide),_,_,rfl,rfl,fin _ (by rw[IW ch])⟩
    ·rw[IT (by rw[Jq ch];exact Jb)]
     exact fin _ (by rw[IT ch])
   ·rw[IT cl] at q;rw[IW (by lia)]
    exact q _ _ k1 rfl
theorem ig(u:_root_.Fin 2):u=0\/u=1:=by revert u;decide
theorem lj(u:_root_.Fin 3):u=0\/u=1\/u=2:=by revert u;decide
theorem Ew{b:Nat}(h:b<8):b=0\/b=1\/b=2\/b=3\/b=4\/b=5\/b=6\/b=7:=by lia
theorem FE{l:List α}(h:l.length=8):∃a b c d e f g i,l=[a,b,c,d,e,f,g,i]:=by
 rcases l with _|⟨a,_|⟨b,_|⟨c,_|⟨d,_|⟨e,_|⟨f,_|⟨g,_|⟨i,_|⟨j,l⟩⟩⟩⟩⟩⟩⟩⟩⟩<;>first|exact⟨_,_,_,_,_,_,_,_,rfl⟩ | (exfalso;revert h;simp)
inductive Row where
 |put (b n:Nat)|two (w:Fin 3) (a b:Nat)|one (w:Fin 2) (b:Nat)|jump (g:Nat)|zero (b g:Nat)|halt
 deriving DecidableEq
noncomputable def cF(i:Nat):Str:=⟨#[97+i]⟩
noncomputable def w2:Fin 3->Str
 |0=>"add"
 |1=>"sub"
 |2=>"copy"
noncomputable def w1:Fin 2->Str
 |0=>"tell"
 |1=>"hear"
inductive Hm where
 |s (z:Str)|n (k:Nat)
noncomputable def Row.ps:Row->List Hm
 |.put b n=>[.s "put",.s (cF b),.n n]
 |.two w a b=>[.s (w2 w),.s (cF a),.s (cF b)]
 |.one w b=>[.s (w1 w),.s (cF b)]
 |.jump g=>[.s "jump",.n g]
 |.zero b g=>[.s "zero",.s (cF b),.n g]
 |.halt=>[.s "halt"]
noncomputable def Row.Ok(size:Nat):Row->Prop
 |.put b n=>b<8/\n<65536
 |.two _ a b=>a<8/\b<8
 |.one _ b=>b<8
 |.jump g=>g<=size
 |.zero b g=>b<8/\g<=size
 |.halt=>True
theorem Row.Ok.mono{a b:Nat}{r:Row}(h:r.Ok a)(hm:a<=b):r.Ok b:=by
 cases r<;>simp only[Row.Ok] at h ⊢<;>lia
theorem Cz{k:Int}(h0:0<=k)(h1:k<8):bU (Str.ofString "abcdefgh").cps.toList k=some (97+k.toNat):=by
 have e:(Str.ofString "abcdefgh").cps.toList=[97,98,99,100,101,102,103,104]:=by decide +kernel
 rw[e];obtain⟨n,rfl⟩:∃n:Nat,k=n:=⟨k.toNat,by lia⟩
 unfold bU j0;have hn:n<8:=by lia
 rw[IW (by lia),IW (by simp;lia)]
 show [97,98,99,100,101,102,103,104][((n:Nat):Int).toNat]?=some (97+((n:Nat):Int).toNat);rw[Jw];rcases Ew hn with rfl|rfl|rfl|rfl|rfl|rfl|rfl|rfl<;>rfl
noncomputable def aY(ls:List Int)(t:Nat):Nat:=(ls.getD t 0).toNat
noncomputable def aI(ls:List Int):List Nat:=jn ls (List.range ls.length)
noncomputable def wordsOf(nx:List Nat->Nat->List Nat)(ls:List Int):List (List Nat):=(Cw.along nx (aY ls) (aI ls) (none,List.replicate ls.length [])).2
noncomputable def fz(ls:List Int)(done:List Nat):Option (List Nat)×List (List Nat):=Cw.along Cw.eK (aY ls) done (none,List.replicate ls.length [])
theorem sR{v:List Nat}{n:Nat}(hv:v.length<=40)(hn:n<=40):(Cw.eK v n).length<=40:=by
 have h1:((v.reverse.dropWhile (· == 49)).reverse.dropLast).length<=39:=by
  rw[List.length_dropLast,La];have:=(Me (· == 49) (l:=v.reverse)).length_le;rw[La] at this;lia
 unfold Cw.eK Cw.pad;rw[IL,Je,IL,Lw];lia
theorem i9(h:t∈aI ls):t<ls.length:=Ki.mp ((j6 (by rw[JA])).mem_iff.mp h)
theorem EB(ls:List Int)(done:List Nat):(fz ls done).2.length=ls.length:=by
 unfold fz;rw[Cw.gq,Je]
namespace Cw
noncomputable def Dv(a b:List Nat):Prop:=∃u,u++[48] <+: a/\u++[49] <+: b
theorem pT{u v:List Nat}{c d:Nat}(h1:u++[c] <+: b)(h2:v++[d] <+: b)(hl:u.length<v.length):u++[c] <+: v:=by
 have h3:v <+: b:=(Lk v [d]).trans h2;exact Lc h1 h3 (by rw[IL];exact hl)
theorem Dv.trans{a c:List Nat}(h:Dv a b)(g:Dv b c):Dv a c:=by
 obtain⟨u,h1,h2⟩:=h;obtain⟨v,g1,g2⟩:=g;rcases Nat.lt_trichotomy u.length v.length with e|e|e
 ·exact⟨u,h1,(pT h2 g1 e).trans ((Lk v [49]).trans g2)⟩
 ·have p1:(u++[49]).length=(v++[48]).length:=by rw[IL,IL,e];rfl
  have p2:u++[49]=v++[48]:=(Lc h2 g1 (by lia)).eq_of_length p1
  have p3:[49]=[48]:=(List.append_inj' p2 rfl).2;exact absurd p3 (by decide)
 ·exact⟨v,(pT g1 h2 e).trans ((Lk u [48]).trans h1),g2⟩
theorem Dv.not{a:List Nat}(h:Dv a b):¬ a <+: b/\¬ b <+: a:=by
 obtain⟨u,h1,h2⟩:=h;have key:∀c,u++[48] <+: c->u++[49] <+: c->False:=λc p q=>by
  have e:u++[48]=u++[49]:=(Lc p q (by simp)).eq_of_length (by simp)
  exact absurd (List.append_cancel_left e) (by decide)
 exact⟨λp=>key b (h1.trans p) h2,λp=>key a h1 (h2.trans p)⟩
theorem Dv.lt{a:List Nat}(h:Dv a b):a<b:=by
 obtain⟨u,⟨x,rfl⟩,⟨y,rfl⟩⟩:=h
 induction u with
 |nil=>exact List.Lex.rel (by decide)
 |cons c u ih=>exact List.Lex.cons ih
theorem B5{w:List Nat}{n:Nat}(hb:∀c∈w,c=48\/c=49)(h:w.all (· == 49)=false):Dv w (eZ w n):=by
 obtain⟨p,k,rfl⟩:=parts hb h;unfold eZ pad;rw[gi];exact⟨p,⟨List.replicate k 49,by simp⟩,⟨List.replicate k 48++List.replicate (n-(p++49::List.replicate k 48).length) 48,by simp⟩⟩
noncomputable def kK(ln:Nat->Nat)(a:Option (List Nat))(t:Nat):List Nat:=match a with
 |none=>List.replicate (ln t) 48
 |some v=>eK v (ln t)
noncomputable def kE(ln:Nat->Nat):Option (List Nat)->List Nat->List (List Nat)
 |_,[]=>[]
 |a,t::r=>kK ln a t::kE ln (some (kK ln a t)) r
theorem yx:∀(order done:List Nat) (a:Option (List Nat)),(order.Pairwise λi j=>ln i<=ln j)->(∀t∈order,ln t<=40)->(∀v,a=some v->hU done v/\∀t∈order,v.length<=ln t)->(a=none->done=[])->Kr.ks 40 (done++order.map ln)<=2^40 ->
  (∀v,a=some v->∀x∈kE ln a order,Dv v x)/\(kE ln a order).Pairwise Dv/\∀(i t:Nat),order[i]?=some t->∃w,(kE ln a order)[i]?=some w/\w.length=ln t
 |[],_,_,_,_,_,_,_=>⟨λ_ _ x hx=>(by cases hx),List.Pairwise.nil,λi t e=>(by cases e)⟩
 |t::r,done,a,hp,h40,ha,hn,hk=>by
  obtain⟨p1,p2⟩:=J5.mp hp;have ht:=h40 t IZ;have hk':Kr.ks 40 ((done++[ln t])++r.map ln)<=2^40:=by rw[Jl];exact hk
  have fin:∀w:List Nat,w=kK ln a t->hU (done++[ln t]) w->w.length=ln t->(∀v,a=some v->Dv v w) ->
    (∀v,a=some v->∀x∈kE ln a (t::r),Dv v x)/\(kE ln a (t::r)).Pairwise Dv/\∀(i s:Nat),(t::r)[i]?=some s->∃w,(kE ln a (t::r))[i]?=some w/\w.length=ln s:=λw ew hH hl hd=>by
   obtain⟨q1,q2,q3⟩:=yx r (done++[ln t]) (some w) p2 (λx hx=>h40 x (IV _ hx)) (λv e=>by cases e;exact⟨hH,λx hx=>by rw[hl];exact p1 x hx⟩) (λe=>by cases e) hk'
   have es:kE ln a (t::r)=w::kE ln (some w) r:=by rw[ew];rfl
   rw[es];refine⟨λv e x hx=>?_,J5.mpr ⟨λx hx=>q1 w rfl x hx,q2⟩,λi s e=>?_⟩
   ·rcases IX.mp hx with rfl|hx
    ·exact hd v e
    ·exact (hd v e).trans (q1 w rfl x hx)
   ·cases i with
    |zero=>cases e;exact⟨w,rfl,hl⟩
    |succ i=>exact q3 i s (by simpa using e)
  cases a with
  |none =>
   have:=hn rfl;subst this;exact fin _ rfl (hU.first ht) (show (List.replicate (ln t) 48).length=ln t by rw[Je]) (λv e=>by cases e)
  |some v =>
   obtain⟨hv,hl⟩:=ha v rfl;have hvl:=hl t IZ;have hk2:Kr.ks 40 done+2^(40-ln t)<=2^40:=by
    rw[Kr.cE,Kr.cE] at hk';simp[Kr.ks] at hk'
    omega
   have z:=hv.zero (rest:=[]) hk2;have e:=lK hv.bits z hvl;refine fin _ rfl ?_ ?_ ?_
   ·show hU _ (eK v (ln t));rw[e];exact hv.next hvl ht hk2
   ·show (eK v (ln t)).length=_;rw[e];exact e8 hvl
   ·intro u eu;cases eu;show Dv v (eK v (ln t));rw[e];exact B5 hv.bits z
theorem oW:∀(order:List Nat) (a:Option (List Nat)) (ws:List (List Nat)),order.Nodup->(∀t∈order,t<ws.length)->(∀(i t:Nat),order[i]?=some t->(along eK ln order (a,ws)).2[t]?=(kE ln a order)[i]?)/\∀t,t∉order->(along eK ln order (a,ws)).2[t]?=ws[t]?
 |[],_,_,_,_=>⟨λi t e=>(by cases e),λ_ _=>rfl⟩
 |t::r,a,ws,hn,hl=>by
  obtain⟨n1,n2⟩:=Ko.mp hn;have ht:=hl t IZ;have ea:along eK ln (t::r) (a,ws)=along eK ln r (some (kK ln a t),ws.set t (kK ln a t)):=by cases a<;>rfl
  rw[ea];obtain⟨q1,q2⟩:=oW r (some (kK ln a t)) (ws.set t (kK ln a t)) n2 (λx hx=>by rw[KA];exact hl x (IV _ hx))
  refine⟨λi s e=>?_,λs hs=>?_⟩
  ·cases i with
   |zero =>
    cases e;exact (q2 t n1).trans (by rw[Ln ht];rfl)
   |succ i=>exact q1 i s (by simpa using e)
  ·have h1:s≠t:=λz=>hs (by rw[z];exact IZ)
   have h2:s∉r:=λz=>hs (IV _ z);exact (q2 s h2).trans (by rw[Mx (Kp h1)])
noncomputable def Lx(p q:Int×Nat):Prop:=p.1<q.1\/(p.1=q.1/\p.2<q.2)
theorem zw{p:Int×Nat}:∀{l:List (Int×Nat)},l.Pairwise Lx->(∀q∈l,p.2<q.2)->(iD p l).Pairwise Lx
 |[],_,_=>N5 _ _
 |q::r,h,hp=>by
  obtain⟨h1,h2⟩:=J5.mp h;have hq:=hp q IZ;unfold iD;split
  ·rename_i c;refine J5.mpr ⟨λz hz=>?_,h⟩;have hz2:=hp z hz;have:q.1<=z.1:=by
    rcases IX.mp hz with rfl|hz
    ·exact Mc _
    ·have:=h1 z hz;unfold Lx at this;omega
   unfold Lx;omega
  ·rename_i c;refine J5.mpr ⟨λz hz=>?_,zw h2 λz hz=>hp z (IV _ hz)⟩;rcases IX.mp ((gj p r).mem_iff.mp hz) with rfl|hz
   ·unfold Lx;omega
   ·exact h1 z hz
theorem t9:∀{l:List (Int×Nat)},(l.Pairwise λp q=>p.2<q.2)->(eC l).Pairwise Lx
 |[],_=>.nil
 |p::r,h=>by
  obtain⟨h1,h2⟩:=J5.mp h;exact zw (t9 h2) λq hq=>h1 q ((dY r).mem_iff.mp hq)
end Cw
structure Canon (ls:List Int) (W:List (List Nat)):Prop where
 len:W.length=ls.length
 Fs:∀t,t<ls.length->(W.getD t []).length=aY ls t
 part:∀s t,s<ls.length->t<ls.length->(ls.getD s 0<ls.getD t 0\/(ls.getD s 0=ls.getD t 0/\s<t))->Cw.Dv (W.getD s []) (W.getD t [])
theorem lO(ls:List Int):ls.zip (List.range ls.length)=(List.range ls.length).map λt=>(ls.getD t 0,t):=by
 apply KU
 ·simp
 ·intro i h1 h2;simp at h1;simp[h1]
theorem canon(hL:jl ls)(hk:KS ls<=2^40):Canon ls (wordsOf Cw.eK ls):=by
 have hS:(Cw.Lx · ·)=(Cw.Lx · ·):=rfl;have hlx:(eC (ls.zip (List.range ls.length))).Pairwise Cw.Lx:=by
  refine Cw.t9 ?_;rw[lO];exact KJ.mpr Md
 have hmem:∀p∈eC (ls.zip (List.range ls.length)),p.1=ls.getD p.2 0/\p.2<ls.length:=λp hp=>by
  have:=(dY _).mem_iff.mp hp;rw[lO] at this;obtain⟨t,ht,rfl⟩:=JD.mp this;exact⟨rfl,Ki.mp ht⟩
 have hord:(aI ls).Pairwise λs t=>ls.getD s 0<ls.getD t 0\/(ls.getD s 0=ls.getD t 0/\s<t):=by
  unfold aI jn;refine KJ.mpr (hlx.imp_of_mem λ{p q} hp hq h=>?_);rw[<- (hmem p hp).1,<- (hmem q hq).1];exact h
 have hperm:(aI ls).Perm (List.range ls.length):=j6 (by rw[JA])
 have hnd:(aI ls).Nodup:=hperm.nodup_iff.mpr List.nodup_range;have hb:∀t,t<ls.length->1<=ls.getD t 0/\ls.getD t 0<=40:=λt ht=>by
  rw[Jc,IJ ht];have:=hL.2.2 _ (Ji ht);show 1<=ls[t]/\ls[t]<=40;lia
 have hmm:∀t∈aI ls,t<ls.length:=λt ht=>i9 ht;have hks:Kr.ks 40 ([]++(aI ls).map (aY ls))<=2^40:=by
  rw[J_,Kr.i5 (hperm.map (aY ls))];have e:(List.range ls.length).map (aY ls)=ls.map Int.toNat:=by
   apply KU
   ·simp
   ·intro i h1 h2;simp at h1;simp[aY,h1]
  rw[e];exact hk
 obtain⟨_,q2,q3⟩:=Cw.yx (ln:=aY ls) (aI ls) [] none (hord.imp_of_mem λ{s t} hs ht h=>by
  have:=hb s (hmm s hs);have:=hb t (hmm t ht);unfold aY;omega) (λt ht=>by have:=hb t (hmm t ht);unfold aY;omega) (λv e=>by cases e) (λ_=>rfl) hks
 obtain⟨a1,_⟩:=Cw.oW (ln:=aY ls) (aI ls) none (List.replicate ls.length []) hnd (λt ht=>by rw[Je];exact hmm t ht)
 have hat:∀t,t<ls.length->∃i w,(aI ls)[i]?=some t/\(Cw.kE (aY ls) none (aI ls))[i]?=some w/\w.length=aY ls t/\(wordsOf Cw.eK ls).getD t []=w:=λt ht=>by
  obtain⟨i,hi⟩:=Mq.mp (hperm.mem_iff.mpr (Ki.mpr ht));obtain⟨w,hw,hl⟩:=q3 i t hi;refine⟨i,w,hi,hw,hl,?_⟩;unfold wordsOf;rw[Jc,a1 i t hi,hw];rfl
 refine⟨?_,λt ht=>?_,λs t hs ht h=>?_⟩
 ·unfold wordsOf;rw[Cw.gq,Je]
 ·obtain⟨i,w,_,_,hl,e⟩:=hat t ht;rw[e];exact hl
 ·obtain⟨i,w,h1,h2,_,e⟩:=hat s hs;obtain⟨j,v,g1,g2,_,e'⟩:=hat t ht;rw[e,e'];obtain⟨hi,rfl⟩:=IQ.mp h2;obtain⟨hj,rfl⟩:=IQ.mp g2;obtain⟨hi',ei⟩:=IQ.mp h1;obtain⟨hj',ej⟩:=IQ.mp g1;have hij:i<j:=by
   rcases Nat.lt_trichotomy i j with c|c|c
   ·exact c
   ·subst c;have est:s=t:=ei.symm.trans ej;subst est
    exfalso;omega
   ·have:=KN.mp hord j i hj' hi' c;rw[ei,ej] at this
    exfalso;omega
  exact KN.mp q2 i j hi hj hij
noncomputable def dg(n:Int):Nat:=48+(n % 2).toNat
noncomputable def bw:Int->Nat->List Nat->List Nat
 |_,0,acc=>acc
 |n,k+1,acc=>bw (n / 2) k (dg n::acc)
theorem dc:∀(k:Nat) (n:Int) (acc:List Nat),(bw n k acc).length=k+acc.length
 |0,_,_=>by rw[bw,Lz]
 |k+1,n,acc=>by rw[bw,dc k,Jd];lia
theorem CW(n:Int):dg n=48\/dg n=49:=by
 unfold dg;have:n % 2=0\/n % 2=1:=by lia
 rcases this with e|e<;>rw[e]
 ·exact .inl rfl
 ·exact .inr rfl
theorem fv:∀(k:Nat) (n:Int) (acc:List Nat),(∀c∈acc,c=48\/c=49)->∀c∈bw n k acc,c=48\/c=49
 |0,_,_,h=>h
 |k+1,n,acc,h=>fv k (n / 2) (dg n::acc) λc hc=>by
  rcases IX.mp hc with rfl|hc
  ·exact CW n
  ·exact h c hc
theorem GY(n:Int):bU (Str.ofString "01").cps.toList (n % 2)=some (dg n):=by
 have:n % 2=0\/n % 2=1:=by lia
 unfold dg;rcases this with e|e<;>rw[e]
 ·exact (by decide +kernel)
 ·exact (by decide +kernel)
theorem dR(a b:List Nat):wd a++wd b=wd (a++b):=by
 apply yF;show (a.toArray++b.toArray).toList=_;simp
theorem mI:Str.ofString ""=wd []:=by decide +kernel
noncomputable def bE(n:Nat):Nat:=Builtin.Int.intBits (n:Int)
noncomputable def dZ(n:Nat):List Nat:=bw (n:Int) (bE n) []
theorem jy{n:Nat}(h:n<65536):bE n<17:=by
 unfold bE Builtin.Int.intBits;split
 ·decide
 ·rename_i hz;have h0:n≠0:=λz=>hz (by rw[z];rfl)
  show (n:Int).natAbs.log2+1<17;rw[Na];have:=(Nat.log2_lt (n:=n) (k:=16) h0).mpr (by lia)
  lia
noncomputable def dX(k:Nat)(d:Int):List Nat:=cH k++bw d (aS k) []
theorem E_{n:Nat}(h:0<n):Builtin.Int.intBits (n:Int)=Builtin.Int.intBits ((n / 2:Nat):Int)+1:=by
 unfold Builtin.Int.intBits;rw[IT (by simp;lia)]
 show (n:Int).natAbs.log2+1=_;rw[Na,Nat.log2_def];split
 ·rw[IT (by simp;lia),Na]
 ·have e:n / 2=0:=by lia
  rw[e];rfl
noncomputable def Row.wi:Row->Nat
 |.put _ _=>0
 |.two u _ _=>1+u
 |.one u _=>4+u
 |.jump _=>6
 |.zero _ _=>7
 |.halt=>8
theorem Row.tY(r:Row):r.wi<9:=by
 cases r with
 |two u a b=>exact (by decide:∀u:_root_.Fin 3,1+(u:Nat)<9) u
 |one u b=>exact (by decide:∀u:_root_.Fin 2,4+(u:Nat)<9) u
 |put b n=>exact (by decide:0<9)
 |jump g=>exact (by decide:6<9)
 |zero b g=>exact (by decide:7<9)
 |halt=>exact (by decide:8<9)
inductive Pk where
 |box (b:Nat)|num (n:Nat)|goal (g:Nat)
noncomputable def Pk.kd:Pk->Str
 |.box _=>"box"
 |.num _=>"number"
 |.goal _=>"goal"
noncomputable def Pk.Ok:Pk->Prop
 |.box b=>b<8
 |.num n=>n<65536
 |.goal _=>True
noncomputable def Pk.zT:Pk->List (Nat×Nat)
 |.box b=>[(2,b)]
 |.num n=>[(1,bE n)]
 |.goal _=>[]
noncomputable def Row.wd:Row->Str
 |.put _ _=>"put"
 |.two u _ _=>w2 u
 |.one u _=>w1 u
 |.jump _=>"jump"
 |.zero _ _=>"zero"
 |.halt=>"halt"
noncomputable def Row.fG:Row->List Pk
 |.put b n=>[.box b,.num n]
 |.two _ a b=>[.box a,.box b]
 |.one _ b=>[.box b]
 |.jump g=>[.goal g]
 |.zero b g=>[.box b,.goal g]
 |.halt=>[]
theorem Row.zd{r:Row}(h:r.Ok k):∀p∈r.fG,p.Ok:=by
 cases r with
 |put b n=>simp only[Row.fG,IX,Js,JT];exactλp z=>z.elim (λe=>e ▸ h.1) λe=>e ▸ h.2
 |two u a b=>simp only[Row.fG,IX,Js,JT];exactλp z=>z.elim (λe=>e ▸ h.1) λe=>e ▸ h.2
 |one u b=>simp only[Row.fG,IX,Js,JT];rintro p rfl;exact h
 |jump g=>simp only[Row.fG,IX,Js,JT];rintro p rfl;exact trivial
 |zero b g=>simp only[Row.fG,IX,Js,JT];exactλp z=>z.elim (λe=>e ▸ h.1) λe=>e ▸ trivial
 |halt=>simp[Row.fG]
noncomputable def g_(r:Row):List (Nat×Nat):=(0,r.wi)::r.fG.flatMap Pk.zT
noncomputable def bW:List Str:=["put","add","sub","copy","tell","hear","jump","zero","halt"]
theorem FL:∀k,k<9->∀m,m<k->bW[m]?≠bW[k]?:=by decide +kernel
theorem Ce(r:Row):bW[r.wi]?=some r.wd/\∀m,m<r.wi->bW[m]?≠some r.wd:=by
 have h1:bW[r.wi]?=some r.wd:=by
  cases r with
  |two u a b=>exact (by decide +kernel:∀u:_root_.Fin 3,bW[1+(u:Nat)]?=some (w2 u)) u
  |one u b=>exact (by decide +kernel:∀u:_root_.Fin 2,bW[4+(u:Nat)]?=some (w1 u)) u
  |put b n=>rfl
  |jump g=>rfl
  |zero b g=>rfl
  |halt=>rfl
 exact⟨h1,λm hm=>by rw[<- h1];exact FL _ r.tY m hm⟩
theorem HR{b:Nat}(h:b<8):Builtin.Str.occurrences (Str.ofString "abcdefgh") (cF b) 0 (Str.ofString "abcdefgh").length 1=[b]:=by
 rcases Ew h with rfl|rfl|rfl|rfl|rfl|rfl|rfl|rfl<;>decide +kernel
noncomputable def dh:List (Str×List Str):=[("put",["box","number"]),("add",["box","box"]),("sub",["box","box"]),("copy",["box","box"]),("tell",["box"]),("hear",["box"]),("jump",["goal"]),("zero",["box","goal"]),("halt",[])]
noncomputable def GX:List Str:=["a","b","c","d","e","f","g","h"]
theorem Eu{b:Nat}(h:b<8):GX[b]?=some (cF b)/\∀m,m<b->GX[m]?≠some (cF b):=(by decide +kernel:∀b,b<8->GX[b]?=some (cF b)/\∀m,m<b->GX[m]?≠some (cF b)) b h
theorem kx:∀(o:List Nat) (a:Option (List Nat)) (ws:List (List Nat)),(∀t∈o,ln t<=40)->(∀v,a=some v->v.length<=40)->(∀x∈ws,x.length<=40)->∀x∈(Cw.along Cw.eK ln o (a,ws)).2,x.length<=40
 |[],_,_,_,_,h=>h
 |t::o,a,ws,ho,ha,hw=>by
  have ht:=ho t IZ;have h2:=λt h=>ho t (IV _ h)
  cases a with
  |none =>
   refine kx o (some (List.replicate (ln t) 48)) _ h2 (λv e=>by cases e;rw[Je];exact ht) λx hx=>?_
   rcases Kb hx with z|z
   ·exact hw x z
   ·rw[z,Je];exact ht
  |some v =>
   have hv:=sR (ha v rfl) ht;refine kx o (some (Cw.eK v (ln t))) _ h2 (λv e=>by cases e;exact hv) λx hx=>?_
   rcases Kb hx with z|z
   ·exact hw x z
   ·rw[z];exact hv
theorem vH(hL:jl ls):∀x∈wordsOf Cw.eK ls,x.length<=40:=by
 refine kx _ _ _ (λt ht=>?_) (λv e=>by cases e) λx hx=>by rw[(JV.mp hx).2];decide
 have h:=i9 ht;have:=hL.2.2 _ (Ji h);unfold aY;rw[Jc,IJ h];show ls[t].toNat<=40;lia
theorem iN(ls:List Int):(wordsOf Cw.eK ls).length=ls.length:=(Cw.gq _ _).trans (Je ..)
structure Cd (cd:List (List (List Nat))):Prop where
 ex:∃a b c,cd=[a,b,c]/\a.length=9/\b.length=17/\c.length=8
 le:∀ws∈cd,∀x∈ws,x.length<=40
noncomputable def aX(cd:List (List (List Nat)))(p:Nat×Nat):List Nat:=(cd.getD p.1 []).getD p.2 []
noncomputable def iq:Row->List Nat
 |.put _ n=>(dZ n).tail
 |_=>[]
noncomputable def bK(cd:List (List (List Nat)))(r:Row):List Nat:=(g_ r).flatMap (aX cd)++iq r
noncomputable def Bk(bk:List (List Int)):Prop:=∃a b c,bk=[a,b,c]/\a.length=9/\b.length=17/\c.length=8/\∀l∈bk,jl l/\nj l=true
noncomputable def a_(bk:List (List Int)):List (List (List Nat)):=bk.map (wordsOf Cw.eK)
theorem Bk.cd{bk:List (List Int)}(h:Bk bk):Cd (a_ bk):=by
 obtain⟨a,b,c,rfl,h1,h2,h3,h4⟩:=h;refine⟨⟨_,_,_,rfl,by rw[iN,h1],by rw[iN,h2],by rw[iN,h3]⟩,λws hw=>?_⟩
 obtain⟨l,hl,rfl⟩:=JD.mp hw;exact vH (h4 l hl).1
theorem E2{r:Row}(h:r.Ok k):∀p∈g_ r,(p.1=0/\p.2<9)\/(p.1=1/\p.2<17)\/(p.1=2/\p.2<8):=by
 intro p hp;unfold g_ at hp;rcases IX.mp hp with rfl|hp
 ·exact .inl ⟨rfl,r.tY⟩
 ·obtain⟨q,hq,hp⟩:=List.mem_flatMap.mp hp;have:=Row.zd h q hq
  cases q with
  |box b=>rw[Jg.mp hp];exact .inr (.inr ⟨rfl,this⟩)
  |num n=>rw[Jg.mp hp];exact .inr (.inl ⟨rfl,jy this⟩)
  |goal n=>cases hp
theorem Cd.at{cd:List (List (List Nat))}(h:Cd cd){p:Nat×Nat}(hp:(p.1=0/\p.2<9)\/(p.1=1/\p.2<17)\/(p.1=2/\p.2<8)):cd[p.1]?=some (cd.getD p.1 [])/\(cd.getD p.1 [])[p.2]?=some (aX cd p)/\(aX cd p).length<=40:=by
 obtain⟨a,b,c,rfl,h1,h2,h3⟩:=h.ex;have key:∀(l:List (List Nat)) (i:Nat),i<l.length->l[i]?=some (l.getD i [])/\l.getD i []∈l:=λl i hi=>by
  rw[Jc,IJ hi];exact⟨rfl,Ji hi⟩
 obtain⟨x,y⟩:=p;rcases hp with ⟨rfl,hy⟩|⟨rfl,hy⟩|⟨rfl,hy⟩
 ·have:=key a y (by rw[h1];exact hy)
  exact⟨rfl,this.1,h.le a (by simp) _ this.2⟩
 ·have:=key b y (by rw[h2];exact hy)
  exact⟨rfl,this.1,h.le b (by simp) _ this.2⟩
 ·have:=key c y (by rw[h3];exact hy)
  exact⟨rfl,this.1,h.le c (by simp) _ this.2⟩
theorem AU(r:Row):(g_ r).length<=3:=by cases r<;>simp[g_,Row.fG,Pk.zT]
theorem wG{cd:List (List (List Nat))}{r:Row}(hC:Cd cd)(h:r.Ok k):((g_ r).flatMap (aX cd)).length<=120/\(iq r).length<=16:=by
 refine⟨?_,?_⟩
 ·have:∀l:List (Nat×Nat),(∀p∈l,(aX cd p).length<=40)->(l.flatMap (aX cd)).length<=40*l.length:=λl=>by
   induction l with
   |nil=>exactλ_=>IU _
   |cons p l ih =>
    intro h;have h1:=h p IZ;have h2:=ih λq hq=>h q (IV _ hq);rw[Lu,IL,Jd];lia
  have h1:=this (g_ r) λp hp=>(hC.at (E2 h p hp)).2.2;have h2:=AU r;lia
 ·cases r with
  |put b n =>
   have:=jy (n:=n) h.2;show (dZ n).tail.length<=16;rw[N2];unfold dZ;rw[dc];simp only[Ka];lia
  |_=>exact Jj _
noncomputable def nZ(l:List Nat):List Int:=l.map λk:Nat=>(k:Int)
theorem iT(l:List Nat):(nZ l).length=l.length:=IP ..
theorem C5{l:List Nat}(h:Kr.ks 40 l<=2^40):nj (nZ l)=true:=by
 unfold nj KS nZ;rw[KW,show (Int.toNat ∘ λk:Nat=>(k:Int))=id from funext λk=>Jw k,List.map_id];exact Jt h
structure Pt (l:List Nat):Prop where
 ks:Kr.ks 40 l=2^40
 le:∀x∈l,x+1<=l.length
 one:l=[0]\/∀x∈l,1<=x
theorem Pt.pos{l:List Nat}(h:Pt l):1<=l.length:=by
 cases l with
 |nil=>have:=h.ks;simp[Kr.ks] at this
 |cons=>simp
theorem Pt.next{l l3:List Nat}{a:Nat}(h:Pt l)(ha:a<l.length)(hl:l.length<=17)(hp:l3.Perm ((l[a]+1)::(l[a]+1)::l.eraseIdx a)):Pt l3/\l3.length=l.length+1:=by
 have hpm:(l[a]::l.eraseIdx a).Perm l:=by
  rw[Mw]
  conv=>rhs;rw[<- L3 a l,<- List.getElem_cons_drop ha]
  exact Ny.symm
 have hle:=l.length_eraseIdx_of_lt ha;have hx:=h.le _ (Ji ha);have h3:l3.length=l.length+1:=by
  rw[hp.length_eq,Jd,Jd,hle];lia
 have mem:∀y∈l3,y=l[a]+1\/y∈l.eraseIdx a:=λy hy=>by
  rcases IX.mp (hp.mem_iff.mp hy) with z|z
  ·exact .inl z
  ·rcases IX.mp z with z|z
   ·exact .inl z
   ·exact .inr z
 have mem2:∀y∈l.eraseIdx a,y∈l:=λy hy=>hpm.mem_iff.mp (IV _ hy);refine⟨⟨?_,λy hy=>?_,.inr λy hy=>?_⟩,h3⟩
 ·have e1:=Kr.i5 (L:=40) hpm;rw[h.ks,Kr.ks] at e1;rw[Kr.i5 hp,Kr.ks,Kr.ks];have e2:2^(40-l[a])=2*2^(40-(l[a]+1)):=by rw[show 40-l[a]=(40-(l[a]+1))+1 by lia,ME];lia
  lia
 ·rw[h3];rcases mem y hy with rfl|z
  ·lia
  ·have:=h.le y (mem2 y z);lia
 ·rcases mem y hy with rfl|z
  ·lia
  ·rcases h.one with e|e
   ·subst e;have ha0:a=0:=by simpa using ha
    subst ha0;cases z
   ·exact e y (mem2 y z)
theorem zV(l:List α)(n:Nat)(x:α):(iQ l n x).length=l.length+1:=by
 unfold iQ;rw[IL,Jd,Jn,JC];lia
theorem oz(l:List α)(n:Nat)(x:α):(iQ l n x).Perm (x::l):=by
 unfold iQ;refine Ny.trans ?_;rw[L3]
theorem zg:∀{l:List Nat} {a z:Nat} (ha:a<l.length),l[a]<=z->Kr.ks 40 (l.set a z)<=Kr.ks 40 l
 |[],_,_,ha,_=>(nomatch ha)
 |x::l,0,z,_,h=>by
  have:2^(40-z)<=2^(40-x):=MG (by decide) (by have:x<=z:=h;lia)
  simp only[LR,Kr.ks];lia
 |x::l,a+1,z,ha,h=>by
  have:=zg (l:=l) (a:=a) (z:=z) (by simpa using ha) (by simpa using h)
  simp only[List.set_cons_succ,Kr.ks];lia
theorem yi{β:Type}{f:α->β}{o m:List β}(h:o.Perm m):∀l:List α,l.map f=m->∃k:List α,k.map f=o/\k.Perm l:=by
 induction h with
 |nil =>
  intro l e
  cases l with
  |nil=>exact⟨[],rfl,.nil⟩
  |cons=>cases e
 |cons x p ih =>
  intro l e
  cases l with
  |nil=>cases e
  |cons a l =>
   obtain⟨rfl,e2⟩:=List.cons.inj e;obtain⟨k,e3,p3⟩:=ih l e2;exact⟨a::k,by rw[Jy,e3],p3.cons a⟩
 |swap x y l0 =>
  intro l e;rcases l with _|⟨a,_|⟨b,l⟩⟩
  ·cases e
  ·cases e
  ·obtain⟨rfl,e2⟩:=List.cons.inj e;obtain⟨rfl,e3⟩:=List.cons.inj e2;exact⟨b::a::l,by rw[<- e3];rfl,.swap ..⟩
 |trans p q ih1 ih2 =>
  intro l e;obtain⟨k,e1,p1⟩:=ih2 l e;obtain⟨k',e2,p2⟩:=ih1 k e1;exact⟨k',e2,p2.trans p1⟩
theorem Bn{p:List Nat}(hp:p.Perm (List.range ls.length))(hr:p.Pairwise (SP.R λi=>ls.getD i 0)):aI ls=p:=by
 have ez:(List.range ls.length).map (λi=>(ls.getD i 0,i))=ls.zip (List.range ls.length):=by
  apply KU
  ·rw[IP,JA,MD,JA,Kx]
  ·intro i h1 h2;rw[IP,JA] at h1;rw[List.getElem_map,List.getElem_range,List.getElem_zip];simp[h1]
 have e1:p.map (λi=>(ls.getD i 0,i))=eC (ls.zip (List.range ls.length)):=by
  refine oq ?_ λa=>?_
  ·exact KJ.mpr (hr.imp λh=>h.le)
  ·have fl:∀l:List Nat,atK a (l.map λi=>(ls.getD i 0,i))=(l.filter λi=>decide (ls.getD i 0=a)).map λi=>(ls.getD i 0,i):=λl=>by
    unfold atK;rw[List.filter_map];rfl
   rw[<- ez,fl,fl];congr 1;refine N0 (le:=(· < ·)) (λa b _ _ h g=>absurd h (Nat.lt_asymm g)) ?_ (Md.filter _) (hp.filter _);rw[List.pairwise_filter];refine hr.imp λ{i j} h hi hj=>?_;have hi:=JJ hi;have hj:=JJ hj;rcases h with h|h
   ·exfalso;have h':ls.getD i 0<ls.getD j 0:=h;lia
   ·exact h.2
 unfold aI jn;rw[<- e1,KW];exact List.map_id _
noncomputable def nQ(ls:List Int)(i:Nat):Int×Int:=(ls.getD i 0,(i:Int))
theorem vy{out:List (Int×Int)}(hp:out.Perm ((List.range ls.length).map (nQ ls)))(hu:Hq out):out=(aI ls).map (nQ ls)/\(aI ls).Pairwise (SP.R λi=>ls.getD i 0):=by
 obtain⟨p,rfl,pp⟩:=yi hp (List.range ls.length) rfl;have hr:p.Pairwise (SP.R λi=>ls.getD i 0):=by
  have nd:p.Nodup:=pp.nodup_iff.mpr List.nodup_range;unfold Hq at hu;rw[KJ] at hu;refine (hu.and nd).imp λ{i j} h=>?_;have h1:¬ ((nQ ls j).1<(nQ ls i).1\/((nQ ls j).1=(nQ ls i).1/\(nQ ls j).2<(nQ ls i).2)):=of_decide_eq_false h.1;have h1':¬ (ls.getD j 0<ls.getD i 0\/(ls.getD j 0=ls.getD i 0/\(j:Int)<(i:Int))):=h1;show ls.getD i 0<ls.getD j 0\/(ls.getD i 0=ls.getD j 0/\i<j);have:=h.2;lia
 rw[Bn pp hr];exact⟨rfl,hr⟩
theorem C6(h:(aI ls).Pairwise (SP.R λi=>ls.getD i 0)):(aI ls).Pairwise λi j=>aY ls i<=aY ls j:=h.imp λ{i j} h=>by
 have h':ls.getD i 0<=ls.getD j 0:=h.le;unfold aY;lia
theorem uk:∀(k:Nat) (w acc:List Nat),w.length=k->(∀c∈w,c=48\/c=49)->bw (Cw.val w:Int) k acc=w++acc:=by
 intro k
 induction k with
 |zero=>intro w acc h _;rw[Kk.mp h];rfl
 |succ k ih =>
  intro w acc h hb;obtain⟨v,c,rfl⟩:∃v c,w=v++[c]:=by
   rcases L0 w with e|⟨v,c,e⟩
   ·rw[e] at h;cases h
   ·exact⟨v,c,by rw[e,Mt]⟩
  have hc:=hb c (by simp)
  have ev:Cw.val (v++[c])=2*Cw.val v+(c-48):=by
   rw[Cw.gE];rcases hc with rfl|rfl
   ·simp[Cw.val];lia
   ·simp[Cw.val];lia
  rw[bw];have e1:((Cw.val (v++[c]):Nat):Int) / 2=(Cw.val v:Int):=by rw[ev];lia
  have e2:dg ((Cw.val (v++[c]):Nat):Int)=c:=by
   unfold dg;rw[ev];rcases hc with rfl|rfl
   ·have:((2*Cw.val v+(48-48):Nat):Int) % 2=0:=by lia
    rw[this];rfl
   ·have:((2*Cw.val v+(49-48):Nat):Int) % 2=1:=by lia
    rw[this];rfl
  rw[e1,e2,ih v (c::acc) (by rw[IL,Lw] at h;lia) (λx hx=>hb x (by simp[hx])),Jl]
  rfl
theorem xE(ls:List Int):Kr.ks 40 ((aI ls).map (aY ls))=KS ls:=by
 unfold KS;refine Kr.i5 ?_;have e:ls.map Int.toNat=(List.range ls.length).map (aY ls):=by
  apply KU
  ·simp
  ·intro i h1 h2;have hi:i<ls.length:=by simpa using h1
   simp[aY,hi]
 rw[e];exact (j6 (by rw[JA])).map _
structure At (ls:List Int) (done todo:List Nat) (a:Option (List Nat)) (n h:Int):Prop where
 all:done++todo=aI ls
 st:(a=none/\done=[]/\n=-1/\h=0)\/∃w,a=some w/\n=(Cw.val w:Int)/\h=(w.length:Int)/\Cw.hU (done.map (aY ls)) w/\∀t∈todo,w.length<=aY ls t
noncomputable def kK(a:Option (List Nat))(l:Nat):List Nat:=match a with|none=>List.replicate l 48|some v=>Cw.eZ v l
theorem At.next{ls:List Int}{todo:List Nat}{a:Option (List Nat)}{n h:Int}{t:Nat}(x:At ls done (t::todo) a n h)(hL:jl ls)(ho:nj ls=true)(hu:(aI ls).Pairwise λi j=>aY ls i<=aY ls j):
  ∃d:Nat,(aY ls t:Int)-h=d/\d<=aY ls t/\(n+1)*2^d=(Cw.val (kK a (aY ls t)):Int)/\(kK a (aY ls t)).length=aY ls t/\(∀c∈kK a (aY ls t),c=48\/c=49)/\At ls (done++[t]) todo (some (kK a (aY ls t))) (Cw.val (kK a (aY ls t)):Int) (aY ls t:Int):=by
 have hall:(done++[t])++todo=aI ls:=by rw[Jl];exact x.all
 have htl:aY ls t<=40:=by
  have h:=i9 (ls:=ls) (t:=t) (by rw[<- x.all];simp)
  have:=hL.2.2 _ (Ji h);unfold aY;rw[Jc,IJ h];show ls[t].toNat<=40;lia
 have hk:Kr.ks 40 ((done++[t]++todo).map (aY ls))<=2^40:=by rw[hall,xE];exact JJ ho
 rw[Jm,Jm,Kr.cE,Kr.cE] at hk;have hle:∀u∈todo,aY ls t<=aY ls u:=λu hu'=>by
  rw[<- x.all] at hu;exact (J5.mp (JX.mp hu).2.1).1 u hu'
 rcases x.st with ⟨rfl,rfl,rfl,rfl⟩|⟨w,rfl,rfl,rfl,hH,hw⟩
 ·refine⟨aY ls t,by lia,IU _,?_,Je ..,λc hc=>.inl (JV.mp hc).2,hall,.inr ⟨_,rfl,rfl,by rw[show kK none (aY ls t)=List.replicate (aY ls t) 48 from rfl,Je],Cw.hU.first htl,λu hu'=>by rw[show kK none (aY ls t)=List.replicate (aY ls t) 48 from rfl,Je];exact hle u hu'⟩⟩
  rw[show kK none (aY ls t)=List.replicate (aY ls t) 48 from rfl,Cw.e_];simp
 ·have hwt:=hw t IZ;have hk2:Kr.ks 40 (done.map (aY ls))+2^(40-aY ls t)<=2^40:=by
   simp only[Jy,LM,Kr.ks] at hk;lia
  have hz:=hH.zero (rest:=[]) hk2;have hN:=hH.next hwt htl hk2;refine⟨aY ls t-w.length,by lia,Nat.sub_le _ _,?_,Cw.e8 hwt,Cw.mx hH.bits,hall,.inr ⟨_,rfl,rfl,by rw[show kK (some w) (aY ls t)=Cw.eZ w (aY ls t) from rfl,Cw.e8 hwt],by rw[Jm];exact hN,λu hu'=>by rw[show kK (some w) (aY ls t)=Cw.eZ w (aY ls t) from rfl,Cw.e8 hwt];exact hle u hu'⟩⟩
  rw[show kK (some w) (aY ls t)=Cw.eZ w (aY ls t) from rfl,Cw.ou hH.bits hz];simp
theorem iX:∀(k:Nat) (n:Int) (acc:List Nat),bw n k acc=bw n k []++acc
 |0,_,_=>rfl
 |k+1,n,acc=>by
  rw[bw,bw,iX k (n / 2) (dg n::acc),iX k (n / 2) [dg n],Jl];rfl
theorem rf(k:Nat)(n:Int):bw n (k+1) []=bw (n / 2) k []++[dg n]:=by rw[bw,iX]
theorem wB(w:List Nat)(c:Nat):Cw.val (w++[c])=2*Cw.val w+(c-48):=by
 rw[Cw.gE];simp[Cw.val];lia
theorem iS:∀(k:Nat) (n:Int),(Cw.val (bw n k []):Int)=n % 2^k
 |0,n=>by simp[bw,Cw.val,Int.emod_one]
 |k+1,n=>by
  rw[rf,wB];have ih:=iS k (n / 2);have hd:((dg n-48:Nat):Int)=n % 2:=by unfold dg;have:=Ll n (show (2:Int)≠0 by decide);lia
  have e:(2:Int)*((n / 2) % 2^k)+n % 2=n % 2^(k+1):=by
   have h1:=Mv n 2;have h2:=Mv (n / 2) (2^k);have hp:(0:Int)<2^k:=MW (by decide)
   have h3:=Ll (n / 2) (Int.ne_of_gt hp);have h4:=Lm (n / 2) hp;have h5:=Ll n (show (2:Int)≠0 by decide)
   have h6:=Lm n (show (0:Int)<2 by decide)
   rw[N3];have key:n=(2*((n / 2) % 2^k)+n % 2)+(2^k*2)*((n / 2) / 2^k):=by
    rw[NZ,Int.mul_left_comm];generalize 2^k*(n / 2 / 2^k)=y at h2 ⊢;lia
   generalize hr:2*((n / 2) % 2^k)+n % 2=r at key ⊢;generalize (n / 2) / 2^k=y at key;rw[key,Int.add_mul_emod_self_left,Ma (by lia) (by lia)]
  push_cast
  rw[ih,hd,e]
theorem pR:∀(cs:List Nat) (a:Nat),cs.foldl (λa c=>a*2+(c-48)) a=a*2^cs.length+Cw.val cs
 |[],a=>by simp[Cw.val]
 |c::cs,a=>by
  rw[Mz,pR cs,Cw.val,Jd,ME,Nat.add_mul];rw[LG,Nat.mul_comm 2 (2^cs.length),Mj]
theorem ug(cs:List Nat):jO cs=Cw.val cs:=by
 unfold jO;rw[pR,Nat.zero_mul,Lz]
theorem xa:∀{cs:List Nat},(∀c∈cs,c=48\/c=49)->Cw.val cs<2^cs.length
 |[],_=>by decide
 |c::cs,h=>by
  have ih:=xa (cs:=cs) λx hx=>h x (IV _ hx);rw[Cw.val,Jd,ME];rcases h c IZ with rfl|rfl<;>simp<;>lia
theorem pJ(n:Nat):∀c∈dZ n,c=48\/c=49:=fv _ _ _ λc hc=>by cases hc
theorem ny(n:Nat):(dZ n).length=bE n:=by unfold dZ;rw[dc];rfl
theorem ki{n:Nat}(h:0<n):2^(bE n-1)<=n/\n<2^bE n/\0<bE n:=by
 have e:bE n=n.log2+1:=by
  unfold bE Builtin.Int.intBits;rw[IT (by simp;lia)]
  rfl
 rw[e];exact⟨Nat.log2_self_le (by lia),Nat.lt_log2_self,Nat.succ_pos _⟩
theorem sN{n:Nat}(h:0<n):Cw.val (dZ n)=n:=by
 have h1:=iS (bE n) (n:Int);have h2:=(ki h).2.1;have e:(n:Int) % 2^bE n=n:=Ma (by lia) (by exact_mod_cast h2)
 rw[e] at h1;unfold dZ
 exact_mod_cast h1
theorem zy{n:Nat}(h:0<n):dZ n=49::(dZ n).tail:=by
 obtain⟨b1,b2,b3⟩:=ki h;have hl:=ny n;have hv:=sN h;have hb:=pJ n
 cases e:dZ n with
 |nil=>rw[e] at hl;simp at hl;lia
 |cons c r =>
  rw[e] at hl hv hb;rcases hb c IZ with rfl|rfl
  ·exfalso
   have:=xa (cs:=r) λx hx=>hb x (IV _ hx);rw[Jd] at hl;rw[<- hl,LU] at b1;simp[Cw.val] at hv;lia
  ·rfl
theorem zQ{n:Nat}(h:0<n):jO (49::(dZ n).tail)=n:=by rw[<- zy h,ug,sN h]
theorem u9{n:Nat}(h:bE n=0):n=0:=by
 rcases LV n with e|e
 ·exact e
 ·have:=(ki e).2.2;lia
inductive Kd where
 |box|num|go
noncomputable def Kd.s:Kd->Str
 |.box=>Str.ofString "box"
 |.num=>Str.ofString "number"
 |.go=>Str.ofString "goal"
inductive PV where
 |box (b:Nat)|num (n:Nat)|go (d:Int)
noncomputable def kT(cd:List (List (List Nat)))(z:List Nat)(p:Nat):Kd->Option (PV×Nat)
 |.box=>(jo (cd.getD 2 []) z p).map λx=>(.box x.1,x.2)
 |.num=>(yT (cd.getD 1 []) z p).map λx=>(.num x.1,x.2)
 |.go=>(gA z p).map λx=>(.go x.1,x.2)
structure qh (cd:List (List (List Nat))):Prop where
 fH:Cd cd
 pf:∀w∈cd,Pf w
noncomputable def Bo(i:Nat):List Kd:=[[Kd.box,.num],[.box,.box],[.box,.box],[.box,.box],[.box],[.box],[.go],[.box,.go],[]].getD i []
noncomputable def qg(cd:List (List (List Nat)))(z:List Nat):List Kd->Nat->Option (List (PV×Nat)×Nat)
 |[],p=>some ([],p)
 |k::ks,p=>(kT cd z p k).bind λx=>(qg cd z ks x.2).map λy=>(x::y.1,y.2)
structure RW where
 wi:Nat
 vs:List (PV×Nat)
noncomputable def zE(cd:List (List (List Nat)))(z:List Nat)(p:Nat):Option (RW×Nat):=(jo (cd.getD 0 []) z p).bind λx=>(qg cd z (Bo x.1) x.2).map λy=>(⟨x.1,y.1⟩,y.2)
noncomputable def vC(cd:List (List (List Nat)))(z:List Nat)(p:Int):Option (RW×Nat):=if p<0 then none else zE cd z p.toNat
theorem sQ(cd:List (List (List Nat)))(z:List Nat)(p:Nat):vC cd z (p:Int)=zE cd z p:=by
 unfold vC;rw[IT (by lia),Jw]
theorem Bl(h:i<9):KTD.datumAt (bW.getD i (Str.ofString "")) dh=some ((Bo i).map Kd.s):=by
 have:i=0\/i=1\/i=2\/i=3\/i=4\/i=5\/i=6\/i=7\/i=8:=by lia
 rcases this with rfl|rfl|rfl|rfl|rfl|rfl|rfl|rfl|rfl<;>decide +kernel
theorem Pf.nd(h:Pf ws):ws.Nodup:=by
 unfold List.Nodup;rw[KN];intro i j hi hj hij e;exact h.pre i j hi hj (Jr hij) (by rw[e];exact LC _)
noncomputable def PV.n:PV->Int
 |.box b=>(b:Int)
 |.num n=>(n:Int)
 |.go d=>d
noncomputable def Kd.c:Kd->Nat
 |.box=>98
 |.num=>110
 |.go=>103
structure Iz (cd:List (List (List Nat))):Prop extends qh cd where
 IA:∀ws∈cd,∀w∈ws,w.length<=20
theorem vV{x:Nat×Nat}(hne:∀w∈ws,w≠[])(h:yT ws z p=some x):p<x.2/\x.2<=z.length:=by
 unfold yT at h
 cases c:jo ws z p with
 |none=>rw[c] at h;cases h
 |some y =>
  rw[c] at h;obtain⟨_,_,h3,h4⟩:=eN hne c;dsimp only at h
  split at h
  ·cases h;exact⟨h3,h4⟩
  ·split at h
   ·rename_i hl;cases h;exact⟨by show p<y.2+_;lia,hl⟩
   ·cases h
theorem BP{x:Int×Nat}(h:gA z p=some x):p<x.2/\x.2<=z.length:=by
 unfold gA at h
 cases c:jo sh z p with
 |none=>rw[c] at h;cases h
 |some y =>
  rw[c] at h;obtain⟨_,_,h3,h4⟩:=eN m8 c;dsimp only at h
  split at h
  ·rename_i hl;cases h;exact⟨by show p<y.2+_;lia,hl⟩
  ·cases h
theorem xy{cd:List (List (List Nat))}{k:Kd}{x:PV×Nat}(hR:qh cd)(h:kT cd z p k=some x):p<x.2/\x.2<=z.length/\(∀b,x.1=.box b->b<8):=by
 obtain⟨c0,c1,c2,rfl,l0,l1,l2⟩:=hR.fH.ex;have n1:=(hR.pf c1 (by simp)).ne
 have n2:=(hR.pf c2 (by simp)).ne
 cases k with
 |box =>
  replace h:(jo c2 z p).map (λx=>(PV.box x.1,x.2))=some x:=h
  cases c:jo c2 z p with
  |none=>rw[c] at h;cases h
  |some y=>rw[c] at h;cases h;obtain⟨h1,_,h3,h4⟩:=eN n2 c;exact⟨h3,h4,λb e=>by cases e;lia⟩
 |num =>
  replace h:(yT c1 z p).map (λx=>(PV.num x.1,x.2))=some x:=h
  cases c:yT c1 z p with
  |none=>rw[c] at h;cases h
  |some y=>rw[c] at h;cases h;exact⟨(vV n1 c).1,(vV n1 c).2,λb e=>by cases e⟩
 |go =>
  replace h:(gA z p).map (λx=>(PV.go x.1,x.2))=some x:=h
  cases c:gA z p with
  |none=>rw[c] at h;cases h
  |some y=>rw[c] at h;cases h;exact⟨(BP c).1,(BP c).2,λb e=>by cases e⟩
theorem cY.app{x y:List Nat}(hx:cY x)(hy:cY y):cY (x++y):=λc hc=>(JG.mp hc).elim (hx c) (hy c)
theorem cY.rep(n:Nat){v:Nat}(h:v=48\/v=49):cY (List.replicate n v):=λc hc=>by rw[(JV.mp hc).2];exact h
theorem zG{w:List Nat}{n:Nat}(h:cY w):cY (Cw.eK w n):=by
 unfold Cw.eK Cw.pad;refine cY.app (cY.app (λc hc=>h c ?_) λc hc=>.inr (Jg.mp hc)) (cY.rep _ (.inl rfl));have h1:=K1.mp (List.dropLast_subset _ hc);exact K1.mp ((Me _).subset h1)
theorem uq{o:List Nat}:∀{a:Option (List Nat)} {ws:List (List Nat)},(∀v,a=some v->cY v)->(∀x∈ws,cY x)->∀x∈(Cw.along Cw.eK ln o (a,ws)).2,cY x:=by
 induction o with
 |nil=>exactλ_ h=>h
 |cons t o ih =>
  intro a ws ha hw
  cases a with
  |none =>
   refine ih (a:=some (List.replicate (ln t) 48)) (λv e=>by cases e;exact cY.rep _ (.inl rfl)) λx hx=>?_
   rcases Kb hx with z|z
   ·exact hw x z
   ·rw[z];exact cY.rep _ (.inl rfl)
  |some v =>
   have hv:=zG (n:=ln t) (ha v rfl);refine ih (a:=some (Cw.eK v (ln t))) (λv e=>by cases e;exact hv) λx hx=>?_
   rcases Kb hx with z|z
   ·exact hw x z
   ·rw[z];exact hv
theorem uE(ls:List Int):∀x∈wordsOf Cw.eK ls,cY x:=uq (λv e=>by cases e) λx hx=>by rw[(JV.mp hx).2];exactλc hc=>by cases hc
theorem oK{cd:List (List (List Nat))}(h:∀ws∈cd,∀w∈ws,cY w)(r:Row):cY (bK cd r):=by
 have at2:∀p,cY (aX cd p):=λp=>by
  unfold aX;rw[Jc,Jc]
  cases e:cd[p.1]? with
  |none=>exactλc hc=>by cases hc
  |some ws =>
   show cY (ws[p.2]?.getD [])
   cases e2:ws[p.2]? with
   |none=>exactλc hc=>by cases hc
   |some w=>exact h ws (JF e) w (JF e2)
 unfold bK;refine cY.app (λc hc=>?_) ?_
 ·obtain⟨p,_,hp⟩:=List.mem_flatMap.mp hc;exact at2 p c hp
 ·cases r with
  |put b n=>exactλc hc=>pJ n c (List.mem_of_mem_tail hc)
  |two=>exactλc hc=>by cases hc
  |one=>exactλc hc=>by cases hc
  |jump=>exactλc hc=>by cases hc
  |zero=>exactλc hc=>by cases hc
  |halt=>exactλc hc=>by cases hc
theorem yJ(bk:List (List Int)):∀ws∈a_ bk,∀w∈ws,cY w:=λws hw=>by
 obtain⟨l,_,rfl⟩:=JD.mp hw;exact uE l
theorem eX{cd:List (List (List Nat))}(hC:Cd cd){r:Row}(hr:r.Ok k):(bK cd r).length<=136:=by
 have:=wG hC hr;unfold bK;rw[IL];lia
inductive df where
 |put (b n:Nat)|two (w:Fin 3) (a b:Nat)|one (w:Fin 2) (b:Nat)|jump (g:Int)|zero (b:Nat) (g:Int)|halt
inductive BA where
 |s (z:Str)|n (k:Int)
noncomputable def df.ps:df->List BA
 |.put b n=>[.s "put",.s (cF b),.n (n:Nat)]
 |.two w a b=>[.s (w2 w),.s (cF a),.s (cF b)]
 |.one w b=>[.s (w1 w),.s (cF b)]
 |.jump g=>[.s "jump",.n g]
 |.zero b g=>[.s "zero",.s (cF b),.n g]
 |.halt=>[.s "halt"]
noncomputable def df.Ok:df->Prop
 |.put b _=>b<8
 |.two _ a b=>a<8/\b<8
 |.one _ b=>b<8
 |.jump _=>True
 |.zero b _=>b<8
 |.halt=>True
noncomputable def df.rel(e:Int):df->df
 |.jump g=>.jump (g-e)
 |.zero b g=>.zero b (g-e)
 |r=>r
noncomputable def rQ(x:RW×Nat):df:=match x.1.vs with
 |[(.box b,_)]=>.one (if x.1.wi=4 then 0 else 1) b
 |[(.go d,e)]=>.jump ((e:Int)+d)
 |[(.box a,_),(.box b,_)]=>.two (if x.1.wi=1 then 0 else if x.1.wi=2 then 1 else 2) a b
 |[(.box b,_),(.num n,_)]=>.put b n
 |[(.box b,_),(.go d,e)]=>.zero b ((e:Int)+d)
 |_=>.halt
theorem Hx{cd:List (List (List Nat))}{k:Kd}{y:List (PV×Nat)×Nat}(h:qg cd z [k] p=some y):∃x,kT cd z p k=some x/\y=([x],x.2):=by
 obtain⟨x,hx,h⟩:=Le.mp h;cases h;exact⟨x,hx,rfl⟩
theorem Ga{cd:List (List (List Nat))}{k l:Kd}{y:List (PV×Nat)×Nat}(h:qg cd z [k,l] p=some y):∃x x',kT cd z p k=some x/\kT cd z x.2 l=some x'/\y=([x,x'],x'.2):=by
 obtain⟨x,hx,h⟩:=Le.mp h;obtain⟨y',hy,rfl⟩:=Jp.mp h;obtain⟨x',hx',rfl⟩:=Hx hy;exact⟨x,x',hx,hx',rfl⟩
theorem eL{cd:List (List (List Nat))}{x:PV×Nat}(hR:qh cd)(h:kT cd z p .box=some x):∃b e,x=(.box b,e)/\b<8:=by
 have h8:=(xy hR h).2.2;obtain⟨v,_,rfl⟩:=Jp.mp h;exact⟨_,_,rfl,h8 _ rfl⟩
theorem DF{cd:List (List (List Nat))}{x:PV×Nat}(h:kT cd z p .num=some x):∃n e,x=(.num n,e):=by
 obtain⟨v,_,rfl⟩:=Jp.mp h;exact⟨_,_,rfl⟩
theorem Cc{cd:List (List (List Nat))}{x:PV×Nat}(h:kT cd z p .go=some x):∃d e,x=(.go d,e):=by
 obtain⟨v,_,rfl⟩:=Jp.mp h;exact⟨_,_,rfl⟩
theorem DN{cd:List (List (List Nat))}{ks:List Kd}{y:List (PV×Nat)×Nat}(hR:qh cd)(h:qg cd z ks p=some y):p<=y.2/\(p<=z.length->y.2<=z.length):=by
 induction ks generalizing p y with
 |nil=>cases h;exact⟨IU _,id⟩
 |cons k ks ih =>
  rw[qg] at h;obtain⟨x,hx,h⟩:=Le.mp h;obtain⟨y',hy,rfl⟩:=Jp.mp h;obtain⟨i1,i2⟩:=ih hy;obtain⟨j1,j2,_⟩:=xy hR hx;exact⟨by show p<=y'.2;lia,λ_=>i2 j2⟩
theorem vJ(hL:jl ls)(ho:nj ls=true):Pf (wordsOf Cw.eK ls):=by
 have hc:=canon hL (JJ ho);have hg:∀(i:Nat) (h:i<(wordsOf Cw.eK ls).length),(wordsOf Cw.eK ls)[i]=(wordsOf Cw.eK ls).getD i []:=λi h=>by
  rw[Jc,IJ h];rfl
 refine⟨λw hw e=>?_,λi j hi hj hne hp=>?_⟩
 ·obtain⟨i,hi,rfl⟩:=MH.mp hw;have hi':i<ls.length:=by rw[<- hc.len];exact hi
  have h1:=hc.Fs i hi';rw[<- hg i hi,e,Ka] at h1;unfold aY at h1;rw[Jc,IJ hi'] at h1;have h2:=hL.2.2 _ (Ji hi');have h1':0=(ls[i]).toNat:=h1;lia
 ·have hi':i<ls.length:=by rw[<- hc.len];exact hi
  have hj':j<ls.length:=by rw[<- hc.len];exact hj
  rw[hg i hi,hg j hj] at hp;have:(ls.getD i 0<ls.getD j 0\/(ls.getD i 0=ls.getD j 0/\i<j))\/(ls.getD j 0<ls.getD i 0\/(ls.getD j 0=ls.getD i 0/\j<i)):=by lia
  rcases this with h|h
  ·exact (hc.part i j hi' hj' h).not.1 hp
  ·exact (hc.part j i hj' hi' h).not.2 hp
theorem A8{bk:List (List Int)}(h:Bk bk):∀ws∈a_ bk,Pf ws:=λws hw=>by
 obtain⟨l,hl,rfl⟩:=JD.mp hw;obtain⟨a,b,c,e,_,_,_,h4⟩:=h;exact vJ (h4 l hl).1 (h4 l hl).2
theorem fZ{bk:List (List Int)}(h:Bk bk):Iz (a_ bk):=by
 refine⟨⟨h.cd,A8 h⟩,λws hw w hw2=>?_⟩;obtain⟨l,hl,rfl⟩:=JD.mp hw;obtain⟨a,b,c,e,_,_,_,h4⟩:=h;have hc:=canon (h4 l hl).1 (JJ (h4 l hl).2);obtain⟨i,hi,rfl⟩:=MH.mp hw2;have hi':i<l.length:=by rw[<- hc.len];exact hi
 have h1:=hc.Fs i hi';rw[Jc,IJ hi] at h1;unfold aY at h1;rw[Jc,IJ hi'] at h1;have h2:=(h4 l hl).1.2.2 _ (Ji hi');have h3:((wordsOf Cw.eK l)[i]).length=(l[i]).toNat:=h1;lia
noncomputable def Hm.v:Hm->V
 |.s z=>.str z
 |.n k=>.int (k:Nat)
noncomputable def Row.vs(r:Row):List V:=r.ps.map Hm.v
noncomputable def Pk.v:Pk->V
 |.box b=>.str (cF b)
 |.num n=>.int (n:Nat)
 |.goal g=>.int (g:Nat)
theorem Row.Cp(r:Row):r.vs=.str r.wd::r.fG.map Pk.v:=by cases r<;>rfl
noncomputable def PV.v(behind:Nat):PV->V
 |.box b=>.str (cF b)
 |.num n=>.int (n:Int)
 |.go d=>.int ((behind:Int)+d)
noncomputable def PV.l:PV->V
 |.box b=>.str (cF b)
 |.num n=>.int (n:Int)
 |.go d=>.int d
noncomputable def RW.v(r:RW):List V:=.str (bW.getD r.wi (Str.ofString ""))::r.vs.map λx=>x.1.v x.2
noncomputable def RW.l(r:RW):List V:=.str (bW.getD r.wi (Str.ofString ""))::r.vs.map λx=>x.1.l
noncomputable def BA.v:BA->V
 |.s z=>.str z
 |.n k=>.int k
noncomputable def df.vs(r:df):List V:=r.ps.map BA.v
theorem GP{cd:List (List (List Nat))}{x:RW×Nat}(hR:qh cd)(h:zE cd z p=some x):(rQ x).Ok/\x.1.v=(rQ x).vs/\x.1.l=((rQ x).rel x.2).vs/\p<x.2/\x.2<=z.length:=by
 obtain⟨c0,c1,c2,rfl,l0,l1,l2⟩:=hR.fH.ex;obtain⟨v,hv,h⟩:=Le.mp h;obtain⟨y,hy,rfl⟩:=Jp.mp h;obtain⟨w1,_,w3,w4⟩:=eN (hR.pf c0 (by simp)).ne hv
 obtain⟨i1,i2⟩:=DN hR hy;obtain⟨wi,e⟩:=v;dsimp only at *;refine and_assoc.mp (and_assoc.mp ⟨?_,by show p<y.2;lia,i2 w4⟩)
 have far:∀(e:Nat) (d:Int),(e:Int)+d-(e:Int)=d:=λe d=>by lia
 have:wi=0\/wi=1\/wi=2\/wi=3\/wi=4\/wi=5\/wi=6\/wi=7\/wi=8:=by lia
 rcases this with rfl|rfl|rfl|rfl|rfl|rfl|rfl|rfl|rfl
 ·obtain⟨x,x',hx,hx',rfl⟩:=Ga hy;obtain⟨b,e,rfl,hb⟩:=eL hR hx;obtain⟨n,e',rfl⟩:=DF hx';exact⟨⟨hb,rfl⟩,rfl⟩
 ·obtain⟨x,x',hx,hx',rfl⟩:=Ga hy;obtain⟨b,e,rfl,hb⟩:=eL hR hx;obtain⟨n,e',rfl,hb'⟩:=eL hR hx';exact⟨⟨⟨hb,hb'⟩,rfl⟩,rfl⟩
 ·obtain⟨x,x',hx,hx',rfl⟩:=Ga hy;obtain⟨b,e,rfl,hb⟩:=eL hR hx;obtain⟨n,e',rfl,hb'⟩:=eL hR hx';exact⟨⟨⟨hb,hb'⟩,rfl⟩,rfl⟩
 ·obtain⟨x,x',hx,hx',rfl⟩:=Ga hy;obtain⟨b,e,rfl,hb⟩:=eL hR hx;obtain⟨n,e',rfl,hb'⟩:=eL hR hx';exact⟨⟨⟨hb,hb'⟩,rfl⟩,rfl⟩
 ·obtain⟨x,hx,rfl⟩:=Hx hy;obtain⟨b,e,rfl,hb⟩:=eL hR hx;exact⟨⟨hb,rfl⟩,rfl⟩
 ·obtain⟨x,hx,rfl⟩:=Hx hy;obtain⟨b,e,rfl,hb⟩:=eL hR hx;exact⟨⟨hb,rfl⟩,rfl⟩
 ·obtain⟨x,hx,rfl⟩:=Hx hy;obtain⟨d,e,rfl⟩:=Cc hx;refine⟨⟨trivial,rfl⟩,?_⟩;show [_,V.int d]=[_,.int ((e:Int)+d-(e:Int))];rw[far];rfl
 ·obtain⟨x,x',hx,hx',rfl⟩:=Ga hy;obtain⟨b,e,rfl,hb⟩:=eL hR hx;obtain⟨d,e',rfl⟩:=Cc hx';refine⟨⟨hb,rfl⟩,?_⟩;show [_,_,V.int d]=[_,_,.int ((e':Int)+d-(e':Int))];rw[far];rfl
 ·cases hy;exact⟨⟨trivial,rfl⟩,rfl⟩
noncomputable def vG(H:Hp)(ca:Addr)(cd:List (List (List Nat))):Prop:=∃a0 a1 a2,H ca=some (.lst [.ref a0,.ref a1,.ref a2])/\H a0=some (.tup (wV (cd.getD 0 [])))/\H a1=some (.tup (wV (cd.getD 1 [])))/\H a2=some (.tup (wV (cd.getD 2 [])))
theorem vG.keep{ca:Addr}{cd:List (List (List Nat))}(h:vG H ca cd)(k:KB ex H H')(n:ca∉ex)(hx:∀b∈ex,∀xs,H b≠some (.tup xs)):vG H' ca cd:=by
 obtain⟨a0,a1,a2,h1,h2,h3,h4⟩:=h;exact⟨a0,a1,a2,k _ _ h1 n,k _ _ h2 λz=>hx _ z _ h2,k _ _ h3 λz=>hx _ z _ h3,k _ _ h4 λz=>hx _ z _ h4⟩
theorem vG.kb{ca:Addr}{cd:List (List (List Nat))}(h:vG H ca cd)(k:KB [] H H'):vG H' ca cd:=h.keep k (by simp) (by simp)
noncomputable def Hv(H:Hp)(v:V):Option (PV×Nat)->Prop
 |none=>v=.aT
 |some x=>∃t,v=.ref t/\H t=some (.tup [x.1.v x.2,.int (x.2:Nat)])
theorem FC{b:Nat}(h:b<8):bU [V.str "a",.str "b",.str "c",.str "d",.str "e",.str "f",.str "g",.str "h"] (b:Int)=some (.str (cF b)):=by
 show bU (GX.map V.str) (b:Int)=_;exact b7 (by rw[I_,(Eu h).1];rfl)
noncomputable def nY(K:Og):Sp:=λvs H Q _=>∃(ca:Addr) (cd:List (List (List Nat))) (z:List Nat) (p:Nat) (k:Kd),vs=[.str k.s,.ref ca,.str (wd z),.int (p:Nat)]/\vG H ca cd/\qh cd/\cY z/\z.length<=1000000/\∀v H',KB [] H H'->Hv H' v (kT cd z p k)->Q v H'
theorem vz(T:Txt K mg)(F:HasFn K mg "part_at" gn ["kind","codes","bits","place"])(hcoded_at:aq P w K mg base bq 2 "coded_at" ["code","bits","place"] (iH K))(hnumber_at:aq P w K mg base bq 3 "number_at" ["code","bits","place"] (uf K))(hgoal_at:aq P w K mg base bq 3 "goal_at" ["bits","place"] (pj K)):aq P w K mg base bq 4 "part_at" ["kind","codes","bits","place"] (nY K):=by
 obtain⟨u1,hg_OF_CLASSES,hr_OF_CLASSES⟩:=T.nG;obtain⟨u2,hg_OF_BOXES,hr_OF_BOXES⟩:=T.rm;obtain⟨aB,hg_BOXES,sB⟩:=T.nK;have hr_BOXES:RelV (.ref aB) (.ref aB):=rfl;refine F.gU kA (λvs H Q E h=>?_) (λf cdv A outer s H vs Q E hr h=>?_)
 ·obtain⟨ca,cd,z,p,k,rfl,_⟩:=h;rfl
 ·have hu:=bo hr;obtain⟨ca,cd,z,p,k,rfl,hc,hR,hb,hz,q⟩:=h;refine⟨_,(Z.ai (Z.d9 (Z.bf bB (Z.v 0) Z.str) (Z.aA (Z.ret (Z.fn hnumber_at (hr.mono (by decide)) rfl av (Z.cons (Z.ix (Z.az K rfl hu) (Z.v 1) (Z.glob rfl hg_OF_CLASSES hr_OF_CLASSES)) (Z.cons (Z.v 2) (Z.cons (Z.v 3) Z.nil)))))) Z.bG)
   (Z.ai (Z.d9 (Z.bf bB (Z.v 0) Z.str) (Z.aA (Z.ret (Z.fn hgoal_at (hr.mono (by decide)) rfl av (Z.cons (Z.v 2) (Z.cons (Z.v 3) Z.nil))))) Z.bG)
   (Z.ai (Z.set (i:=4) kA.nd rfl (by right) (Z.fn hcoded_at (hr.mono (by decide)) rfl av (Z.cons (Z.ix (Z.az K rfl hu) (Z.v 1) (Z.glob rfl hg_OF_BOXES hr_OF_BOXES)) (Z.cons (Z.v 2) (Z.cons (Z.v 3) Z.nil)))))
   (Z.aA (Z.ret (Z.EY (Z.bf fu (Z.v 4) Z.aT) Z.aT (Z.tup (Z.cons (Z.ix (Z.oX K rfl) (Z.glob rfl hg_BOXES hr_BOXES) (Z.ix (Z.az K rfl hu) (Z.v 4) Z.int)) (Z.cons (Z.ix (Z.az K rfl hu) (Z.v 4) Z.int) Z.nil))))))))),?_⟩
  obtain⟨c0,c1,c2,rfl,l0,l1,l2⟩:=hR.fH.ex;have n1:=(hR.pf c1 (by simp)).ne
  have n2:=(hR.pf c2 (by simp)).ne
  obtain⟨a0,a1,a2,g,g0,g1,g2⟩:=hc;have sg:=au g;refine ar λN hN=>?_
  cases k with
  |box =>
   replace q:∀v H',KB [] H H'->Hv H' v ((jo c2 z p).map λx=>(.box x.1,x.2))->Q v H':=q
   exists IT (by decide +kernel:¬ Kd.s .box=Str.ofString "number")
   rw[hN];clear hN N;refine ar λN hN=>?_;exists IT (by decide +kernel:¬ Kd.s .box=Str.ofString "goal")
   rw[hN];clear hN N;refine ar λN hN=>?_;exists sg;refine⟨a2,c2,z,p,rfl,bu.of g2,n2,by lia,hz,λv H1 k1 o1=>?_⟩
   rw[hN];clear hN N
   cases c:jo c2 z p with
   |none =>
    rw[c] at q o1;obtain rfl:v=.aT:=o1;walk_at "rz";exact q _ _ k1 rfl
   |some x =>
    rw[c] at q o1;have hb:=(eN n2 c).1;obtain⟨t,rfl,ht⟩:=o1;exists IT (show ¬ V.ref t=V.aT from V.noConfusion),ax ht;refine⟨aB,_,_,_,rfl,rfl,sB H1,FC (show x.1<8 by lia),?_⟩
    exists ax ht;exact⟨by decide,λb2 hb2=>q _ _ (k1.trans (KB.new hb2)) ⟨b2,rfl,aa⟩⟩
  |num =>
   replace q:∀v H',KB [] H H'->Hv H' v ((yT c1 z p).map λx=>(.num x.1,x.2))->Q v H':=q
   exists IW (show Kd.s .num=Str.ofString "number" from rfl),sg;refine⟨a1,c1,z,p,rfl,bu.of g1,n1,by lia,hb,hz,λv H1 k1 o1=>q v H1 k1 ?_⟩
   cases c:yT c1 z p with
   |none=>rw[c] at o1;exact o1
   |some x=>rw[c] at o1;exact o1
  |go =>
   replace q:∀v H',KB [] H H'->Hv H' v ((gA z p).map λx=>(.go x.1,x.2))->Q v H':=q
   exists IT (by decide +kernel:¬ Kd.s .go=Str.ofString "number")
   rw[hN];clear hN N;refine ar λN hN=>?_;exists IW (show Kd.s .go=Str.ofString "goal" from rfl);refine⟨z,p,rfl,hb,hz,λv H1 k1 o1=>q v H1 k1 ?_⟩
   cases c:gA z p with
   |none=>rw[c] at o1;exact o1
   |some x=>rw[c] at o1;exact o1
noncomputable def Hi(H:Hp)(v:V):Option (RW×Nat)->Prop
 |none=>v=.aT
 |some x=>∃t r,v=.ref t/\H t=some (.tup [.ref r,.int (x.2:Nat)])/\H r=some (.tup x.1.v)
noncomputable def tM(K:Og):Sp:=λvs H Q _=>∃(ca:Addr) (cd:List (List (List Nat))) (z:List Nat) (p:Int),vs=[.ref ca,.str (wd z),.int p]/\vG H ca cd/\qh cd/\cY z/\z.length<=1000000/\∀v H',KB [] H H'->Hi H' v (vC cd z p)->Q v H'
noncomputable def dO:=dh
theorem yr(T:Txt K mg)(F:HasFn K mg "row_at" i6 ["codes","bits","place"])(hcoded_at:aq P w K mg base bq 2 "coded_at" ["code","bits","place"] (iH K))(hpart_at:aq P w K mg base bq 4 "part_at" ["kind","codes","bits","place"] (nY K)):aq P w K mg base bq 5 "row_at" ["codes","bits","place"] (tM K):=by
 obtain⟨u1,hg_OF_WORDS,hr_OF_WORDS⟩:=T.qL;obtain⟨dS,hg_SHAPES,hd0⟩:=T.oF;have hd_SHAPES:lh K dS dO:=hd0;have hr_SHAPES:RelV (.ref dS) (.ref dS):=rfl;clear hd0;refine F.gU cO (λvs H Q E h=>?_) (λf cdv A outer s H vs Q E hr h=>?_)
 ·obtain⟨ca,cd,z,p,rfl,_⟩:=h;rfl
 ·have hu:=bo hr;obtain⟨ca,cd,z,p,rfl,hc,hR,hb,hz,q⟩:=h;refine⟨_,(Z.ai (Z.d9 (Z.bf mh (Z.v 2) Z.int) (Z.aA (Z.ret Z.aT)) Z.bG)
   (Z.ai (Z.set (i:=3) cO.nd rfl (by right) (Z.fn hcoded_at (hr.mono (by decide)) rfl av (Z.cons (Z.ix (Z.az K rfl hu) (Z.v 0) (Z.glob rfl hg_OF_WORDS hr_OF_WORDS)) (Z.cons (Z.v 1) (Z.cons (Z.v 2) Z.nil)))))
   (Z.ai (Z.d9 (Z.bf fu (Z.v 3) Z.aT) (Z.aA (Z.ret Z.aT)) Z.bG)
   (Z.ai (Z.set (i:=4) cO.nd rfl (by right) (Z.ix (Z.az K rfl hu) (Z.ct (qY (D:=dO) K rfl rfl) rfl T.yh (by decide +kernel) (Z.cons (Z.glob rfl hg_SHAPES hr_SHAPES) Z.nil)) (Z.ix (Z.az K rfl hu) (Z.v 3) Z.int)))
   (Z.ai (Z.set (i:=5) cO.nd rfl (by right) (Z.lst (Z.cons (Z.v 4) Z.nil)))
   (Z.ai (Z.set (i:=6) cO.nd rfl (by right) (Z.ix (Z.az K rfl hu) (Z.v 3) Z.int))
   (Z.ai (Z.fQ J6 rfl (Z.seq K rfl (Z.Ij K rfl rfl hg_SHAPES hd_SHAPES (Z.v 4))) (Z.bp (i:=7) cO.nd rfl (by right)) (Z.ai (Z.set (i:=8) cO.nd rfl (by right) (Z.fn hpart_at (hr.mono (by decide)) rfl av (Z.cons (Z.v 7) (Z.cons (Z.v 0) (Z.cons (Z.v 1) (Z.cons (Z.v 6) Z.nil))))))
   (Z.ai (Z.d9 (Z.bf fu (Z.v 8) Z.aT) (Z.aA (Z.ret Z.aT)) Z.bG)
   (Z.ai (Z.expr (Z.bm K rfl PySem.F.plainAttrs_list PySem.F.slot_list_append PySem.F.type_list_append dN (Z.v 5) (Z.cons (Z.ix (Z.az K rfl hu) (Z.v 8) Z.int) Z.nil)))
   (Z.aA (Z.set (i:=6) cO.nd rfl (by right) (Z.ix (Z.az K rfl hu) (Z.v 8) Z.int)))))))
   (Z.aA (Z.ret (Z.tup (Z.cons (Z.ct (Z.dC K rfl) rfl T.dG (by decide +kernel) (Z.cons (Z.v 5) Z.nil)) (Z.cons (Z.v 6) Z.nil)))))))))))),?_⟩
  refine ar λN hN=>?_;by_cases hp:p<0
  ·unfold vC at q;rw[IW hp] at q;exists IW hp;exact q _ _ (KB.refl _ _) rfl
  obtain⟨p,rfl⟩:∃p':Nat,p=(p':Int):=⟨p.toNat,by lia⟩
  rw[sQ] at q;exists IT hp;rw[hN];clear hN N;refine ar λN hN=>?_;obtain⟨c0,c1,c2,rfl,l0,l1,l2⟩:=hR.fH.ex;have n0:=(hR.pf c0 (by simp)).ne
  have hc':=hc;obtain⟨a0,a1,a2,g,g0,g1,g2⟩:=hc';exists au g;refine⟨a0,c0,z,p,rfl,bu.of g0,n0,by lia,hz,λv H1 k1 o1=>?_⟩
  rw[hN];clear hN N;refine ar λN hN=>?_;unfold zE at q
  replace q:∀v H',KB [] H H'->Hi H' v ((jo c0 z p).bind λx=>(qg [c0,c1,c2] z (Bo x.1) x.2).map λy=>(⟨x.1,y.1⟩,y.2))->Q v H':=q
  cases c:jo c0 z p with
  |none =>
   rw[c] at q o1;obtain rfl:v=.aT:=o1;walk_at "rz";exact q _ _ k1 rfl
  |some x =>
   rw[c] at q o1;obtain⟨wi,e⟩:=x;have h9:wi<9:=by have:=(eN n0 c).1;dsimp only at this;lia
   replace q:∀v H',KB [] H H'->Hi H' v ((qg [c0,c1,c2] z (Bo wi) e).map λy=>(⟨wi,y.1⟩,y.2))->Q v H':=q
   obtain⟨t,rfl,ht⟩:=o1;dsimp only at ht;exists if_neg (show ¬ V.ref t=V.aT from V.noConfusion);rw[hN];clear hN N;refine ar λN hN=>?_;have ak:bU (dO.map λp=>V.str p.1) (wi:Int)=some (.str (bW.getD wi (Str.ofString ""))):=b7 (by
    show (bW.map V.str)[wi]?=_;rw[I_,Jc,IJ (show wi<bW.length from h9)];rfl)
   walk_at "rz";refine⟨dS,rfl,hd_SHAPES,by decide,λl hl=>?_⟩
   have k2:KB [] H1 (upd H1 l (.lst (dO.map λp=>V.str p.1))):=KB.new hl;have s2:upd H1 l (.lst (dO.map λp=>V.str p.1)) l=some (.lst (dO.map λp=>V.str p.1)):=aa;generalize upd H1 l (.lst (dO.map λp=>V.str p.1))=H2 at *;have ht2:=k2 _ _ ht (by simp)
   exists ax ht2,au s2,ak;have h02:KB [] H H2:=k1.trans k2;clear k1 k2 s2 hl ht ak;rw[hN];clear hN N;have hlen:(Bo wi).length<=2:=by
    have:wi=0\/wi=1\/wi=2\/wi=3\/wi=4\/wi=5\/wi=6\/wi=7\/wi=8:=by lia
    rcases this with rfl|rfl|rfl|rfl|rfl|rfl|rfl|rfl|rfl<;>decide
   have e1:=Bl h9;generalize hps:Bo wi=ks0 at *;generalize hw9:bW.getD wi (Str.ofString "")=W at *;refine ar λN hN=>?_;walk_at "rz";refine⟨by decide,λrl hrl=>?_⟩
   have k3:KB [] H2 (upd H2 rl (.lst [.str W])):=KB.new hrl;have s3:upd H2 rl (.lst [.str W]) rl=some (.lst [.str W]):=aa;generalize upd H2 rl (.lst [.str W])=H3 at *;have hrl0:H rl=none:=h02.free (by simp) hrl
   have h03:KB [] H H3:=h02.trans k3;have ht3:=k3 _ _ ht2 (by simp)
   rw[hN];clear hN N;refine ar λN hN=>?_;exists ax ht3;rw[hN];clear hN N;refine ar λN hN=>?_;walk_at "rz";refine⟨W,_,rfl,e1,λpk kt=>?_⟩;have st:∀H,bu K H pk ((ks0.map Kd.s).map V.str):=λH=>.inr kt;refine .inr ⟨⟨_,st H3⟩,?_⟩;have kL:∀{H4 H5:Hp},KB [rl] H4 H5->KB [rl] H H4->KB [] H H5:=λa b c o e _=>a _ _ (b _ _ e (by simpa using ao e hrl0)) (by simpa using ao e hrl0)
   refine pB (xs:=(ks0.map Kd.s).map V.str) (λi σ H'=>∃(acc:List (PV×Nat)) (a:Nat) (o7 o8:Option V),i<=ks0.length/\(qg [c0,c1,c2] z ks0 e=(qg [c0,c1,c2] z (ks0.drop i) a).map λy=>(acc++y.1,y.2))/\acc.length=i/\H' rl=some (.lst (.str W::acc.map λx=>x.1.v x.2))/\KB [] H H'/\σ=[some (.ref ca),some (.str (wd z)),some (.int (p:Nat)),some (.ref t),some (.str W),some (.ref rl),some (.int (a:Nat)),o7,o8]) ⟨[],e,none,none,Jj _,by rw[Kj];cases qg [c0,c1,c2] z ks0 e<;>rfl,rfl,s3,h03,rfl⟩ (λi σ H' _ _=>st H') ?_ ?_
   ·rintro i x σ H' hx ⟨acc,a,o7,o8,hi,ep,hacc,hrl',h0',rfl⟩;have hi2:i<ks0.length:=by have:=(IQ.mp hx).1;rw[IP,IP] at this;exact this
    obtain rfl:x=.str (ks0[i]).s:=by
     rw[I_,I_,IJ hi2] at hx;exact (Option.some.inj hx).symm
    rw[JK hi2,qg] at ep;generalize ks0[i]=k at *;unfold bC;refine ar λM hM=>?_;walk_at "rz";refine⟨ca,[c0,c1,c2],z,a,k,rfl,hc.kb h0',hR,hb,hz,λv H5 k5 o5=>?_⟩;rw[hM];clear hM M;have h05:=h0'.trans k5
    cases c3:kT [c0,c1,c2] z a k with
    |none =>
     rw[c3] at ep o5;obtain rfl:v=.aT:=o5;have ep':qg [c0,c1,c2] z ks0 e=none:=ep;rw[ep'] at q;refine ar λM hM=>?_;walk_at "rz";exact q _ _ h05 rfl
    |some x =>
     rw[c3] at ep o5;obtain⟨t5,rfl,ht5⟩:=o5;refine ar λM hM=>?_;exists IT (show ¬ V.ref t5=V.aT from V.noConfusion);rw[hM];clear hM M;refine ar λM hM=>?_;exists ax ht5;have hr5:=k5 _ _ hrl' (by simp)
     refine⟨.inl ⟨rfl,_,ck.of hr5⟩,rl,_,_,rfl,rfl,hr5,Ju (show _<4 by rw[Jd,IP];lia) (by decide),?_⟩
     rw[hM];clear hM M;have nt:t5≠rl:=λz=>by rw[z,hr5] at ht5;cases ht5
     have e6:(V.str W::acc.map λx=>x.1.v x.2)++[x.1.v x.2]=.str W::(acc++[x]).map λx=>x.1.v x.2:=by rw[Jm];rfl
     rw[e6];have s6:upd H5 rl (.lst (.str W::(acc++[x]).map λx=>x.1.v x.2)) rl=_:=aa;have ht6:=(af (o:=HO.lst (.str W::(acc++[x]).map λx=>x.1.v x.2)) (H:=H5) nt).trans ht5;have h06:KB [] H (upd H5 rl (.lst (.str W::(acc++[x]).map λx=>x.1.v x.2))):=λc o e _=>by rw[af (ao e hrl0)];exact h05 _ _ e (by simp)
     generalize upd H5 rl (.lst (.str W::(acc++[x]).map λx=>x.1.v x.2))=H6 at *;dsimp only;refine pz λM hM=>?_;exists ax ht6;rw[hM];refine⟨acc++[x],x.2,some _,some _,hi2,?_,by rw[List.length_append,hacc];rfl,s6,h06,rfl⟩
     rw[ep,LD]
     cases qg [c0,c1,c2] z (ks0.drop (i+1)) x.2 with
     |none=>rfl
     |some y=>show some (acc++(x::y.1),y.2)=some ((acc++[x])++y.1,y.2);rw[Jl];rfl
   ·rintro σ H' ⟨acc,a,o7,o8,_,ep,_,hrl',h0',rfl⟩;rw[IP,IP,KZ] at ep;have ep':qg [c0,c1,c2] z ks0 e=some (acc,a):=by rw[ep];show some (acc++[],a)=_;rw[JE]
    rw[ep'] at q;show N _ _;rw[hN];clear hN N;exists au hrl';intro rt hrt;have k7:KB [] H' (upd H' rt (.tup (.str W::acc.map λx=>x.1.v x.2))):=KB.new hrt;have s7:upd H' rt (.tup (.str W::acc.map λx=>x.1.v x.2)) rt=_:=aa;generalize upd H' rt (.tup (.str W::acc.map λx=>x.1.v x.2))=H7 at *;refine⟨by decide,λtt htt=>q _ _ ((h0'.trans k7).trans (KB.new htt)) ⟨tt,rt,rfl,aa,?_⟩⟩
    rw[af (ao s7 htt),s7];show some (HO.tup (V.str W::_))=some (.tup (RW.v ⟨wi,acc⟩));unfold RW.v;rw[hw9]
noncomputable def BQ(K:Og):Sp:=λvs H Q _=>∃(a:Addr) (ls:List Int),vs=[.ref a]/\H a=some (.tup (iV ls))/\jl ls/\∀H',KB [] H H'->Q (.bl (nj ls)) H'
theorem Dt(T:Txt K mg)(F:HasFn K mg "can_be" iG ["lengths"]):aq P w K mg base bq 1 "can_be" ["lengths"] (BQ K):=by
 refine F.gU cC (λvs H Q E h=>?_) (λf cdv A outer s H vs Q E hr h=>?_)
 ·obtain⟨a,ls,rfl,_⟩:=h;rfl
 ·have hu:=bo hr;obtain⟨a,ls,rfl,ha,hL,q⟩:=h;refine⟨_,(Z.ai (Z.set (i:=1) cC.nd rfl (by right) Z.int)
   (Z.ai (Z.set (i:=2) cC.nd rfl (by right) Z.int)
   (Z.ai (Z.set (i:=3) cC.nd rfl (by right) (Z.cb (Z.cw K rfl) rfl T.cf (by decide +kernel) (Z.cons (Z.v 0) Z.nil)))
   (Z.ai (Z.fQ J6 rfl (Z.any K rfl (Z.cb (Y.uD K rfl) rfl T.kn (by decide +kernel) (Z.cons (Z.v 0) Z.nil))) (Z.bp (i:=4) cC.nd rfl (by right)) (Z.ai (Z.d9 (Z.bf bB (Z.v 1) Z.int) (Z.aA (Z.ret Z.bl)) Z.bG)
   (Z.ai (Z.yZ J6 (Z.tw (Z.vk (Z.bf mh (Z.v 2) (Z.v 4)) (Z.lU (Z.bf mh (Z.v 1) (Z.v 3))))) (Z.ai (Z.set (i:=1) cC.nd rfl (by right) (Z.op bR (Z.v 1) Z.int))
   (Z.aA (Z.set (i:=2) cC.nd rfl (by right) (Z.op (Z.aR K rfl) (Z.v 2) Z.int)))))
   (Z.ai (Z.d9 (Z.bf wq (Z.v 1) (Z.v 3)) (Z.aA (Z.ret Z.bl)) Z.bG)
   (Z.ai (Z.set (i:=1) cC.nd rfl (by right) (Z.op bX (Z.v 1) Z.int))
   (Z.aA (Z.set (i:=3) cC.nd rfl (by right) (Z.op bX (Z.v 3) Z.int))))))))
   (Z.aA (Z.ret Z.bl)))))),?_⟩
  refine ar λN hN=>?_;walk_at "rz";rw[hN];clear hN N;refine ar λN hN=>?_;walk_at "rz";rw[hN];clear hN N;refine ar λN hN=>?_;exists ax ha;rw[hN];clear hN N;refine ar λN hN=>?_;walk_at "rz";refine⟨a,ls,rfl,bu.of ha,by have:=hL.2.1;lia,λrs hp hs l hl=>?_⟩
  have k1:KB [] H (upd H l (.lst (rs.map V.int))):=KB.new hl;have s1:upd H l (.lst (rs.map V.int)) l=some (.lst (iV rs)):=aa;generalize upd H l (.lst (rs.map V.int))=H1 at *;simp only[au s1];refine gC (xs:=iV rs) (λi σ H'=>∃(f d n:Int) (s4:Option V),H1=H'/\(∀x∈rs.drop i,1<=x/\x<=40/\d<=x)/\0<=f/\0<=d/\n=(rs.drop i).length/\(nj ls=true ↔ Kr.fit ((rs.drop i).map Int.toNat) f.toNat d.toNat 40)/\σ=[some (.ref a),some (.int f),some (.int d),some (.int n),s4]) ⟨1,0,_,none,rfl,λx hx=>by have:=hL.2.2 x (hp.mem_iff.mp hx);lia,by decide,by decide,by rw[Kj,hp.length_eq,bA],?_,rfl⟩ ?_ ?_ ?_
  ·unfold nj KS Kr.fit;rw[Ls,Kj,Kr.i5 (hp.map Int.toNat),show (1:Int).toNat*2^(40-(0:Int).toNat)=2^40 from rfl]
  ·rintro i σ H' _ ⟨f,d,n,s4,rfl,_⟩;exact ck.of s1
  ·rintro i x σ H' hx ⟨f,d,n,s4,rfl,hb,f0,d0,hn,hi,rfl⟩;obtain⟨hir,rfl⟩:=nI hx;have ed:=JK hir;have hs2:(rs.drop i).Pairwise (·<=·):=List.Pairwise.drop hs;rw[ed] at hb hn hi hs2;generalize rs[i]=l at *;generalize rs.drop (i+1)=r at *;obtain⟨hl1,hl2,hl3⟩:=hb l (by simp)
   have hle:∀x∈r,l<=x:=(J5.mp hs2).1;unfold bC;refine ar λM hM=>?_;by_cases hf:f=0
   ·exists IW hf;have:nj ls=false:=by
     cases c:nj ls with
     |false=>rfl
     |true=>have:=hi.mp c;rw[hf] at this;exact absurd this Kr.xG
    rw[this] at q;exact q _ k1
   ·exists IT hf;rw[hM];clear hM M;refine ar λM hM=>?_;refine⟨λm σ H'=>H1=H'/\∃f d:Int,0<f/\0<=d/\d<=l/\m=(l-d).toNat/\(nj ls=true ↔ Kr.fit ((l::r).map Int.toNat) f.toNat d.toNat 40)/\σ=[some (.ref a),some (.int f),some (.int d),some (.int n),some (.int l)],⟨_,rfl,f,d,by lia,d0,hl3,rfl,hi,rfl⟩,?_⟩
    rintro m σ H' ⟨rfl,f,d,f0,d0,dl,rfl,hi,rfl⟩;have after:(d=l\/n<=f)->M [some (.ref a),some (.int f),some (.int d),some (.int n),some (.int l)] H1:=λhc=>by
     rw[hM];clear hM M;refine ar λM hM=>?_;by_cases h3:n<=f
     ·exists IW h3;have:nj ls=true:=hi.mpr (Kr.qp (λx hx=>by
       obtain⟨y,hy,rfl⟩:=JD.mp hx;rcases IX.mp hy with rfl|hy
       ·lia
       ·have:=hle y hy;lia) (by rw[IP];lia))
      rw[this] at q;exact q _ k1
     ·exists IT h3;rw[hM];clear hM M;refine ar λM hM=>?_;walk_at "rz";rw[hM];clear hM M;refine pz λM hM=>?_;walk_at "rz";rw[hM];have hd:d=l:=hc.resolve_right h3;subst hd;refine⟨f-1,d,n-1,some _,rfl,λx hx'=>⟨(hb x (by simp[hx'])).1,(hb x (by simp[hx'])).2.1,hle x hx'⟩,by lia,d0,by rw[hn,Jd];lia,?_,rfl⟩
      rw[hi,Jy,Kr.wY (by lia),show (f-1).toNat=f.toNat-1 by lia]
    by_cases c1:d<l
    ·by_cases c2:f<n
     ·exists IW c1,IW c2;refine⟨λσ' H'=>∃m',m'<(l-d).toNat/\(H1=H'/\∃f d:Int,0<f/\0<=d/\d<=l/\m'=(l-d).toNat/\(nj ls=true ↔ Kr.fit ((l::r).map Int.toNat) f.toNat d.toNat 40)/\σ'=[some (.ref a),some (.int f),some (.int d),some (.int n),some (.int l)]),λ_ _ h=>h,?_⟩;refine⟨.inr (by decide),?_⟩
      refine⟨_,?_,rfl,f*2,d+1,by lia,by lia,by lia,rfl,?_,rfl⟩
      ·lia
      ·rw[hi,Kr.qM (l:=l.toNat) (by lia) (by lia),show (f*2).toNat=f.toNat*2 by lia,show (d+1).toNat=d.toNat+1 by lia]
     ·exists IW c1,IT c2;exact after (.inr (by lia))
    ·exists IT c1;exact after (.inl (by lia))
  ·rintro σ H' ⟨f,d,n,s4,rfl,_,_,_,_,hi,rfl⟩;rw[bA,KZ] at hi;show N _ _;rw[hN];clear hN N;walk_at "rz";have:nj ls=true:=hi.mpr (Jj _);rw[this] at q;exact q _ k1
noncomputable def Ik:Option (List Nat)->V
 |none=>.aT
 |some w=>.str (wd w)
theorem mG(ws:List (List Nat)):(wV ws).length=ws.length:=IP ..
noncomputable def zB(K:Og):Sp:=λvs H Q _=>∃(a:Addr) (ls:List Int),vs=[.ref a]/\H a=some (.tup (iV ls))/\jl ls/\nj ls=true/\∀b H',KB [] H H'->H' b=some (.tup (wV (wordsOf Cw.eK ls)))->Q (.ref b) H'
theorem Ar(T:Txt K mg)(F:HasFn K mg "code_of" cP ["lengths"])(hcan_be:aq P w K mg base bq 1 "can_be" ["lengths"] (BQ K))(hword_behind:aq P w K mg base bq 1 "word_behind" ["ahead","length"] GJ):aq P w K mg base bq 4 "code_of" ["lengths"] (zB K):=by
 obtain⟨c,Pt,htab,hcc⟩:=T.oh.ex;refine F.HY e9 (λvs H Q E h=>?_) (λf cdv A outer s H vs Q E hr hm fH h=>?_)
 ·obtain⟨a,ls,rfl,_⟩:=h;rfl
 ·have:=hcc _ _ ⟨hm,fH⟩;subst this;have hu:=bo hr;obtain⟨a,ls,rfl,ha,hL,ho,q⟩:=h;refine⟨_,(Z.ai (Z.d9 (Z.zU (Z.qi K rfl (Z.fn hcan_be (hr.mono (by decide)) rfl av (Z.cons (Z.v 0) Z.nil)))) (Z.aA Z.Iu) Z.bG)
   (Z.ai (Z.setC (j:=1) e9.nd rfl (by right) (osc:=ae cP) (ON:=["lengths","words","ahead","thing"]) (own:=["length"]) (N:=["length","lengths","words","ahead","thing"]) ⟨rfl,by decide +kernel,rfl,by decide +kernel,by decide +kernel,by decide +kernel,by decide +kernel,by decide +kernel⟩ rfl rfl rfl (Z.any K rfl (Z.v 0)) (λ_ _ _ _=>(Z.bp (i:=0) (show List.Nodup (["length","lengths","words","ahead","thing"]:List Str) by decide +kernel) rfl (by right))) (λ_ _ _ _=>Z.sH) (λ_ _ _ _=>Z.str))
   (Z.ai (Z.set (i:=2) e9.nd rfl (by right) Z.aT)
   (Z.ai (Z.fQ J6 rfl (Z.any K rfl (Z.Ff (k:=0) (j:=0) K rfl (by decide) htab rfl rfl rfl rfl rfl T.kn (Z.cons (Z.ct Y.oa rfl T.cT (by decide +kernel) (Z.cons (Z.cb (Z.cw K rfl) rfl T.cf (by decide +kernel) (Z.cons (Z.v 0) Z.nil)) Z.nil)) Z.nil) (hr.mono (by decide)) rfl (by decide) rfl rfl rfl rfl rfl rfl rfl (λ_ _ _ _=>rfl))) (Z.bp (i:=3) e9.nd rfl (by right)) (Z.ai (Z.asg (Z.fn hword_behind (hr.mono (by decide)) rfl av (Z.cons (Z.v 2) (Z.cons (Z.ix (Z.az K rfl hu) (Z.v 0) (Z.v 3)) Z.nil))) (Z.qE (Z.v 1) (Z.v 3)))
   (Z.aA (Z.set (i:=2) e9.nd rfl (by right) (Z.ix (Z.az K rfl hu) (Z.v 1) (Z.v 3))))))
   (Z.aA (Z.ret (Z.ct (Z.dC K rfl) rfl T.dG (by decide +kernel) (Z.cons (Z.v 1) Z.nil)))))))),?_⟩
  refine ar λN hN=>?_;walk_at "rz";refine⟨a,ls,rfl,ha,hL,λH1 k1=>?_⟩;exists ho,N_;rw[IT (λz=>Bool.noConfusion z),hN];clear hN N;have ha1:=k1 _ _ ha (by simp)
  refine ar λN hN=>?_;exists ax ha1;refine cm (xs:=iV ls) (IY (show _<=20 by rw[bA];exact hL.2.1) (by decide)) (λD i ys H'=>H' D=some (.lst ys)/\ys=wV (List.replicate i [])/\KB [] H1 H'/\H1 D=none) (λD hD=>⟨aa,rfl,KB.new hD,hD⟩) (λD i ys H' h=>⟨h.1,by rw[h.2.1,mG,Je]⟩) (λD i ys H' h=>bu.of (h.2.2.1 _ _ ha1 (by simp))) ?_ ?_
  ·rintro D i ys H' x R hx ⟨g1,rfl,g3,g4⟩ kk;walk_at "rz";refine kk _ _ g1 ⟨aa,?_,λb o e _=>?_,g4⟩
   ·rw[List.replicate_succ',wV,wV,Jm];rfl
   ·rw[af (ao e g4)];exact g3 b o e (by simp)
  rintro D ys H2 ⟨g1,rfl,g3,g4⟩;rw[bA] at g1;show N _ _;rw[hN];clear hN N;refine ar λN hN=>?_;walk_at "rz";rw[hN];clear hN N;have h02:=k1.trans g3;have D0:H D=none:=k1.free (by simp) g4
  have ha2:=h02 _ _ ha (by simp)
  refine ar λN hN=>?_;exists ax ha2;refine .inl ⟨_,rfl,λr hr0=>?_⟩;have k3:KB [] H2 (upd H2 r (.ml 0 ((iV ls).length:Nat))):=KB.new hr0;have s3:upd H2 r (.ml 0 ((iV ls).length:Nat)) r=some (.ml 0 (ls.length:Nat)):=by rw[aa,bA]
  generalize upd H2 r (.ml 0 ((iV ls).length:Nat))=H3 at *;have le:(kj ls.length).length=ls.length:=by rw[IP,JA]
  have ha3:=k3 _ _ ha2 (by simp)
  refine⟨r,kj ls.length,ls,rfl,⟨ls.length,s3,rfl⟩,le.symm,by rw[le];have:=hL.2.1;lia,λi v k e1 e2 H' g=>?_,λH4 l g hl=>?_⟩
  ·have hi:i<ls.length:=(IQ.mp e2).1;have e3:(kj ls.length)[i]?=some (.int (i:Int)):=by simp[hi]
   rw[e3] at e1;cases e1;exact⟨_,a,iV ls,rfl,rfl,bu.of (g.same _ _ ha3),b7 (by unfold iV;rw[I_,e2];rfl)⟩
  have eo:jn ls (kj ls.length)=(aI ls).map λk=>V.int ((k:Nat):Int):=A_ ..;rw[eo];have k4:KB [] H3 (upd H4 l (.lst ((aI ls).map λk=>V.int ((k:Nat):Int)))):=λb o e _=>by rw[af (ao (g.same _ _ e) hl)];exact g.same _ _ e
  have s4:upd H4 l (.lst ((aI ls).map λk=>V.int ((k:Nat):Int))) l=_:=aa;have gD4:=k4 _ _ (k3 _ _ g1 (by simp)) (by simp)
  have lD:l≠D:=λz=>by
   have:=g.same _ _ (k3 _ _ g1 (by simp))
   rw[<- z,hl] at this;cases this
  generalize upd H4 l (.lst ((aI ls).map λk=>V.int ((k:Nat):Int)))=H5 at *;have h05:KB [] H H5:=h02.trans (k3.trans k4);have a5:a≠D:=λz=>by rw[z,D0] at ha;cases ha
  clear k3 k4 g hl hr0 s3 ha3 le eo g1 h02 ha2 g3 g4 ha1 k1;refine gC (xs:=(aI ls).map λk=>V.int ((k:Nat):Int)) (λi σ H'=>∃o:Option V,i<=(aI ls).length/\(∀v,(fz ls ((aI ls).take i)).1=some v->v.length<=40)/\H' D=some (.lst (wV (fz ls ((aI ls).take i)).2))/\H' l=some (.lst ((aI ls).map λk=>V.int ((k:Nat):Int)))/\KB [] H H'/\σ=[some (.ref a),some (.ref D),some (Ik (fz ls ((aI ls).take i)).1),o]) ⟨none,Jj _,(λv z=>by cases z),gD4,s4,h05,rfl⟩ (λi σ H' _ h=>by obtain⟨o,_,_,_,h,_⟩:=h;exact ck.of h) ?_ ?_
  ·rintro i x σ H' hx ⟨o,hi,hw,gD,gl,h0,rfl⟩;have hio:i<(aI ls).length:=by have:=(IQ.mp hx).1;rw[IP] at this;exact this
   obtain rfl:x=.int (((aI ls)[i]:Nat):Int):=by
    rw[I_,IJ hio] at hx;exact (Option.some.inj hx).symm
   have hth:(aI ls)[i]<ls.length:=i9 (Ji hio);have eT:(aI ls).take (i+1)=(aI ls).take i++[(aI ls)[i]]:=by rw[KO,IJ hio];rfl
   rw[eT];generalize (aI ls)[i]=th at *;generalize (aI ls).take i=done at *;have ex:bU (iV ls) (th:Int)=some (.int ls[th]):=BM hth;have hlt:=hL.2.2 _ (Ji hth);have en:ls[th]=((aY ls th:Nat):Int):=by
    unfold aY;rw[Jc,IJ hth];simp;lia
   have hn20:aY ls th<=40:=by lia
   have eD:fz ls (done++[th])=Cw.along Cw.eK (aY ls) [th] (fz ls done):=Cw.f7 _ _ _;have hwl:(fz ls done).2.length=ls.length:=EB ls done;have gt:=ax (h0 _ _ ha (by simp))
   obtain⟨n,hn⟩:∃n,aY ls th=n:=⟨_,rfl⟩;rw[hn] at en hn20;have fin:∀y:List Nat,y.length<=40->fz ls (done++[th])=(some y,(fz ls done).2.set th y)->∀M,M=(λσ H'=>∃o:Option V,i+1<=(aI ls).length/\(∀v,(fz ls (done++[th])).1=some v->v.length<=40)/\H' D=some (.lst (wV (fz ls (done++[th])).2))/\H' l=some (.lst ((aI ls).map λk=>V.int ((k:Nat):Int)))/\KB [] H H'/\σ=[some (.ref a),some (.ref D),some (Ik (fz ls (done++[th])).1),o])->M [some (.ref a),some (.ref D),some (.str (wd y)),some (.int (th:Nat))] (upd H' D (.lst ((wV (fz ls done).2).set th (.str (wd y))))):=λy hy e M hM=>by
    rw[hM,e];refine⟨some _,hio,λv z=>by cases z;exact hy,?_,by rw[af lD];exact gl,λb u e _=>by rw[af (ao e D0)];exact h0 _ _ e (by simp),rfl⟩
    rw[aa];unfold wV;rw[L4]
   have xk:j0 (wV (fz ls done).2).length (th:Int)=some th:=by rw[mY (by lia) (by rw[mG,hwl];lia),Jw]
   have setI:∀y:List Nat,bU ((wV (fz ls done).2).set th (.str (wd y))) (th:Int)=some (.str (wd y)):=λy=>b7 (Ln (by rw[mG,hwl];exact hth))
   unfold bC;refine ar λM hM=>?_;exists gt,ex
   cases hs:(fz ls done).1 with
   |none =>
    refine⟨n,hn20,.inl ⟨by rw[en];rfl,?_⟩⟩
    exists gD,xk;rw[hM];clear hM M;dsimp only;refine pz λM hM=>?_;exists setI;refine fin _ (by rw[List.length_replicate];exact hn20) ?_ M hM
    rw[eD];generalize fz ls done=st at *;obtain⟨x,ws⟩:=st;obtain rfl:x=none:=hs;subst hn;rfl
   |some v =>
    refine⟨n,hn20,.inr ⟨v,by rw[en];rfl,hw v hs,?_⟩⟩
    exists gD,xk;rw[hM];clear hM M;dsimp only;refine pz λM hM=>?_;exists setI;refine fin _ (sR (hw v hs) hn20) ?_ M hM;rw[eD];generalize fz ls done=st at *;obtain⟨x,ws⟩:=st;obtain rfl:x=some v:=hs;subst hn;rfl
  ·rintro σ H' ⟨o,_,_,gD,_,h0,rfl⟩;rw[IP,Ke] at gD;show N _ _;rw[hN];clear hN N;exists au gD;exactλb hb=>q b _ (h0.trans (KB.new hb)) aa
noncomputable def tP:Sp:=λvs H Q _=>vs=[]/\∀l,H l=none->Q (.ref l) (upd H l (.lst (bW.map V.str)))
theorem uY(F:HasFn K mg "_law_words" dH []):aq P w K mg base bq 1 "_law_words" [] tP:=by
 refine F.gU kN (λvs H Q E h=>?_) (λf cdv A outer s H vs Q E hr h=>?_)
 ·obtain⟨rfl,_⟩:=h;rfl
 ·obtain⟨rfl,q⟩:=h;refine⟨_,(Z.aA (Z.ret (Z.lst (Z.consts rfl)))),?_⟩;walk_at "rz";exact⟨by decide,λp hp=>q p hp⟩
noncomputable def iE:Sp:=λvs H Q _=>∃(n:Int) (k:Nat),vs=[.int n,.int (k:Nat)]/\k<=40/\Q (.str (wd (bw n k []))) H
theorem zc(T:Txt K mg)(F:HasFn K mg "_law_bits" eI ["number","many"]):aq P w K mg base bq 1 "_law_bits" ["number","many"] iE:=by
 refine F.gU cU (λvs H Q E h=>?_) (λf cdv A outer s H vs Q E hr h=>?_)
 ·obtain⟨n,k,rfl,_⟩:=h;rfl
 ·have hu:=bo hr;obtain⟨n,k,rfl,hk,q⟩:=h;refine⟨_,(Z.ai (Z.set (i:=2) cU.nd rfl (by right) Z.str)
   (Z.ai (Z.fQ J6 rfl (Z.k_ rfl T.cT (Z.cons (Z.v 1) Z.nil)) (Z.bp (i:=3) cU.nd rfl (by right)) (Z.ai (Z.set (i:=2) cU.nd rfl (by right) (Z.op (Z.aR K rfl) (Z.ix (Z.az K rfl hu) Z.str (Z.op cA (Z.v 0) Z.int)) (Z.v 2)))
   (Z.aA (Z.set (i:=0) cU.nd rfl (by right) (Z.op nO (Z.v 0) Z.int)))))
   (Z.aA (Z.ret (Z.v 2))))),?_⟩
  refine ar λN hN=>?_;walk_at "rz";rw[hN];clear hN N;refine ar λN hN=>?_;walk_at "rz";refine⟨by lia,by lia,?_⟩
  rw[Jw];refine bY (λi σ H'=>∃(m:Int) (acc:List Nat) (o:Option V),H'=H/\i<=k/\bw m (k-i) acc=bw n k []/\acc.length=i/\σ=[some (.int m),some (.int (k:Nat)),some (.str (wd acc)),o]) ⟨n,[],none,rfl,Jj _,rfl,rfl,by rw[mI]⟩ ?_ ?_
  ·rintro i σ H' hi ⟨m,acc,o,rfl,_,e,hl,rfl⟩;unfold bC;refine ar λM hM=>?_;exists GY;refine⟨by decide,by decide +kernel,?_⟩
   rw[show (⟨#[dg m]⟩:Str)=wd [dg m] from rfl,aO,aO,dR];refine⟨IY (show _<=50 by simp;lia) (by decide),?_⟩
   rw[hM];clear hM M;refine pz λM hM=>?_;walk_at "rz";refine⟨⟨by decide,by decide⟩,?_⟩
   rw[hM];refine⟨m / 2,dg m::acc,some _,rfl,hi,?_,by rw[Jd,hl],rfl⟩
   rw[<- e,show k-i=(k-(i+1))+1 by lia]
   rfl
  ·rintro σ H' ⟨m,acc,o,rfl,_,e,_,rfl⟩;rw[JP] at e;show N _ _;rw[hN];clear hN N;walk_at "rz";rw[<- e] at q;exact q
theorem pF{n:Nat}(h:n<3):bU [V.str (Str.ofString "0"),.str (Str.ofString "10"),.str (Str.ofString "11")] (n:Int)=some (.str (wd (cH n))):=by
 rcases j4 h with rfl|rfl|rfl
 ·exact JH (λz=>some (V.str z)) (by decide +kernel)
 ·exact JH (λz=>some (V.str z)) (by decide +kernel)
 ·exact JH (λz=>some (V.str z)) (by decide +kernel)
noncomputable def bz(H:Hp)(p dq:Addr)(n:Nat):Prop:=∃(cells:List Int) (i t z:Int),H p=some (.lst [.ref dq,.int i,.int t,.int z])/\H dq=some (.lst (iV cells))/\(∀c∈cells,0<=c)/\0<=i/\i<=cells.length/\cells.length<=63/\0<=t/\t<=n
theorem bz.mono{p:Addr}{n m:Nat}(h:bz H p dq n)(hm:n<=m):bz H p dq m:=by
 obtain⟨cells,i,t,z,h1,h2,h3,h4,h5,h6,h7,h8⟩:=h;exact⟨cells,i,t,z,h1,h2,h3,h4,h5,h6,h7,by lia⟩
theorem bz.keep{p:Addr}{n:Nat}(h:bz H p dq n)(k:KB ex H H')(n1:p∉ex)(n2:dq∉ex):bz H' p dq n:=by
 obtain⟨cells,i,t,z,h1,h2,h3⟩:=h;exact⟨cells,i,t,z,k _ _ h1 n1,k _ _ h2 n2,h3⟩
theorem bz.kb{p:Addr}{n:Nat}(h:bz H p dq n)(k:KB [] H H'):bz H' p dq n:=h.keep k (by simp) (by simp)
theorem bz.lst{p:Addr}{n:Nat}(h:bz H p dq n):∀b∈[p,dq],∃ys,H b=some (.lst ys):=by
 obtain⟨cells,i,t,z,h1,h2,h3⟩:=h;intro b hb;simp only[IX,Js,JT] at hb;rcases hb with rfl|rfl
 ·exact⟨_,h1⟩
 ·exact⟨_,h2⟩
theorem bz.new{p l:Addr}{n:Nat}(h:bz H p dq n)(hl:H l=none):l∉[p,dq]:=λz=>by
 obtain⟨ys,e⟩:=h.lst l z;rw[hl] at e;cases e
theorem bz.tup{p:Addr}{n:Nat}(h:bz H p dq n)(k:KB [p,dq] H H')(e:H a=some (.tup xs)):H' a=some (.tup xs):=En k h.lst e
noncomputable def Cn:Sp:=λvs H Q _=>∃c k:Int,vs=[.int c,.int k]/\0<=k/\k<2^60/\∀v:Int,Q (.int v) H
theorem E7(F:HasFn K mg "_law_mix" fm ["number","turn"]):aq P w K mg base bq 1 "_law_mix" ["number","turn"] Cn:=by
 refine F.gU fO (λvs H Q E h=>?_) (λf cdv A outer s H vs Q E hr h=>?_)
 ·obtain⟨c,k,rfl,_⟩:=h;rfl
 ·obtain⟨c,k,rfl,h0,h1,q⟩:=h;have hu:=bo hr;refine⟨_,(Z.ai (Z.set (i:=2) fO.nd rfl (by right) (Z.op cA (Z.op (Z.aR K rfl) (Z.op (Z.aR K rfl) (Z.op (Z.aR K rfl) (Z.op cA (Z.v 0) Z.int) (Z.op bR (Z.op bR Z.int (Z.v 1)) (Z.v 1))) (Z.op bR Z.int (Z.v 1))) Z.int) Z.int))
   (Z.ai (Z.set (i:=2) fO.nd rfl (by right) (Z.op cA (Z.op bR (Z.v 2) (Z.v 2)) Z.int))
   (Z.aA (Z.ret (Z.op nO (Z.op cA (Z.op (Z.aR K rfl) (Z.op bR (Z.v 2) Z.int) (Z.v 1)) Z.int) Z.int))))),?_⟩
  refine ar λN hN=>?_;walk_at "rz";refine⟨by decide,.inl (by decide),.inr ⟨by lia,by lia⟩,.inl (by decide),by decide,?_⟩
  rw[hN];clear hN N;generalize hx:(c % 1999999927+7001*k*k+40009*k+17) % 2147483629=x;have hx1:0<=x/\x<2147483629:=by rw[<- hx];exact⟨Ll _ (by decide),Lm _ (by decide)⟩
  refine ar λN hN=>?_;walk_at "rz";refine⟨.inl ⟨by lia,by lia⟩,by decide,?_⟩
  rw[hN];clear hN N;generalize hy:x*x % 2147483587=y;have hy1:0<=y/\y<2147483587:=by rw[<- hy];exact⟨Ll _ (by decide),Lm _ (by decide)⟩
  walk_at "rz";exact⟨.inr (by decide),by decide,⟨by decide,by decide⟩,q _⟩
noncomputable def xS(K:Og):Sp:=λvs H Q _=>∃(a:Addr) (ns:List Int),vs=[.ref a]/\ck K H a (ns.map V.int)/\∀p dq H',bz H' p dq 0->KB [] H H'->Q (.ref p) H'
theorem zS(T:Txt K mg)(F:HasFn K mg "_law_deck" dn ["script"]):aq P w K mg base bq 1 "_law_deck" ["script"] (xS K):=by
 refine F.gU m_ (λvs H Q E h=>?_) (λf cdv A outer s H vs Q E hr h=>?_)
 ·obtain⟨a,ns,rfl,_⟩:=h;rfl
 ·obtain⟨a,ns,rfl,hS,q⟩:=h;have hu:=bo hr;refine⟨_,(Z.aA (Z.ret (Z.lst (Z.cons (Z.comp (osc:=ae dn) (ON:=["script"]) (own:=["cell"]) (N:=["cell","script"]) ⟨rfl,by decide +kernel,rfl,by decide +kernel,by decide +kernel,by decide +kernel,by decide +kernel,by decide +kernel⟩ rfl rfl rfl (Z.any K rfl (Z.slice (Z.BZ K rfl) (Z.v 0) Z.yy (Z.qu Z.int))) (λ_ _ _ _=>(Z.bp (i:=0) (show List.Nodup (["cell","script"]:List Str) by decide +kernel) rfl (by right))) (λ_ _ _ _=>Z.sH) (λ_ _ _ _=>(Z.cb yK rfl T.GD (by decide +kernel) (Z.cons (Z.v 0) Z.nil)))) (Z.cons Z.int (Z.cons Z.int (Z.cons (Z.op cA (Z.op (Z.aR K rfl) (Z.cb (Z.Gg K rfl rfl) rfl T.FF (by decide +kernel) (Z.cons (Z.slice (Z.BZ K rfl) (Z.v 0) Z.yy (Z.qu Z.int)) Z.nil)) (Z.op bR Z.int (Z.cb (Z.CI K rfl) rfl T.cf (by decide +kernel) (Z.cons (Z.v 0) Z.nil)))) Z.int) Z.nil))))))),?_⟩
  have ec:eW (ns.map V.int) none (some 63)=iV (ns.take 63):=by
   unfold eW iV;rw[HT.fU,show HT.bP (ns.map V.int).length (ns.map V.int).length (some 63)=min 63 (ns.map V.int).length from HT.fo _ _ 63,IP,M9,Kj,<- Nf];congr 1;rw[List.take_eq_take_iff];lia
  have hm:(ns.take 63).length<=63:=by rw[Jn];lia
  generalize ns.take 63=ms at ec hm;walk_at "rz";refine⟨a,_,rfl,hS,λc hc=>?_⟩;rw[ec];have k1:KB [] H (upd H c (.lst (iV ms))):=KB.new hc;have s1:upd H c (.lst (iV ms)) c=some (.lst (iV ms)):=aa;generalize upd H c (.lst (iV ms))=H1 at *;simp only[au s1];refine jB (xs:=iV ms) (IY (show _<=63 by rw[bA];exact hm) (by decide)) (λD i ys H'=>H' D=some (.lst ys)/\KB [] H1 H'/\H1 D=none/\∃bs:List Int,ys=iV bs/\bs.length=i/\∀b∈bs,0<=b) (λD hD=>⟨aa,KB.new hD,hD,[],rfl,rfl,λb hb=>nomatch hb⟩) (λD i ys H' h=>⟨h.1,by obtain⟨_,_,_,bs,rfl,e,_⟩:=h;rw[bA,e]⟩) (λD i ys H' h=>ck.of (h.2.1 _ _ s1 (by simp))) ?_ ?_
  ·rintro D i ys H' x R hx ⟨g1,g2,g3,bs,rfl,g4,g5⟩ k;obtain⟨hi,rfl⟩:=nI hx;walk_at "rz";refine k _ _ g1 ⟨aa,λb o e _=>?_,g3,bs++[_],(fJ bs [_]).symm,by rw[IL,g4];rfl,λb hb=>?_⟩
   ·rw[af (ao e g3)];exact g2 b o e (by simp)
   ·rcases JG.mp hb with z|z
    ·exact g5 b z
    ·rw[Jg.mp z];split<;>lia
  ·rintro D ys H' ⟨g1,g2,g3,bs,rfl,g4,g5⟩;rw[bA] at g4;refine⟨a,_,rfl,(k1.trans g2).Gf (by simp) hS,λd hd=>?_⟩
   rw[ec];have k2:KB [] H' (upd H' d (.lst (iV ms))):=KB.new hd;have s2:upd H' d (.lst (iV ms)) d=some (.lst (iV ms)):=aa;generalize upd H' d (.lst (iV ms))=H2 at *;have kk:=(k1.trans g2).trans k2;refine⟨d,ms,rfl,ck.of s2,.ref a,_,rfl,.inl ⟨_,kk.Gf (by simp) hS,rfl⟩,.inl (by decide),by decide,by decide,λp hp=>?_⟩
   have gD:=k2 _ _ g1 (by simp)
   exact q p D _ ⟨bs,0,0,_,aa,by rw[af (ao gD hp)];exact gD,g5,by decide,by lia,by lia,by decide,by decide⟩ (kk.trans (KB.new hp))
noncomputable def dU:Sp:=λvs H Q _=>∃(p dq:Addr) (m:Int) (n:Nat),vs=[.ref p,.int m]/\bz H p dq n/\n<2^50/\0<m/\m<2^30/\∀(v:Nat) H',(v:Int)<m->bz H' p dq (n+1)->KB [p,dq] H H'->Q (.int (v:Nat)) H'
theorem AM(T:Txt K mg)(F:HasFn K mg "_law_draw" eE ["deck","most"])(h_law_mix:aq P w K mg base bq 1 "_law_mix" ["number","turn"] Cn):aq P w K mg base bq 2 "_law_draw" ["deck","most"] dU:=by
 refine F.gU iC (λvs H Q E h=>?_) (λf cdv A outer s H vs Q E hr h=>?_)
 ·obtain⟨p,dq,m,n,rfl,_⟩:=h;rfl
 ·obtain⟨p,c,m,n,rfl,⟨cells,i,t,z,hp,hc,hn0,i0,i1,k63,t0,t1⟩,hn,hm0,hm1,q⟩:=h;have hu:=bo hr;have hcp:c≠p:=by
   rintro rfl;rw[hp] at hc
   cases cells<;>cases hc
  have sp:=au hp;have fin:∀(a:Int) (H':Hp),bz H' p c (n+1)->KB [p,c] H H'->Q (.int (a % m)) H':=λa H' D k=>by
   have h0:=Ll a (Int.ne_of_gt hm0);have h1:=Lm a hm0;have:=q (a % m).toNat H' (by lia) D k
   rwa [Int.toNat_of_nonneg h0] at this
  refine⟨_,(Z.ai (Z.asg (Z.op (Z.aR K rfl) (Z.ix (Z.az K rfl hu) (Z.v 0) Z.int) Z.int) (Z.qE (Z.v 0) Z.int))
   (Z.ai (Z.d9 (Z.bf bB (Z.ix (Z.az K rfl hu) (Z.v 0) Z.int) (Z.cb (Z.cw K rfl) rfl T.cf (by decide +kernel) (Z.cons (Z.ix (Z.az K rfl hu) (Z.v 0) Z.int) Z.nil))) (Z.aA (Z.ret (Z.op cA (Z.fn h_law_mix (hr.mono (by decide)) rfl av (Z.cons (Z.ix (Z.az K rfl hu) (Z.v 0) Z.int) (Z.cons (Z.ix (Z.az K rfl hu) (Z.v 0) Z.int) Z.nil))) (Z.v 1)))) Z.bG)
   (Z.ai (Z.set (i:=2) iC.nd rfl (by right) (Z.ix (Z.az K rfl hu) (Z.ix (Z.az K rfl hu) (Z.v 0) Z.int) (Z.ix (Z.az K rfl hu) (Z.v 0) Z.int)))
   (Z.ai (Z.d9 (Z.bf mh (Z.v 2) (Z.op rM Z.int Z.int)) (Z.ai (Z.asg (Z.op (Z.aR K rfl) (Z.ix (Z.az K rfl hu) (Z.v 0) Z.int) Z.int) (Z.qE (Z.v 0) Z.int))
   (Z.aA (Z.ret (Z.op cA (Z.fn h_law_mix (hr.mono (by decide)) rfl av (Z.cons (Z.v 2) (Z.cons (Z.ix (Z.az K rfl hu) (Z.v 0) Z.int) Z.nil))) (Z.v 1))))) Z.bG)
   (Z.ai (Z.asg (Z.op nO (Z.v 2) (Z.v 1)) (Z.qE (Z.ix (Z.az K rfl hu) (Z.v 0) Z.int) (Z.ix (Z.az K rfl hu) (Z.v 0) Z.int)))
   (Z.aA (Z.ret (Z.op cA (Z.v 2) (Z.v 1))))))))),?_⟩
  have x1:j0 4 1=some 1:=by decide
  have x2:j0 4 2=some 2:=by decide
  refine ar λN hN=>?_;exists sp,hp,x2;have k1:KB [p,c] H (upd H p (.lst [.ref c,.int i,.int (t+1),.int z])):=KB.set (by simp)
  have p1:upd H p (.lst [.ref c,.int i,.int (t+1),.int z]) p=_:=aa;have c1:upd H p (.lst [.ref c,.int i,.int (t+1),.int z]) c=some (.lst (iV cells)):=by rw[af hcp];exact hc
  generalize upd H p (.lst [.ref c,.int i,.int (t+1),.int z])=H1 at *;have s1:=au p1;have sc:=au c1;rw[hN];clear hN N;refine ar λN hN=>?_;exists s1,sc,bA;by_cases e1:i=(cells.length:Nat)
  ·exists IW e1,s1;refine⟨_,_,rfl,by lia,by lia,λv=>?_⟩
   walk_at "rz";exact⟨hm0,fin v H1 ⟨cells,i,t+1,z,p1,c1,hn0,i0,i1,k63,by lia,by lia⟩ k1⟩
  ·rw[IT e1,hN];clear hN N;obtain⟨j,rfl⟩:∃j:Nat,i=(j:Int):=⟨i.toNat,by lia⟩
   have hj:j<cells.length:=by lia
   have aj:=BM hj;have hv0:=hn0 _ (Ji hj);refine ar λN hN=>?_;exists s1,sc,aj;generalize cells[j]=v at *;rw[hN];clear hN N;refine ar λN hN=>?_;walk_at "rz";refine⟨⟨by decide,by decide,by decide⟩,?_⟩
   by_cases e2:v<10^(18:Int).toNat
   ·rw[IW e2];exists s1,p1,x1;have k2:KB [p,c] H1 (upd H1 p (.lst [.ref c,.int ((j:Int)+1),.int (t+1),.int z])):=KB.set (by simp)
    have p2:upd H1 p (.lst [.ref c,.int ((j:Int)+1),.int (t+1),.int z]) p=_:=aa;have c2:upd H1 p (.lst [.ref c,.int ((j:Int)+1),.int (t+1),.int z]) c=some (.lst (iV cells)):=by rw[af hcp];exact c1
    generalize upd H1 p (.lst [.ref c,.int ((j:Int)+1),.int (t+1),.int z])=H2 at *;refine⟨_,_,rfl,by lia,by lia,λv=>?_⟩
    walk_at "rz";exact⟨hm0,fin v H2 ⟨cells,(j:Int)+1,t+1,z,p2,c2,hn0,by lia,by lia,k63,by lia,by lia⟩ (k1.trans k2)⟩
   ·rw[IT e2,hN];clear hN N;have xj:j0 (iV cells).length (j:Int)=some j:=by rw[mY (by lia) (by rw[bA];lia)];simp
    refine ar λM hM=>?_;exists s1,c1,xj;refine⟨⟨hm0,by lia⟩,?_⟩
    rw[CJ];have k2:KB [p,c] H1 (upd H1 c (.lst (iV (cells.set j (v / m))))):=KB.set (by simp)
    have c2:upd H1 c (.lst (iV (cells.set j (v / m)))) c=_:=aa;have p2:upd H1 c (.lst (iV (cells.set j (v / m)))) p=_:=(af hcp.symm).trans p1;generalize upd H1 c (.lst (iV (cells.set j (v / m))))=H2 at *;rw[hM];clear hM M;walk_at "rz";refine⟨hm0,fin v H2 ⟨cells.set j (v / m),j,t+1,z,p2,c2,λx hx=>?_,by lia,by rw[KA];lia,by rw[KA];exact k63,by lia,by lia⟩ (k1.trans k2)⟩
    rcases Kb hx with hx|rfl
    ·exact hn0 x hx
    ·exact Int.ediv_nonneg hv0 (by lia)
noncomputable def NT(ex:List Addr)(H:Hp):Prop:=∀b∈ex,∀xs,H b≠some (.tup xs)
theorem NT.nil(H:Hp):NT [] H:=λb hb=>nomatch hb
theorem bz.nt{p:Addr}{n:Nat}(h:bz H p dq n):NT [p,dq] H:=λb hb xs e=>by
 obtain⟨ys,e'⟩:=h.lst b hb;rw[e] at e';cases e'
noncomputable def qc(H:Hp)(b:Addr)(bk:List (List Int)):Prop:=∃as:List Addr,H b=some (.tup (as.map V.ref))/\as.length=bk.length/\∀(i:Nat) (a:Addr),as[i]?=some a->H a=some (.tup (iV (bk.getD i [])))
theorem qc.keep{b:Addr}{bk:List (List Int)}(h:qc H b bk)(k:KB ex H H')(hx:NT ex H):qc H' b bk:=by
 obtain⟨as,h1,h2,h3⟩:=h;exact⟨as,k _ _ h1 λz=>hx _ z _ h1,h2,λi a e=>k _ _ (h3 i a e) λz=>hx _ z _ (h3 i a e)⟩
theorem qc.kb{b:Addr}{bk:List (List Int)}(h:qc H b bk)(k:KB [] H H'):qc H' b bk:=h.keep k (NT.nil _)
theorem pZ{l:List α}(h:l.length=3):∃a b c,l=[a,b,c]:=by
 rcases l with _|⟨a,_|⟨b,_|⟨c,_|⟨d,l⟩⟩⟩⟩<;>first|exact⟨_,_,_,rfl⟩ | (exfalso;revert h;simp)
noncomputable def sG(K:Og):Sp:=λvs H Q _=>∃(b:Addr) (bk:List (List Int)),vs=[.ref b]/\qc H b bk/\Bk bk/\∀ca H',H ca=none->KB [] H H'->vG H' ca (a_ bk)->Q (.ref ca) H'
theorem xB(T:Txt K mg)(F:HasFn K mg "codes_of" dP ["book"])(hcode_of:aq P w K mg base bq 4 "code_of" ["lengths"] (zB K)):aq P w K mg base bq 6 "codes_of" ["book"] (sG K):=by
 refine F.gU pU (λvs H Q E h=>?_) (λf cdv A outer s H vs Q E hr h=>?_)
 ·obtain⟨b,bk,rfl,_⟩:=h;rfl
 ·have hu:=bo hr;obtain⟨b,bk,rfl,hb,hB,q⟩:=h;obtain⟨as,hb1,hb2,hb3⟩:=hb;obtain⟨l0,l1,l2,rfl,_,_,_,hl⟩:=hB;refine⟨_,(Z.aA (Z.ret (Z.comp (osc:=ae dP) (ON:=["book"]) (own:=["lengths"]) (N:=["lengths","book"]) ⟨rfl,by decide +kernel,rfl,by decide +kernel,by decide +kernel,by decide +kernel,by decide +kernel,by decide +kernel⟩ rfl rfl rfl (Z.any K rfl (Z.v 0)) (λ_ _ _ _=>(Z.bp (i:=0) (show List.Nodup (["lengths","book"]:List Str) by decide +kernel) rfl (by right))) (λ_ _ _ _=>Z.sH) (λ_ _ _ _=>(Z.fn hcode_of (hr.mono (by decide)) rfl av (Z.cons (Z.v 0) Z.nil)))))),?_⟩
  exists ax hb1;refine cm (xs:=as.map V.ref) (IY (show _<=3 by rw[IP,hb2];exact IU 3) (by decide)) (λD i ys H'=>H D=none/\H' D=some (.lst ys)/\KB [] H H'/\∃cs:List Addr,ys=cs.map V.ref/\cs.length=i/\∀(j:Nat) (c:Addr),cs[j]?=some c->H' c=some (.tup (wV (wordsOf Cw.eK (List.getD [l0,l1,l2] j []))))) (λD hD=>⟨hD,aa,KB.new hD,[],rfl,rfl,λj c e=>nomatch e⟩) (λD i ys H' h=>⟨h.2.1,by obtain⟨_,_,_,cs,rfl,e,_⟩:=h;rw[IP,e]⟩) (λD i ys H' h=>bu.of (h.2.2.1 _ _ hb1 (by simp))) ?_ ?_
  ·rintro D i ys H' x R hx ⟨g0,g1,g2,cs,rfl,g4,g5⟩ kk;obtain⟨a,ea,rfl⟩:∃a,as[i]?=some a/\x=.ref a:=by
    rw[I_] at hx;obtain⟨a,e,rfl⟩:=Jp.mp hx;exact⟨a,e,rfl⟩
   have hi:i<3:=by have:=(IQ.mp ea).1;rw[hb2] at this;exact this
   have hm:List.getD [l0,l1,l2] i []∈[l0,l1,l2]:=by
    rcases j4 hi with rfl|rfl|rfl<;>simp
   walk_at "rz";refine⟨a,_,rfl,g2 _ _ (hb3 i a ea) (by simp),(hl _ hm).1,(hl _ hm).2,λc H5 k5 e5=>?_⟩
   have gD:=k5 _ _ g1 (by simp)
   have cD:c≠D:=λz=>by rw[z,gD] at e5;cases e5
   refine kk _ _ gD ⟨g0,aa,λu o e _=>by rw[af (ao e g0)];exact k5 _ _ (g2 _ _ e (by simp)) (by simp),cs++[c],by rw[Jm];rfl,by rw[IL,g4];rfl,λj d e=>?_⟩
   rcases JL j cs.length with hj|hj
   ·rw[Jx hj] at e;have e6:=k5 _ _ (g5 j d e) (by simp)
    rw[af (λz=>by rw[z,gD] at e6;cases e6)];exact e6
   ·rw[Jk hj] at e;obtain⟨hj2,rfl⟩:=IQ.mp e;have:j=i:=by simp at hj2;lia
    subst this;rw[af (show _≠D by simpa using cD)]
    simpa using e5
  ·rintro D ys H' ⟨g0,g1,g2,cs,rfl,g4,g5⟩;rw[IP,hb2] at g4;obtain⟨c0,c1,c2,rfl⟩:=pZ g4;exact q D H' g0 g2 ⟨c0,c1,c2,g1,g5 0 c0 rfl,g5 1 c1 rfl,g5 2 c2 rfl⟩
theorem uP{β:Type}{R:α->β->Prop}{d:α}{e:β}{vs:List α}{ps:List β}(h:Paired R vs ps):∀i,i<ps.length->R (vs.getD i d) (ps.getD i e):=by
 induction h with
 |nil=>exactλi hi=>nomatch hi
 |cons h _ ih =>
  intro i hi
  cases i with
  |zero=>exact h
  |succ i=>exact ih i (NK hi)
theorem map_getD:(List.range ((List.range ls.length).map (nQ ls)).length).map (λi=>((List.range ls.length).map (nQ ls)).getD i (0,0))=(List.range ls.length).map (nQ ls):=by
 refine KI λi=>?_;rw[I_];rcases JL i ls.length with c|c
 ·rw[K_ (by simpa using c),I_,K_ c];simp[c]
 ·rw[J7.mpr (by simpa using c),J7.mpr (by simpa using c)];rfl
noncomputable def nB(K:Og):Sp:=λvs H Q _=>∃(a:Addr) (ls:List Int),vs=[.ref a]/\H a=some (.tup (iV ls))/\jl ls/\nj ls=true/\∀b H',H b=none->KB [] H H'->H' b=some (.lst (wV (wordsOf Cw.eK ls)))->Q (.ref b) H'
theorem wk(T:Txt K mg)(F:HasFn K mg "_law_code" d5 ["lengths"])(h_law_bits:aq P w K mg base bq 1 "_law_bits" ["number","many"] iE):aq P w K mg base bq 2 "_law_code" ["lengths"] (nB K):=by
 refine F.gU b8 (λvs H Q E h=>?_) (λf cdv A outer s H vs Q E hr h=>?_)
 ·obtain⟨a,ls,rfl,_⟩:=h;rfl
 ·have hu:=bo hr;obtain⟨a,ls,rfl,ha,hL,ho,q⟩:=h;refine⟨_,(Z.ai (Z.set (i:=1) b8.nd rfl (by right) (Z.op bR (Z.lst (Z.cons Z.str Z.nil)) (Z.cb (Z.cw K rfl) rfl T.cf (by decide +kernel) (Z.cons (Z.v 0) Z.nil))))
   (Z.ai (Z.set (i:=2) b8.nd rfl (by right) Z.int)
   (Z.ai (Z.set (i:=3) b8.nd rfl (by right) Z.int)
   (Z.ai (Z.fQ J6 rfl (Z.any K rfl (Z.cb (Y.qZ K rfl) rfl T.kn (by decide +kernel) (Z.cons (Z.comp (osc:=ae d5) (ON:=["lengths","found","number","size","length","thing","k"]) (own:=["thing","length"]) (N:=["thing","length","lengths","found","number","size",".length",".thing","k"]) ⟨rfl,by decide +kernel,rfl,by decide +kernel,by decide +kernel,by decide +kernel,by decide +kernel,by decide +kernel⟩ rfl rfl rfl (Z.enum K rfl rfl T.jh (Z.cons (Z.v 0) Z.nil)) (λ_ _ _ _=>(Z.zu (n:=2) K rfl rfl (Z.dW (Z.bp (i:=0) (show List.Nodup (["thing","length","lengths","found","number","size",".length",".thing","k"]:List Str) by decide +kernel) rfl (by right)) (Z.dW (Z.bp (i:=1) (show List.Nodup (["thing","length","lengths","found","number","size",".length",".thing","k"]:List Str) by decide +kernel) rfl (by right)) Z.pL)))) (λ_ _ _ _=>Z.sH) (λ_ _ _ _=>(Z.tup (Z.cons (Z.v 1) (Z.cons (Z.v 0) Z.nil))))) Z.nil))) (Z.zu (n:=2) K rfl rfl (Z.dW (Z.bp (i:=4) b8.nd rfl (by right)) (Z.dW (Z.bp (i:=5) b8.nd rfl (by right)) Z.pL))) (Z.ai (Z.fQ J6 rfl (Z.k_ rfl T.cT (Z.cons (Z.op bX (Z.v 4) (Z.v 3)) Z.nil)) (Z.bp (i:=6) b8.nd rfl (by right)) (Z.aA (Z.set (i:=2) b8.nd rfl (by right) (Z.op bR (Z.v 2) Z.int))))
   (Z.ai (Z.set (i:=3) b8.nd rfl (by right) (Z.v 4))
   (Z.ai (Z.asg (Z.fn h_law_bits (hr.mono (by decide)) rfl av (Z.cons (Z.v 2) (Z.cons (Z.v 4) Z.nil))) (Z.qE (Z.v 1) (Z.v 5)))
   (Z.aA (Z.set (i:=2) b8.nd rfl (by right) (Z.op (Z.aR K rfl) (Z.v 2) Z.int)))))))
   (Z.aA (Z.ret (Z.v 1))))))),?_⟩
  have hl20:=hL.2.1;refine ar λN hN=>?_;walk_at "rz";refine⟨by decide,λp0 hp0=>?_⟩
  have k1:KB [] H (upd H p0 (.lst [.str (Str.ofString "")])):=KB.new hp0;have s1:upd H p0 (.lst [.str (Str.ofString "")]) p0=_:=aa;generalize upd H p0 (.lst [.str (Str.ofString "")])=H1 at *;have ha1:=k1 _ _ ha (by simp)
  exists ax ha1,bA;refine⟨p0,_,_,rfl,rfl,s1,by lia,by lia,IY (show _<=20 by simp;lia) (by decide),λfd hfd=>?_⟩
  have er:(List.replicate ls.length [V.str (Str.ofString "")]).flatten=wV (List.replicate ls.length []):=by
   rw[mI];unfold wV;rw[K8];generalize ls.length=n
   induction n with
   |zero=>rfl
   |succ n ih=>rw[J9,Kl,ih];rfl
  rw[Jw,er];have k2:KB [] H1 (upd H1 fd (.lst (wV (List.replicate ls.length [])))):=KB.new hfd;have s2:upd H1 fd (.lst (wV (List.replicate ls.length []))) fd=_:=aa;generalize upd H1 fd (.lst (wV (List.replicate ls.length [])))=H2 at *;have fd0:H fd=none:=k1.free (by simp) hfd
  have h02:=k1.trans k2;clear k1 s1 hp0 ha1 er k2 hfd;rw[hN];clear hN N H1;refine ar λN hN=>?_;walk_at "rz";rw[hN];clear hN N;refine ar λN hN=>?_;walk_at "rz";rw[hN];clear hN N;refine ar λN hN=>?_;walk_at "rz";have ha2:=h02 _ _ ha (by simp)
  refine⟨⟨_,bu.of ha2⟩,?_⟩;refine n_ (xs:=iV ls) (IY (show _<=20 by rw[bA];exact hl20) (by decide)) (λD i ys H'=>H2 D=none/\H' D=some (.lst ys)/\KB [] H2 H'/\i<=ls.length/\ys.length=i/\Paired (Y.Gq H') ys ((List.range i).map (nQ ls))) (λD hD=>⟨hD,aa,KB.new hD,Jj _,rfl,.nil⟩) (λD i ys H' h=>⟨h.2.1,h.2.2.2.2.1⟩) (λD i ys H' h=>bu.of (h.2.2.1 _ _ ha2 (by simp))) ?_ ?_
  ·rintro D i ys H' x p R hx ⟨g0,g1,g2,g3,g4,g5⟩ hp kk;obtain⟨hi,rfl⟩:=nI hx;have k3:KB [] H' (upd H' p (.tup [.int (i:Nat),.int ls[i]])):=KB.new hp;generalize upd H' p (.tup [.int (i:Nat),.int ls[i]])=H3 at *;walk_at "rz";refine⟨by decide,λt ht=>?_⟩
   have k4:KB [] H3 (upd H3 t (.tup [.int ls[i],.int (i:Nat)])):=KB.new ht;have s4:upd H3 t (.tup [.int ls[i],.int (i:Nat)]) t=_:=aa;generalize upd H3 t (.tup [.int ls[i],.int (i:Nat)])=H4 at *;have k34:=k3.trans k4;have gD:=k34 _ _ g1 (by simp)
   have tD:t≠D:=λz=>by rw[z,gD] at s4;cases s4
   have up:∀{v:V} {q:Int×Int},Y.Gq H4 v q->Y.Gq (upd H4 D (.lst (ys++[.ref t]))) v q:=λ{v q} h=>by
    obtain⟨r,e1,e2⟩:=h;exact⟨r,e1,by rw[af (λz=>by rw[z,gD] at e2;cases e2)];exact e2⟩
   refine kk _ _ gD ⟨g0,aa,λb o e _=>by rw[af (ao e g0)];exact k34 _ _ (g2 _ _ e (by simp)) (by simp),hi,by rw[IL,g4];rfl,?_⟩
   rw[M8,Jm];refine Paired.snoc (Paired.we g5 λ_ _ h=>up ?_) (up ⟨t,rfl,?_⟩)
   ·obtain⟨r,e1,e2⟩:=h;exact⟨r,e1,k34 _ _ e2 (by simp)⟩
   ·rw[s4];unfold nQ;simp[hi]
  rintro D ys H3 ⟨g0,g1,g2,_,g4,g5⟩;rw[bA] at g4 g5;have hpl:((List.range ls.length).map (nQ ls)).length=ls.length:=by rw[IP,JA]
  refine⟨D,ys,_,rfl,ck.of g1,g5,by rw[hpl];lia,λix hix hup l hl=>?_⟩
  have hpm:=hix.map λi=>((List.range ls.length).map (nQ ls)).getD i (0,0);rw[map_getD] at hpm;obtain⟨eo,hR⟩:=vy hpm hup;have hup2:=C6 hR;have k4:KB [] H3 (upd H3 l (.lst (ix.map λi=>ys.getD i .aT))):=KB.new hl;have s4:upd H3 l (.lst (ix.map λi=>ys.getD i .aT)) l=_:=aa;have hit:∀(j:Nat) (x:V),(ix.map λi=>ys.getD i .aT)[j]?=some x->∃(hj:j<(aI ls).length) (r:Addr),x=.ref r/\H3 r=some (.tup [.int (ls.getD (aI ls)[j] 0),.int ((aI ls)[j]:Nat)]):=λj x hx=>by
   rw[I_] at hx;obtain⟨i,ei,rfl⟩:=Jp.mp hx;have hi:i<((List.range ls.length).map (nQ ls)).length:=Ki.mp (hix.mem_iff.mp (JF ei));obtain⟨r,e1,e2⟩:=uP (d:=V.aT) (e:=(0,0)) g5 i hi;have e3:(ix.map λi=>((List.range ls.length).map (nQ ls)).getD i (0,0))[j]?=some (((List.range ls.length).map (nQ ls)).getD i (0,0)):=by rw[I_,ei];rfl
   rw[eo,I_] at e3;obtain⟨t,et,e4⟩:=Jp.mp e3;obtain⟨hj,rfl⟩:=IQ.mp et;exact⟨hj,r,e1,by rw[e2,<- e4];rfl⟩
  have hxl:(ix.map λi=>ys.getD i .aT).length=(aI ls).length:=by
   have:=JH List.length eo;rw[IP,IP] at this;rw[IP,this]
  generalize (ix.map λi=>ys.getD i .aT)=xs at *;generalize upd H3 l (.lst xs)=H4 at *;have gF:=k4 _ _ (g2 _ _ s2 (by simp)) (by simp)
  have lF:l≠fd:=λz=>by
   have:=g2 _ _ s2 (by simp)
   rw[<- z,hl] at this;cases this
  have h04:KB [] H H4:=h02.trans (g2.trans k4);have hit4:∀(j:Nat) (x:V),xs[j]?=some x->∃(hj:j<(aI ls).length) (r:Addr),x=.ref r/\H4 r=some (.tup [.int (ls.getD (aI ls)[j] 0),.int ((aI ls)[j]:Nat)]):=λj x hx=>by
   obtain⟨hj,r,e1,e2⟩:=hit j x hx;exact⟨hj,r,e1,k4 _ _ e2 (by simp)⟩
  clear hit g0 g1 g2 g4 g5 hpl hix hup hl k4 hpm eo hR h02 ha2 s2;have h40:∀t∈aI ls,ls.getD t 0=(aY ls t:Int)/\aY ls t<=40/\t<ls.length:=λt ht=>by
   have h:=i9 ht;have:=hL.2.2 _ (Ji h);unfold aY;rw[Jc,IJ h];show ls[t]=((ls[t].toNat:Nat):Int)/\ls[t].toNat<=40/\_;exact⟨by lia,by lia,h⟩
  exists au s4;refine gC (xs:=xs) (λi σ H'=>∃(a':Option (List Nat)) (ws:List (List Nat)) (n h:Int) (o4 o5 o6:Option V),At ls ((aI ls).take i) ((aI ls).drop i) a' n h/\Cw.along Cw.eZ (aY ls) ((aI ls).take i) (none,List.replicate ls.length [])=(a',ws)/\ws.length=ls.length/\KB [fd] H4 H'/\KB [] H H'/\H' fd=some (.lst (wV ws))/\σ=[some (.ref a),some (.ref fd),some (.int (n+1)),some (.int h),o4,o5,o6]) ⟨none,_,-1,0,none,none,none,⟨rfl,.inl ⟨rfl,rfl,rfl,rfl⟩⟩,rfl,Je ..,KB.refl _ _,h04,gF,rfl⟩ (λi σ H' _ h=>by obtain⟨_,_,_,_,_,_,_,_,_,_,kF,_⟩:=h;exact ck.of (kF _ _ s4 (by simpa using lF))) ?_ ?_
  ·rintro i x σ H' hx ⟨a',ws,n,h,o4,o5,o6,hA,hal,hwl,kF,h0',gF',rfl⟩;obtain⟨hj,r,rfl,er⟩:=hit4 i x hx;have rF:r≠fd:=λz=>by rw[z,gF] at er;cases er
   have er':=kF _ _ er (by simpa using rF)
   have ed:(aI ls).drop i=(aI ls)[i]::(aI ls).drop (i+1):=JK hj;have eT:(aI ls).take (i+1)=(aI ls).take i++[(aI ls)[i]]:=by rw[KO,IJ hj];rfl
   rw[ed] at hA;rw[eT];obtain⟨hx1,hx2,hx3⟩:=h40 _ (Ji hj);obtain⟨d,e1,e0,e2,e3,e4,hA2⟩:=hA.next hL ho hup2;have hal2:Cw.along Cw.eZ (aY ls) ((aI ls).take i++[(aI ls)[i]]) (none,List.replicate ls.length [])=(some (kK a' (aY ls (aI ls)[i])),ws.set (aI ls)[i] (kK a' (aY ls (aI ls)[i]))):=by
    rw[Cw.f7,hal]
    cases a'<;>rfl
   rw[hx1] at er';generalize (aI ls)[i]=t at *;generalize aY ls t=l at *;generalize hw':kK a' l=w' at *;refine⟨r,_,rfl,bu.of er',rfl,_,_,rfl,_,_,rfl,rfl,?_⟩;refine ar λM hM=>?_;exists e1;refine⟨by lia,by lia,?_⟩
   rw[Jw];refine bY (λj σ G=>G=H'/\∃o6:Option V,σ=[some (.ref a),some (.ref fd),some (.int ((n+1)*2^j)),some (.int h),some (.int (l:Nat)),some (.int (t:Nat)),o6]) ⟨rfl,o6,by rw[Int.pow_zero,Int.mul_one]⟩ ?_ ?_
   ·rintro j σ G hj ⟨rfl,o6,rfl⟩;unfold bC;refine pz λM hM=>?_;walk_at "rz";refine⟨.inr (by decide),?_⟩
    rw[hM];exact⟨rfl,some _,by rw[show (n+1)*2^j*2=(n+1)*2^(j+1) from by rw[N3,<- NZ]]⟩
   ·rintro σ G ⟨rfl,o6,rfl⟩;rw[e2];show M _ _;rw[hM];clear hM M;refine ar λM hM=>?_;walk_at "rz";rw[hM];clear hM M;refine ar λM hM=>?_;walk_at "rz";refine⟨_,l,rfl,hx2,?_⟩;rw[uk l w' [] e3 e4,JE];have ixw:j0 (wV ws).length (t:Int)=some t:=by rw[mY (by lia) (by rw[mG,hwl];lia)];simp
    have sw:(wV ws).set t (.str (wd w'))=wV (ws.set t w'):=by unfold wV;rw[L4]
    exists gF',ixw,sw;rw[hM];clear hM M;dsimp only;refine pz λM hM=>?_;walk_at "rz";rw[hM];refine⟨some w',ws.set t w',_,_,some _,some _,o6,hA2,hal2,by rw[List.length_set,hwl],λb o e z=>?_,λb o e _=>?_,aa,rfl⟩
    ·rw[af (by simpa using z)];exact kF _ _ e z
    ·rw[af (ao e fd0)];exact h0' _ _ e (by simp)
  ·rintro σ H' ⟨a',ws,n,h,o4,o5,o6,hA,hal,_,_,h0',gF',rfl⟩;rw[hxl,Ke] at hal;have ew:wordsOf Cw.eK ls=ws:=by
    unfold wordsOf;rw[Cw.hG (aI ls) [] none _ hup2 (λt ht=>(h40 t ht).2.1) (λv z=>by cases z) (λ_=>rfl) (by rw[J_,xE];exact JJ ho),hal]
   show N _ _;rw[hN];clear hN N;walk_at "rz";rw[ew] at q;exact q fd H' fd0 h0' gF'
theorem Gn(l:List Nat)(a:Nat):(iV (nZ l)).eraseIdx a=iV (nZ (l.eraseIdx a)):=by
 unfold iV nZ;simp only[Mw,Jm,Nf,List.map_drop]
theorem x9(l:List Nat)(n k:Nat):iQ (iV (nZ l)) n (V.int (k:Int))=iV (nZ (iQ l n k)):=by
 unfold iQ iV nZ;simp only[Jm,Nf,List.map_drop,Jy]
theorem bM(l:List Nat):(iV (nZ l)).length=l.length:=by rw[bA,iT]
noncomputable def rq(K:Og):Sp:=λvs H Q _=>∃(p dq:Addr) (m n:Nat),vs=[.ref p,.int (m:Nat)]/\bz H p dq n/\n<2^40/\2<=m/\m<=17/\∀(ls:List Int) (a:Addr) H',bz H' p dq (n+60)->KB [p,dq] H H'->H' a=some (.tup (iV ls))->ls.length=m->jl ls->nj ls=true->Q (.ref a) H'
theorem xv(T:Txt K mg)(F:HasFn K mg "_law_lengths" cS ["deck","many"])(h_law_draw:aq P w K mg base bq 2 "_law_draw" ["deck","most"] dU):aq P w K mg base bq 3 "_law_lengths" ["deck","many"] (rq K):=by
 refine F.gU cc (λvs H Q E h=>?_) (λf cdv A outer s H vs Q E hr h=>?_)
 ·obtain⟨p,dq,m,n,rfl,_⟩:=h;rfl
 ·have hu:=bo hr;obtain⟨p,dq,m,n,rfl,hd,hn,hm2,hm,q⟩:=h;refine⟨_,(Z.ai (Z.set (i:=2) cc.nd rfl (by right) (Z.lst (Z.cons Z.int Z.nil)))
   (Z.ai (Z.fQ J6 rfl (Z.k_ rfl T.cT (Z.cons (Z.op bX (Z.v 1) Z.int) Z.nil)) (Z.bp (i:=3) cc.nd rfl (by right)) (Z.ai (Z.set (i:=4) cc.nd rfl (by right) (Z.op (Z.aR K rfl) (Z.bm K rfl PySem.F.plainAttrs_list PySem.F.slot_list_pop PySem.F.type_list_pop xC (Z.v 2) (Z.cons (Z.fn h_law_draw (hr.mono (by decide)) rfl av (Z.cons (Z.v 0) (Z.cons (Z.cb (Z.cw K rfl) rfl T.cf (by decide +kernel) (Z.cons (Z.v 2) Z.nil)) Z.nil))) Z.nil)) Z.int))
   (Z.ai (Z.expr (Z.bm K rfl PySem.F.plainAttrs_list PySem.F.slot_list_insert PySem.F.type_list_insert my (Z.v 2) (Z.cons (Z.fn h_law_draw (hr.mono (by decide)) rfl av (Z.cons (Z.v 0) (Z.cons (Z.op (Z.aR K rfl) (Z.cb (Z.cw K rfl) rfl T.cf (by decide +kernel) (Z.cons (Z.v 2) Z.nil)) Z.int) Z.nil))) (Z.cons (Z.v 4) Z.nil))))
   (Z.aA (Z.expr (Z.bm K rfl PySem.F.plainAttrs_list PySem.F.slot_list_insert PySem.F.type_list_insert my (Z.v 2) (Z.cons (Z.fn h_law_draw (hr.mono (by decide)) rfl av (Z.cons (Z.v 0) (Z.cons (Z.op (Z.aR K rfl) (Z.cb (Z.cw K rfl) rfl T.cf (by decide +kernel) (Z.cons (Z.v 2) Z.nil)) Z.int) Z.nil))) (Z.cons (Z.v 4) Z.nil))))))))
   (Z.ai (Z.d9 (Z.bf bB (Z.fn h_law_draw (hr.mono (by decide)) rfl av (Z.cons (Z.v 0) (Z.cons Z.int Z.nil))) Z.int) (Z.ai (Z.set (i:=5) cc.nd rfl (by right) (Z.fn h_law_draw (hr.mono (by decide)) rfl av (Z.cons (Z.v 0) (Z.cons (Z.v 1) Z.nil))))
   (Z.aA (Z.asg (Z.cb (mm rfl) rfl T.Cj (by decide +kernel) (Z.cons Z.int (Z.cons (Z.op (Z.aR K rfl) (Z.op (Z.aR K rfl) (Z.ix (Z.az K rfl hu) (Z.v 2) (Z.v 5)) Z.int) (Z.fn h_law_draw (hr.mono (by decide)) rfl av (Z.cons (Z.v 0) (Z.cons Z.int Z.nil)))) Z.nil))) (Z.qE (Z.v 2) (Z.v 5))))) Z.bG)
   (Z.aA (Z.ret (Z.ct (Z.dC K rfl) rfl T.dG (by decide +kernel) (Z.cons (Z.v 2) Z.nil))))))),?_⟩
  refine ar λN hN=>?_;walk_at "rz";refine⟨by decide,λd hd0=>?_⟩
  have k1:KB [] H (upd H d (.lst [.int 0])):=KB.new hd0;have s1:upd H d (.lst [.int 0]) d=some (.lst (iV (nZ [0]))):=aa;generalize upd H d (.lst [.int 0])=H1 at *;have nd:=hd.new hd0;have dp:p≠d:=λz=>nd (by simp[z])
  have ddq:dq≠d:=λz=>nd (by simp[z])
  rw[hN];clear hN N;refine ar λN hN=>?_;walk_at "rz";refine⟨by lia,by lia,?_⟩
  have setD:∀{G:Hp} {n:Nat} {o:HO},bz G p dq n->bz (upd G d o) p dq n:=λh=>h.keep (KB.set (ex:=[d]) (by simp)) (by simpa using dp) (by simpa using ddq)
  have keep:∀{G G':Hp},KB [p,dq] H G->KB [p,dq] G G'->KB [p,dq] H G':=λa b=>a.trans b;have keepD:∀{G:Hp} {o:HO},KB [p,dq] H G->KB [p,dq] H (upd G d o):=λa b o e z=>by rw[af (ao e hd0)];exact a b o e z
  refine bY (λi σ H'=>∃(l:List Nat) (o3 o4:Option V),Pt l/\l.length=i+1/\bz H' p dq (n+3*i)/\KB [p,dq] H H'/\H' d=some (.lst (iV (nZ l)))/\σ=[some (.ref p),some (.int (m:Nat)),some (.ref d),o3,o4,none]) ⟨[0],none,none,⟨by decide,by simp,.inl rfl⟩,rfl,hd.kb k1,k1.all,s1,rfl⟩ ?_ ?_
  ·rintro i σ H' hi ⟨l,o3,o4,hl,hli,hD,hk,gd,rfl⟩;unfold bC;refine ar λM hM=>?_;exists au gd,bM;refine⟨.inl ⟨rfl,_,ck.of gd⟩,p,dq,_,_,rfl,hD,by lia,by lia,by lia,λa H2 ha D2 k2=>?_⟩
   have ha':a<l.length:=by lia
   have hle:=l.length_eraseIdx_of_lt ha';have gd2:=k2 _ _ gd nd;have six:seqIndex? (a:Int) (iV (nZ l)).length=some a:=by
    rw[bM];unfold seqIndex?;simp;lia
   have enZ:(iV (nZ l))[a]?=some (.int ((l[a]:Nat):Int)):=by unfold iV nZ;rw[I_,I_,IJ ha'];rfl
   refine⟨d,_,_,a,_,rfl,rfl,gd2,by lia,by lia,six,enZ,?_⟩
   rw[Gn];have D3:=setD (o:=.lst (iV (nZ (l.eraseIdx a)))) D2;have K3:=keepD (o:=.lst (iV (nZ (l.eraseIdx a)))) (hk.trans k2);have g3:upd H2 d (.lst (iV (nZ (l.eraseIdx a)))) d=_:=aa;generalize upd H2 d (.lst (iV (nZ (l.eraseIdx a))))=H3 at *;walk_at "rz";rw[show ((l[a]:Nat):Int)+1=((l[a]+1:Nat):Int) from rfl,hM];clear hM M;refine ar λM hM=>?_;exists au g3,bM,hle;refine⟨.inl ⟨rfl,_,ck.of g3⟩,p,dq,_,_,rfl,D3,by lia,by lia,by lia,λv H4 hv D4 k4=>?_⟩
   have g4:=k4 _ _ g3 nd;refine⟨d,_,_,_,rfl,rfl,g4,by lia,by lia,JU (show _<=20 by rw[bM];lia) (by decide),?_⟩
   rw[bM,x9,hle];generalize hl2:iQ (l.eraseIdx a) (min (v:Int).toNat (l.length-1)) (l[a]+1)=l2;have le2:l2.length=l.length:=by rw[<- hl2,zV,hle];lia
   have pe2:l2.Perm ((l[a]+1)::l.eraseIdx a):=by rw[<- hl2];exact oz ..
   clear hl2;have D5:=setD (o:=.lst (iV (nZ l2))) D4;have K5:=keepD (o:=.lst (iV (nZ l2))) (K3.trans k4);have g5:upd H4 d (.lst (iV (nZ l2))) d=_:=aa;generalize upd H4 d (.lst (iV (nZ l2)))=H5 at *;rw[hM];clear hM M;dsimp only;refine pz λM hM=>?_;exists au g5,bM;refine⟨.inl ⟨rfl,_,ck.of g5⟩,p,dq,_,_,rfl,D5,by lia,by lia,by lia,λv H6 hv D6 k6=>?_⟩
   have g6:=k6 _ _ g5 nd;refine⟨d,_,_,_,rfl,rfl,g6,by lia,by lia,JU (show _<=20 by rw[bM];lia) (by decide),?_⟩
   rw[bM,x9];obtain⟨hP3,hL3⟩:=hl.next ha' (by lia) ((oz l2 (min (v:Int).toNat l2.length) (l[a]+1)).trans (List.Perm.cons _ pe2))
   rw[hM];exact⟨_,some _,some _,hP3,by lia,(setD D6).mono (by lia),keepD (K5.trans k6),aa,rfl⟩
  ·rintro σ H' ⟨l,o3,o4,hl,hli,hD,hk,gd,rfl⟩;have hlm:l.length=m:=by lia
   show N _ _;rw[hN];clear hN N;have h1:∀x∈l,1<=x:=by
    rcases hl.one with e|e
    ·exfalso;rw[e] at hlm;simp at hlm;lia
    ·exact e
   have fin:∀(l:List Nat) (G:Hp),G d=some (.lst (iV (nZ l)))->KB [p,dq] H G->l.length=m->(∀x∈l,1<=x/\x<=20)->Kr.ks 40 l<=2^40->bz G p dq (n+60)->∀t,G t=none->Q (.ref t) (upd G t (.tup (iV (nZ l)))):=λl G hg hK a b c e t ht=>by
    refine q (nZ l) t _ (e.kb (KB.new ht)) (hK.trans (KB.new ht)) aa (by rw[iT];exact a) ⟨by rw[iT];lia,by rw[iT];lia,λx hx=>?_⟩ (C5 c)
    obtain⟨y,hy,rfl⟩:=JD.mp hx;have:=b y hy;exact⟨by lia,by lia⟩
   refine ar λN hN=>?_;walk_at "rz";refine⟨p,dq,2,_,rfl,hD,by lia,by decide,by decide,λv H2 hv D2 k2=>?_⟩
   have g2:=k2 _ _ gd nd;by_cases c:(v:Int)=0
   ·exists IW c;refine⟨p,dq,(m:Nat),_,rfl,D2,by lia,by lia,by lia,λa H3 ha D3 k3=>?_⟩
    have g3:=k3 _ _ g2 nd;have ha':a<l.length:=by lia
    have ea:bU (iV (nZ l)) (a:Int)=some (.int ((l[a]:Nat):Int)):=b7 (by unfold iV nZ;rw[I_,I_,IJ ha'];rfl)
    exists au g3,ea;refine⟨p,dq,5,_,rfl,D3,by lia,by decide,by decide,λv H4 hv D4 k4=>?_⟩
    have g4:=k4 _ _ g3 nd;obtain⟨nz,enz,hnz⟩:∃nz:Nat,(if ((l[a]:Nat):Int)+1+(v:Int)<20 then ((l[a]:Nat):Int)+1+(v:Int) else 20)=(nz:Int)/\l[a]<=nz/\nz<=20:=by
     have:=hl.le _ (Ji ha');by_cases c:((l[a]:Nat):Int)+1+(v:Int)<20
     ·rw[IW c];exact⟨l[a]+1+v,by lia,by lia,by lia⟩
     ·rw[IT c];exact⟨20,rfl,by lia,by lia⟩
    have ei:j0 (iV (nZ l)).length (a:Int)=some a:=by rw[bM,mY (by lia) (by lia)];simp
    exists enz,g4,ei;have es:(iV (nZ l)).set a (.int (nz:Int))=iV (nZ (l.set a nz)):=by unfold iV nZ;rw[L4,L4]
    rw[es];have D5:=setD (o:=.lst (iV (nZ (l.set a nz)))) D4;have K5:=keepD (o:=.lst (iV (nZ (l.set a nz)))) ((hk.trans k2).trans (k3.trans k4));have g5:upd H4 d (.lst (iV (nZ (l.set a nz)))) d=_:=aa;generalize upd H4 d (.lst (iV (nZ (l.set a nz))))=H5 at *;rw[hN];clear hN N;exists au g5;refine fin _ H5 g5 K5 (by rw[KA];exact hlm) (λx hx=>?_) (IY (zg ha' hnz.1) (Nq hl.ks)) (D5.mono (by lia))
    rcases Kb hx with hx|rfl
    ·exact⟨h1 x hx,by have:=hl.le x hx;lia⟩
    ·exact⟨by have:=h1 _ (Ji ha');lia,hnz.2⟩
   ·exists IT c;rw[hN];clear hN N;exists au g2;exact fin l H2 g2 (hk.trans k2) hlm (λx hx=>⟨h1 x hx,by have:=hl.le x hx;lia⟩) (Nq hl.ks) (D2.mono (by lia))
noncomputable def xc(K:Og):Sp:=λvs H Q _=>∃(p dq:Addr) (n:Nat),vs=[.ref p]/\bz H p dq n/\n<2^38/\∀(bk:List (List Int)) (b:Addr) H',bz H' p dq (n+200)->KB [p,dq] H H'->qc H' b bk->Bk bk->Q (.ref b) H'
theorem zW(T:Txt K mg)(F:HasFn K mg "_law_book" dy ["deck"])(h_law_draw:aq P w K mg base bq 2 "_law_draw" ["deck","most"] dU)(h_law_lengths:aq P w K mg base bq 3 "_law_lengths" ["deck","many"] (rq K)):aq P w K mg base bq 4 "_law_book" ["deck"] (xc K):=by
 refine F.gU nu (λvs H Q E h=>?_) (λf cdv A outer s H vs Q E hr h=>?_)
 ·obtain⟨p,dq,n,rfl,_⟩:=h;rfl
 ·have hu:=bo hr;obtain⟨p,dq,n,rfl,hd,hn,q⟩:=h;refine⟨_,(Z.ai (Z.d9 (Z.bf bB (Z.fn h_law_draw (hr.mono (by decide)) rfl av (Z.cons (Z.v 0) (Z.cons Z.int Z.nil))) Z.int) (Z.aA (Z.ret (Z.tup (Z.cons (Z.op (Y.nJ K rfl) (Z.tup (Z.cons Z.int Z.nil)) Z.int) (Z.cons (Z.op (Y.nJ K rfl) (Z.tup (Z.cons Z.int Z.nil)) Z.int) (Z.cons (Z.op (Y.nJ K rfl) (Z.tup (Z.cons Z.int Z.nil)) Z.int) Z.nil)))))) Z.bG)
   (Z.aA (Z.ret (Z.ct (Z.dC K rfl) rfl T.dG (by decide +kernel) (Z.cons (Z.comp (osc:=ae dy) (ON:=["deck"]) (own:=["many"]) (N:=["many","deck"]) ⟨rfl,by decide +kernel,rfl,by decide +kernel,by decide +kernel,by decide +kernel,by decide +kernel,by decide +kernel⟩ rfl rfl rfl (Z.any K rfl (Z.tup (Z.consts rfl))) (λ_ _ _ _=>(Z.bp (i:=0) (show List.Nodup (["many","deck"]:List Str) by decide +kernel) rfl (by right))) (λ_ _ _ _=>Z.sH) (λ_ _ _ _=>(Z.fn h_law_lengths (hr.mono (by decide)) rfl av (Z.cons (Z.v 1) (Z.cons (Z.v 0) Z.nil))))) Z.nil))))),?_⟩
  refine ar λN hN=>?_;walk_at "rz";refine⟨p,dq,4,_,rfl,hd,by lia,by decide,by decide,λv H1 hv D1 k1=>?_⟩
  by_cases c:(v:Int)=0
  ·exists IW c;have rep:∀(G:Hp) (j k:Int) (Q:VK),1<k->k<=20->(∀t u G',KB [] G G'->G t=none->u≠t->G' u=some (.tup (iV (List.replicate k.toNat j)))->Q (.ref u) G')->(0+1<=sizeLine/\∀t,G t=none->Y.Ct K (.ref t) (.int k) (upd G t (.tup [.int j])) Q):=λG j k Q h1 h2 q=>by
    refine⟨by decide,λt ht=>.inr ⟨t,k,_,rfl,rfl,bu.of aa,by simp,(show 1<=1000 by decide),h1,by lia,λu hu=>?_⟩⟩
    have e:(List.replicate k.toNat [V.int j]).flatten=iV (List.replicate k.toNat j):=by
     unfold iV;rw[K8];generalize k.toNat=m
     induction m with
     |zero=>rfl
     |succ m ih=>rw[J9,Kl,ih];rfl
    rw[e];have ut:u≠t:=λz=>by rw[z,aa] at hu;cases hu
    exact q t u _ ((KB.new ht).trans (KB.new hu)) ht ut aa
   refine rep H1 4 9 _ (by decide) (by decide) λt1 u1 G1 g1 _ _ e1=>?_
   refine rep G1 5 17 _ (by decide) (by decide) λt2 u2 G2 g2 _ _ e2=>?_
   refine rep G2 3 8 _ (by decide) (by decide) λt3 u3 G3 g3 _ _ e3=>⟨by decide,λb hb=>?_⟩
   have kk:KB [] H1 (upd G3 b (.tup [.ref u1,.ref u2,.ref u3])):=((g1.trans g2).trans g3).trans (KB.new hb);have up:∀{x:Addr} {o:HO},G3 x=some o->upd G3 b (.tup [.ref u1,.ref u2,.ref u3]) x=some o:=λe=>by rw[af (ao e hb)];exact e
   refine q [List.replicate 9 4,List.replicate 17 5,List.replicate 8 3] b _ ((D1.kb kk).mono (by lia)) (k1.trans kk.all) ⟨[u1,u2,u3],aa,rfl,λi a e=>?_⟩ ⟨_,_,_,rfl,rfl,rfl,rfl,λl hl=>?_⟩
   ·have hi:i<3:=(IQ.mp e).1;rcases j4 hi with rfl|rfl|rfl
    ·cases e;exact up (g3 _ _ (g2 _ _ e1 (by simp)) (by simp))
    ·cases e;exact up (g3 _ _ e2 (by simp))
    ·cases e;exact up e3
   have rr:∀(n:Nat) (k:Int),0<n->n<=20->1<=k->k<=20->jl (List.replicate n k):=λn k a b c d=>⟨by rw[Je];exact a,by rw[Je];exact b,λx hx=>by rw[(JV.mp hx).2];lia⟩
   rcases IX.mp hl with rfl|hl
   ·exact⟨rr 9 4 (by decide) (by decide) (by decide) (by decide),by decide +kernel⟩
   ·rcases IX.mp hl with rfl|hl
    ·exact⟨rr 17 5 (by decide) (by decide) (by decide) (by decide),by decide +kernel⟩
    ·rw[Jg.mp hl];exact⟨rr 8 3 (by decide) (by decide) (by decide) (by decide),by decide +kernel⟩
  ·exists IT c;rw[hN];clear hN N;walk_at "rz";refine⟨by decide,λt ht=>?_⟩
   have k2:KB [] H1 (upd H1 t (.tup [.int 9,.int 17,.int 8])):=KB.new ht;have s2:upd H1 t (.tup [.int 9,.int 17,.int 8]) t=some (.tup (iV [9,17,8])):=aa;generalize upd H1 t (.tup [.int 9,.int 17,.int 8])=H2 at *;have D2:=D1.kb k2;refine cm (xs:=iV [9,17,8]) (by decide) (λD i ys H'=>H2 D=none/\H' D=some (.lst ys)/\bz H' p dq (n+1+60*i)/\KB [p,dq] H2 H'/\∃(as:List Addr) (done:List (List Int)),ys=as.map V.ref/\as.length=i/\done.map List.length=[9,17,8].take i/\(∀l∈done,jl l/\nj l=true)/\∀(j:Nat) (a:Addr),as[j]?=some a->H' a=some (.tup (iV (done.getD j [])))) (λD hD=>⟨hD,aa,D2.kb (KB.new hD),KB.new hD,[],[],rfl,rfl,rfl,(λl h=>nomatch h),λj a e=>nomatch e⟩) (λD i ys H' h=>⟨h.2.1,by obtain⟨_,_,_,_,as,_,rfl,e,_⟩:=h;rw[IP,e]⟩) (λD i ys H' h=>bu.of (h.2.2.2.1 _ _ s2 λz=>D2.nt _ z _ s2)) ?_ ?_
   ·rintro D i ys H' x R hx ⟨g0,g1,gd,gk,as,done,rfl,ga,gl,gok,gat⟩ kk;obtain⟨hi,rfl⟩:=nI hx;have nD:=D2.new g0;have dl:done.length=i:=by
     have:=JH List.length gl;rw[IP,Jn] at this;have h3:([9,17,8]:List Nat).length=3:=rfl;have hi3:i<3:=hi;lia
    have key:∀m:Nat,2<=m->m<=17->([9,17,8]:List Nat).take (i+1)=([9,17,8]:List Nat).take i++[m]->rq K [.ref p,.int (m:Nat)] H' R E0:=λm m2 m17 em=>by
     refine⟨p,dq,m,_,rfl,gd,by have:i<3:=hi;lia,m2,m17,λls a H5 D5 k5 e5 l1 l2 l3=>?_⟩
     have gD:=k5 _ _ g1 nD;have aD:a≠D:=λz=>by rw[z,gD] at e5;cases e5
     have pD:p≠D:=λz=>nD (by simp[z])
     have qD:dq≠D:=λz=>nD (by simp[z])
     refine kk _ _ gD ⟨g0,aa,(D5.keep (KB.set (ex:=[D]) (by simp)) (by simpa using pD) (by simpa using qD)).mono (by lia),λu o e z=>by rw[af (ao e g0)];exact k5 _ _ (gk _ _ e z) z,as++[a],done++[ls],by rw[Jm];rfl,by rw[IL,ga];rfl,by rw[Jm,gl,em];rw[Jy,l1];rfl,λl hl=>?_,λj b e=>?_⟩
     ·rcases JG.mp hl with hl|hl
      ·exact gok l hl
      ·rw[Jg.mp hl];exact⟨l2,l3⟩
     ·rcases JL j as.length with hj|hj
      ·rw[Jx hj] at e;have e6:=gd.tup k5 (gat j b e);rw[af (λz=>by rw[z,gD] at e6;cases e6),e6,Jc,Jc,Jx (by lia)]
      ·rw[Jk hj] at e;obtain⟨hj2,rfl⟩:=IQ.mp e;have hj3:j=as.length:=by simp at hj2;lia
       subst hj3;simp only[JP,Lp];rw[af aD,e5,Jc,Jk (by lia),show as.length-done.length=0 by lia]
       rfl
    walk_at "rz";rcases j4 (show i<3 from hi) with rfl|rfl|rfl
    ·exact key 9 (by decide) (by decide) rfl
    ·exact key 17 (by decide) (by decide) rfl
    ·exact key 8 (by decide) (by decide) rfl
   ·rintro D ys H' ⟨g0,g1,gd,gk,as,done,rfl,ga,gl,gok,gat⟩;exists au g1;intro b hb;have gl':done.map List.length=[9,17,8]:=gl;have h3:done.length=3:=by have:=JH List.length gl';rw[IP] at this;exact this
    obtain⟨x,y,z,rfl⟩:=pZ h3;simp only[Jy,LM,List.cons.injEq] at gl';refine q [x,y,z] b _ ((gd.kb (KB.new hb)).mono (by show n+1+60*3<=_;lia)) (k1.trans (k2.all.trans (gk.trans (KB.new hb)))) ⟨as,aa,by rw[ga];rfl,λj a e=>?_⟩ ⟨x,y,z,rfl,gl'.1,gl'.2.1,gl'.2.2.1,gok⟩
    have:=gat j a e;rw[af (ao this hb)];exact this
noncomputable def oI:Sp:=λvs H Q _=>∃(p dq:Addr) (n:Nat),vs=[.ref p]/\bz H p dq n/\n<2^40/\∀(v:Nat) H',bz H' p dq (n+2)->KB [p,dq] H H'->v<65536->Q (.int (v:Nat)) H'
theorem uW(T:Txt K mg)(F:HasFn K mg "_law_number" dk ["deck"])(h_law_draw:aq P w K mg base bq 2 "_law_draw" ["deck","most"] dU):aq P w K mg base bq 3 "_law_number" ["deck"] oI:=by
 refine F.gU eA (λvs H Q E h=>?_) (λf cdv A outer s H vs Q E hr h=>?_)
 ·obtain⟨p,dq,n,rfl,_⟩:=h;rfl
 ·have hu:=bo hr;obtain⟨p,dq,n,rfl,hd,hn,q⟩:=h;refine⟨_,(Z.ai (Z.set (i:=1) eA.nd rfl (by right) (Z.fn h_law_draw (hr.mono (by decide)) rfl av (Z.cons (Z.v 0) (Z.cons Z.int Z.nil))))
   (Z.ai (Z.d9 (Z.bf bB (Z.v 1) Z.int) (Z.aA (Z.ret Z.int)) Z.bG)
   (Z.ai (Z.set (i:=2) eA.nd rfl (by right) (Z.op CV Z.int (Z.op bX (Z.v 1) Z.int)))
   (Z.aA (Z.ret (Z.op (Z.aR K rfl) (Z.v 2) (Z.fn h_law_draw (hr.mono (by decide)) rfl av (Z.cons (Z.v 0) (Z.cons (Z.v 2) Z.nil))))))))),?_⟩
  refine ar λN hN=>?_;walk_at "rz";refine⟨p,dq,17,n,rfl,hd,by lia,by decide,by decide,λz H1 hz D1 k1=>?_⟩
  rw[hN];clear hN N;refine ar λN hN=>?_;by_cases a0:(z:Int)=0
  ·exists IW a0;exact q 0 H1 (D1.mono (by lia)) k1 (by decide)
  ·exists IT a0;rw[hN];clear hN N;refine ar λN hN=>?_;walk_at "rz";refine⟨⟨by lia,by lia,by decide⟩,?_⟩
   rw[hN];clear hN N;obtain⟨j,ej,hj⟩:∃j:Nat,((z:Int)-1).toNat=j/\j<=15:=⟨_,rfl,by lia⟩
   rw[ej,Int.one_mul];have p1:(0:Int)<2^j:=MW (by decide)
   have p2:(2:Int)^j<=2^15:=by
    have:2^j<=2^15:=MG (by decide) hj
    exact_mod_cast this
   generalize (2:Int)^j=t at p1 p2;walk_at "rz";refine⟨p,dq,t,n+1,rfl,D1,by lia,p1,by lia,λv H2 hv D2 k2=>?_⟩
   walk_at "rz";obtain⟨k,ek⟩:∃k:Nat,t+(v:Int)=k:=⟨(t+(v:Int)).toNat,by lia⟩
   rw[ek];exact q k H2 D2 (k1.trans k2) (by lia)
theorem two8{c:Nat}(h1:(c:Int)<2):∃m:Int,bU [V.int 2,.int 8] (c:Int)=some (.int m)/\0<m/\m<=8:=by
 have:c=0\/c=1:=by lia
 rcases this with rfl|rfl
 ·exact⟨2,rfl,by decide,by decide⟩
 ·exact⟨8,rfl,by decide,by decide⟩
theorem oN{p:Addr}{n:Nat}(D:bz H p dq n)(hn:n<2^49)(q:∀b H',b<8->bz H' p dq (n+2)->KB [p,dq] H H'->Q (.str (cF b)) H'):
  0+1+1<=sizeLine/\∀m,H m=none->dU [.ref p,.int 2] (upd H m (.lst [.int 2,.int 8])) (λy H2=>CT K (.ref m) y H2 λx H1=>dU [.ref p,x] H1 (λy H2=>CT K (.str (Str.ofString "abcdefgh")) y H2 Q) E0) E0:=by
 refine⟨by decide,λm hm=>⟨p,dq,2,n,rfl,D.kb (KB.new hm),by lia,by decide,by decide,λd H2 hd D2 k2=>?_⟩⟩
 have s2:=au (k2 m _ aa (D.new hm));have kk:KB [p,dq] H H2:=(KB.new hm).trans k2;obtain⟨x,ha,x0,x8⟩:=two8 hd;exists s2,ha;refine⟨p,dq,x,n+1,rfl,D2,by lia,x0,by lia,λy H3 hy D3 k3=>?_⟩
 have hb:=Cz (show 0<=(y:Int) by lia) (show (y:Int)<8 by lia)
 exists hb;exact⟨by decide +kernel,q y H3 (by lia) D3 (kk.trans k3)⟩
noncomputable def xK(K:Og):Sp:=λvs H Q _=>∃(p dq:Addr) (many n:Nat),vs=[.ref p,.int (many:Nat)]/\bz H p dq n/\n<2^38/\many<1000/\∀(r:Row) (a:Addr) H',r.Ok many->H' a=some (.tup r.vs)->bz H' p dq (n+5)->KB [p,dq] H H'->Q (.ref a) H'
theorem EW(T:Txt K mg)(F:HasFn K mg "_law_row" fi ["deck","goals"])(h_law_draw:aq P w K mg base bq 2 "_law_draw" ["deck","most"] dU)(h_law_number:aq P w K mg base bq 3 "_law_number" ["deck"] oI):aq P w K mg base bq 4 "_law_row" ["deck","goals"] (xK K):=by
 refine F.gU eG (λvs H Q E h=>?_) (λf cdv A outer s H vs Q E hr h=>?_)
 ·obtain⟨p,dq,many,n,rfl,_⟩:=h;rfl
 ·have hu:=bo hr;obtain⟨p,dq,many,n,rfl,hd,hn,hmy,q⟩:=h;refine⟨_,(Z.ai (Z.set (i:=2) eG.nd rfl (by right) (Z.lst (Z.consts rfl)))
   (Z.ai (Z.set (i:=3) eG.nd rfl (by right) (Z.ix (Z.az K rfl hu) (Z.v 2) (Z.fn h_law_draw (hr.mono (by decide)) rfl av (Z.cons (Z.v 0) (Z.cons Z.int Z.nil)))))
   (Z.ai (Z.set (i:=4) eG.nd rfl (by right) (Z.ix (Z.az K rfl hu) Z.str (Z.fn h_law_draw (hr.mono (by decide)) rfl av (Z.cons (Z.v 0) (Z.cons (Z.ix (Z.az K rfl hu) (Z.lst (Z.consts rfl)) (Z.fn h_law_draw (hr.mono (by decide)) rfl av (Z.cons (Z.v 0) (Z.cons Z.int Z.nil)))) Z.nil)))))
   (Z.ai (Z.d9 (Z.bf bB (Z.v 3) Z.str) (Z.aA (Z.ret (Z.tup (Z.cons (Z.v 3) (Z.cons (Z.v 4) (Z.cons (Z.fn h_law_number (hr.mono (by decide)) rfl av (Z.cons (Z.v 0) Z.nil)) Z.nil)))))) Z.bG)
   (Z.ai (Z.d9 (Z.bf (Z.x_ K rfl hu) (Z.v 3) (Z.tup (Z.consts rfl))) (Z.aA (Z.ret (Z.tup (Z.cons (Z.v 3) (Z.cons (Z.v 4) (Z.cons (Z.ix (Z.az K rfl hu) Z.str (Z.fn h_law_draw (hr.mono (by decide)) rfl av (Z.cons (Z.v 0) (Z.cons (Z.ix (Z.az K rfl hu) (Z.lst (Z.consts rfl)) (Z.fn h_law_draw (hr.mono (by decide)) rfl av (Z.cons (Z.v 0) (Z.cons Z.int Z.nil)))) Z.nil)))) Z.nil)))))) Z.bG)
   (Z.ai (Z.d9 (Z.bf (Z.x_ K rfl hu) (Z.v 3) (Z.tup (Z.consts rfl))) (Z.aA (Z.ret (Z.tup (Z.cons (Z.v 3) (Z.cons (Z.v 4) Z.nil))))) Z.bG)
   (Z.ai (Z.d9 (Z.bf bB (Z.v 3) Z.str) (Z.aA (Z.ret (Z.tup (Z.cons (Z.v 3) (Z.cons (Z.fn h_law_draw (hr.mono (by decide)) rfl av (Z.cons (Z.v 0) (Z.cons (Z.op (Z.aR K rfl) (Z.v 1) Z.int) Z.nil))) Z.nil))))) Z.bG)
   (Z.ai (Z.d9 (Z.bf bB (Z.v 3) Z.str) (Z.aA (Z.ret (Z.tup (Z.cons (Z.v 3) (Z.cons (Z.v 4) (Z.cons (Z.fn h_law_draw (hr.mono (by decide)) rfl av (Z.cons (Z.v 0) (Z.cons (Z.op (Z.aR K rfl) (Z.v 1) Z.int) Z.nil))) Z.nil)))))) Z.bG)
   (Z.aA (Z.ret (Z.tup (Z.cons (Z.v 3) Z.nil)))))))))))),?_⟩
  refine ar λN hN=>?_;walk_at "rz";refine⟨by decide,λl hl=>?_⟩
  have k1:KB [] H (upd H l (.lst [.str (Str.ofString "put"),.str (Str.ofString "put"),.str (Str.ofString "add"),.str (Str.ofString "sub"),.str (Str.ofString "copy"),.str (Str.ofString "tell"),.str (Str.ofString "tell"),.str (Str.ofString "hear"),.str (Str.ofString "jump"),.str (Str.ofString "zero"),.str (Str.ofString "zero"),.str (Str.ofString "halt")])):=KB.new hl;have s1:upd H l (.lst [.str (Str.ofString "put"),.str (Str.ofString "put"),.str (Str.ofString "add"),.str (Str.ofString "sub"),.str (Str.ofString "copy"),.str (Str.ofString "tell"),.str (Str.ofString "tell"),.str (Str.ofString "hear"),.str (Str.ofString "jump"),.str (Str.ofString "zero"),.str (Str.ofString "zero"),.str (Str.ofString "halt")]) l=_:=aa;generalize upd H l _=H1 at *;have D1:=hd.kb k1;have nl:=hd.new hl;rw[hN];clear hN N;refine ar λN hN=>?_;walk_at "rz";refine⟨p,dq,12,n,rfl,D1,by lia,by decide,by decide,λc H2 hc D2 k2=>?_⟩
  have s2:=k2 _ _ s1 nl;obtain⟨v,hv,ha⟩:=DY (xs:=[V.str (Str.ofString "put"),.str (Str.ofString "put"),.str (Str.ofString "add"),.str (Str.ofString "sub"),.str (Str.ofString "copy"),.str (Str.ofString "tell"),.str (Str.ofString "tell"),.str (Str.ofString "hear"),.str (Str.ofString "jump"),.str (Str.ofString "zero"),.str (Str.ofString "zero"),.str (Str.ofString "halt")]) (i:=c) hc;exists au s2,ha;have kk2:KB [p,dq] H H2:=k1.all.trans k2;clear ha hc k1 k2 s1 s2 nl hl;rw[hN];clear hN N;refine ar λN hN=>?_;walk_at "rz";refine oN D2 (by lia) λbn H3 hb8 D3 k3=>?_
  have kk3:=kk2.trans k3;clear k3 D2 kk2 D1;rw[hN];clear hN N;have hv6:v=.str "put"\/(∃w,v=.str (w2 w))\/(∃w,v=.str (w1 w))\/v=.str "jump"\/v=.str "zero"\/v=.str "halt":=by
   simp only[IX,Js,JT] at hv;rcases hv with h|h|h|h|h|h|h|h|h|h|h|h<;>subst h<;>first|exact .inl rfl|exact .inr (.inl ⟨0,rfl⟩)|exact .inr (.inl ⟨1,rfl⟩)|exact .inr (.inl ⟨2,rfl⟩)|exact .inr (.inr (.inl ⟨0,rfl⟩))|exact .inr (.inr (.inl ⟨1,rfl⟩))|exact .inr (.inr (.inr (.inl rfl)))|exact .inr (.inr (.inr (.inr (.inl rfl))))|exact .inr (.inr (.inr (.inr (.inr rfl))))
  clear hv;have tell:∀(r:Row) (G:Hp) (m:Nat),r.Ok many->bz G p dq m->m<=n+5->KB [p,dq] H G->∀t,G t=none->Q (.ref t) (upd G t (.tup r.vs)):=λr G m ok D hm k t ht=>q r t _ ok aa ((D.kb (KB.new ht)).mono hm) (k.trans (KB.new ht));refine ar λN hN=>?_;rcases hv6 with rfl|⟨u,rfl⟩|⟨u,rfl⟩|hv
  ·exists (show (Str.ofString "put"=Str.ofString "put")=True from eq_true rfl),Mo;refine⟨p,dq,n+3,rfl,D3,by lia,λk H4 D4 k4 hk=>⟨by decide,λt ht=>?_⟩⟩
   exact tell (.put bn k) H4 _ ⟨hb8,hk⟩ D4 (by lia) (kk3.trans k4) t ht
  ·have n1:∀u,w2 u≠"put":=by decide +kernel
   have i1:∀u,hJ (.str (w2 u)) [.str "add",.str "sub",.str "copy"]=true:=by decide +kernel
   exists IT (n1 u);rw[hN];clear hN N;refine ar λN hN=>?_;exists i1 u;refine⟨by decide,λt0 ht0=>⟨rfl,rfl,?_⟩⟩
   refine oN (D3.kb (KB.new ht0)) (by lia) λb2 H4 hb2 D4 k4=>⟨by decide,λt ht=>?_⟩
   exact tell (.two u bn b2) H4 _ ⟨hb8,hb2⟩ D4 (by lia) ((kk3.trans (KB.new ht0)).trans k4) t ht
  ·have n1:∀u,w1 u≠"put":=by decide +kernel
   have i1:∀u,hJ (.str (w1 u)) [.str "add",.str "sub",.str "copy"]=false:=by decide +kernel
   have i2:∀u,hJ (.str (w1 u)) [.str "tell",.str "hear"]=true:=by decide +kernel
   exists IT (n1 u);rw[hN];clear hN N;refine ar λN hN=>?_;exists i1 u;refine⟨by decide,λt0 ht0=>⟨rfl,rfl,?_⟩⟩
   rw[hN];clear hN N;refine ar λN hN=>?_;exists i2 u;refine⟨by decide,λt1 ht1=>⟨rfl,rfl,by decide,λt ht=>?_⟩⟩
   exact tell (.one u bn) _ _ hb8 ((D3.kb (KB.new ht0)).kb (KB.new ht1)) (by lia) ((kk3.trans (KB.new ht0)).trans (KB.new ht1)) t ht
  ·have n1:∀z∈([("jump"),("zero"),("halt")]:List Str),z≠"put"/\hJ (.str z) [.str "add",.str "sub",.str "copy"]=false/\hJ (.str z) [.str "tell",.str "hear"]=false:=by decide +kernel
   obtain⟨z,hz,rfl⟩:∃z∈([("jump"),("zero"),("halt")]:List Str),v=.str z:=by rcases hv with rfl|rfl|rfl<;>exact⟨_,by simp,rfl⟩
   obtain⟨e1,e2,e3⟩:=n1 z hz;exists IT e1;rw[hN];clear hN N;refine ar λN hN=>?_;exists e2;refine⟨by decide,λt0 ht0=>⟨rfl,rfl,?_⟩⟩
   rw[hN];clear hN N;refine ar λN hN=>?_;exists e3;refine⟨by decide,λt1 ht1=>⟨rfl,rfl,?_⟩⟩
   have D4:=(D3.kb (KB.new (o:=.tup [.str "add",.str "sub",.str "copy"]) ht0)).kb (KB.new (o:=.tup [.str "tell",.str "hear"]) ht1);have kk4:=(kk3.trans (KB.new (o:=.tup [.str "add",.str "sub",.str "copy"]) ht0)).trans (KB.new (o:=.tup [.str "tell",.str "hear"]) ht1);rw[hN];clear hN N;generalize upd (upd H3 t0 _) t1 _=H4 at *;refine ar λN hN=>?_;rcases hv with hv|hv
   ·cases hv;exists IW (rfl:Str.ofString "jump"=Str.ofString "jump");refine⟨p,dq,(many:Int)+1,n+3,rfl,D4,by lia,by lia,by lia,λg H5 hg D5 k5=>⟨by decide,λt ht=>?_⟩⟩
    exact tell (.jump g) H5 _ (show g<=many by lia) D5 (by lia) (kk4.trans k5) t ht
   ·have nh:z≠"jump":=by rcases hv with hv|hv<;>cases hv<;>decide +kernel
    exists IT nh;rw[hN];clear hN N;refine ar λN hN=>?_;rcases hv with hv|hv
    ·cases hv;exists IW (rfl:Str.ofString "zero"=Str.ofString "zero");refine⟨p,dq,(many:Int)+1,n+3,rfl,D4,by lia,by lia,by lia,λg H5 hg D5 k5=>⟨by decide,λt ht=>?_⟩⟩
     exact tell (.zero bn g) H5 _ ⟨hb8,(show g<=many by lia)⟩ D5 (by lia) (kk4.trans k5) t ht
    ·cases hv;have nz:Str.ofString "halt"≠Str.ofString "zero":=by decide +kernel
     exists IT nz;rw[hN];clear hN N;walk_at "rz";exact⟨by decide,λt ht=>tell .halt H4 _ trivial D4 (by lia) kk4 t ht⟩
noncomputable def HF(H:Hp)(ca:Addr)(cd:List (List (List Nat))):Prop:=∃a0 a1 a2,H ca=some (.lst [.ref a0,.ref a1,.ref a2])/\H a0=some (.lst (wV (cd.getD 0 [])))/\H a1=some (.lst (wV (cd.getD 1 [])))/\H a2=some (.lst (wV (cd.getD 2 [])))
noncomputable def oC(cd:List (List (List Nat))):Pk->List Nat
 |.box b=>aX cd (2,b)
 |.num n=>aX cd (1,bE n)++(dZ n).tail
 |.goal _=>[]
noncomputable def Pk.of(w:Str):Pk->Prop
 |.box _=>True
 |.num _=>w=Str.ofString "put"
 |.goal _=>w≠Str.ofString "put"
theorem Ea(r:Row):∀p∈r.fG,p.of r.wd:=by
 cases r with
 |put b n=>intro p hp;simp only[Row.fG,IX,Js,JT] at hp;rcases hp with rfl|rfl;exact trivial;exact rfl
 |two u a b=>intro p hp;simp only[Row.fG,IX,Js,JT] at hp;rcases hp with rfl|rfl<;>exact trivial
 |one u b=>intro p hp;simp only[Row.fG,IX,Js,JT] at hp;subst hp;exact trivial
 |jump g=>intro p hp;simp only[Row.fG,IX,Js,JT] at hp;subst hp;show Str.ofString "jump"≠Str.ofString "put";decide +kernel
 |zero b g=>intro p hp;simp only[Row.fG,IX,Js,JT] at hp;rcases hp with rfl|rfl;exact trivial;show Str.ofString "zero"≠Str.ofString "put";decide +kernel
 |halt=>intro p hp;cases hp
theorem qU(cd:List (List (List Nat)))(r:Row):bK cd r=aX cd (0,r.wi)++r.fG.flatMap (oC cd):=by
 cases r<;>simp[bK,g_,Row.fG,Pk.zT,oC,iq]
theorem Bp(l:List Nat):Y.iw (wd l) (some 1) none=wd l.tail:=by
 unfold Y.iw wd;congr 2;show Y.rS l (some 1) none=l.tail;unfold Y.rS;rw[HT.fU,show (some (1:Int))=some ((1:Nat):Int) from rfl,HT.fo]
 cases l with
 |nil=>rfl
 |cons x l=>simp
theorem u4(x:V)(xs:List V):eW (x::xs) (some 1) none=xs:=by
 unfold eW;rw[HT.fU,show (some (1:Int))=some ((1:Nat):Int) from rfl,HT.fo];simp
theorem xY{x:List Nat}(h:ws[i]?=some x):bU (wV ws) (i:Int)=some (.str (wd x)):=b7 (by unfold wV;rw[I_,h];rfl)
noncomputable def nN(K:Og):Sp:=λvs H Q _=>∃(ra ca:Addr) (r:Row) (k:Nat) (cd:List (List (List Nat))),vs=[.ref ra,.ref ca]/\H ra=some (.tup r.vs)/\HF H ca cd/\r.Ok k/\Cd cd/\∀H',KB [] H H'->Q (.str (wd (bK cd r))) H'
theorem xA(T:Txt K mg)(F:HasFn K mg "_law_plain" dJ ["row","codes"])(h_law_words:aq P w K mg base bq 1 "_law_words" [] tP)(h_law_bits:aq P w K mg base bq 1 "_law_bits" ["number","many"] iE):aq P w K mg base bq 2 "_law_plain" ["row","codes"] (nN K):=by
 refine F.gU cq (λvs H Q E h=>?_) (λf cdv A outer s H vs Q E hr h=>?_)
 ·obtain⟨ra,ca,r,k,cd,rfl,_⟩:=h;rfl
 ·have hu:=bo hr;obtain⟨ra,ca,r,k,cd,rfl,hra,hca,bc,hC,q⟩:=h;obtain⟨a0,a1,a2,g,g0,g1,g2⟩:=hca;rw[Row.Cp] at hra;rw[qU] at q;refine⟨_,(Z.ai (Z.set (i:=2) cq.nd rfl (by right) (Z.ix (Z.az K rfl hu) (Z.ix (Z.az K rfl hu) (Z.v 1) Z.int) (Z.bm K rfl PySem.F.plainAttrs_list PySem.F.slot_list_index PySem.F.type_list_index Y.zI (Z.IB h_law_words (hr.mono (by decide)) rfl av) (Z.cons (Z.ix (Z.az K rfl hu) (Z.v 0) Z.int) Z.nil))))
   (Z.ai (Z.fQ J6 rfl (Z.any K rfl (Z.slice (Z.G_ K rfl) (Z.v 0) (Z.qu Z.int) Z.yy)) (Z.bp (i:=3) cq.nd rfl (by right)) (Z.aA (Z.d9 (Z.qi K rfl (Z.cb (Z.F_ K rfl) rfl T.nq PyProof.Rows.boot_isinstance (Z.cons (Z.v 3) (Z.cons (Z.Iw (T:="str") rfl T.FN (by decide +kernel)) Z.nil)))) (Z.aA (Z.set (i:=2) cq.nd rfl (by right) (Z.op (Z.aR K rfl) (Z.v 2) (Z.ix (Z.az K rfl hu) (Z.ix (Z.az K rfl hu) (Z.v 1) Z.int) (Z.bm K rfl PySem.F.plainAttrs_str PySem.F.slot_str_index PySem.F.type_str_index Y.xo Z.str (Z.cons (Z.v 3) Z.nil)))))) (Z.aA (Z.d9 (Z.bf bB (Z.ix (Z.az K rfl hu) (Z.v 0) Z.int) Z.str) (Z.ai (Z.set (i:=4) cq.nd rfl (by right) (Z.IH K rfl PySem.F.plainAttrs_int PySem.F.slot_int_bit_length PySem.F.type_int_bit_length Y.zJ (Z.v 3)))
   (Z.aA (Z.set (i:=2) cq.nd rfl (by right) (Z.op (Z.aR K rfl) (Z.op (Z.aR K rfl) (Z.v 2) (Z.ix (Z.az K rfl hu) (Z.ix (Z.az K rfl hu) (Z.v 1) Z.int) (Z.v 4))) (Z.slice Y.j7 (Z.fn h_law_bits (hr.mono (by decide)) rfl av (Z.cons (Z.v 3) (Z.cons (Z.v 4) Z.nil))) (Z.qu Z.int) Z.yy))))) Z.bG)))))
   (Z.aA (Z.ret (Z.v 2))))),?_⟩
  obtain⟨c0,c1,c2,rfl,l0,l1,l2⟩:=hC.ex;have w0:=hC.at (p:=(0,r.wi)) (.inl ⟨rfl,r.tY⟩);refine ar λN hN=>?_;exists au g;refine⟨rfl,λl hl=>?_⟩;have k1:KB [] H (upd H l (.lst (bW.map V.str))):=KB.new hl;have s1:upd H l (.lst (bW.map V.str)) l=_:=aa;generalize upd H l (.lst (bW.map V.str))=H1 at *;exists ax (k1 _ _ hra (by simp))
  refine⟨.inl ⟨rfl,_,ck.of s1⟩,l,bW,r.wd,r.wi,rfl,s1,rfl,(Ce r).1,(Ce r).2,?_⟩;exists au (k1 _ _ g0 (by simp)),xY w0.2.1
  rw[hN];clear hN N;refine ar λN hN=>?_;have hra1:=k1 _ _ hra (by simp)
  exists ax hra1;refine⟨ra,_,rfl,bu.of hra1,by rw[show (some (1:Int))=some ((1:Nat):Int) from rfl,HT.fo,Jd];lia,λt ht=>?_⟩
  rw[u4];have k2:KB [] H1 (upd H1 t (.tup (r.fG.map Pk.v))):=KB.new ht;have s2:upd H1 t (.tup (r.fG.map Pk.v)) t=_:=aa;generalize upd H1 t (.tup (r.fG.map Pk.v))=H2 at *;have k02:=k1.trans k2;simp only[ax s2];have G:=k02 _ _ g (by simp)
  have G1:=k02 _ _ g1 (by simp)
  have G2:=k02 _ _ g2 (by simp)
  have GR:=k02 _ _ hra (by simp)
  refine pB (xs:=r.fG.map Pk.v) (λi σ H'=>H'=H2/\∃(x:List Nat) (o3 o4:Option V),x.length+60*(r.fG.drop i).length<=200/\aX [c0,c1,c2] (0,r.wi)++r.fG.flatMap (oC [c0,c1,c2])=x++(r.fG.drop i).flatMap (oC [c0,c1,c2])/\σ=[some (.ref ra),some (.ref ca),some (.str (wd x)),o3,o4]) ⟨rfl,_,none,none,?_,rfl,rfl⟩ (λi σ H' _ h=>by rw[h.1];exact bu.of s2) ?_ ?_
  ·have h1:r.fG.length<=2:=by cases r<;>simp[Row.fG]
   have h2:=w0.2.2;rw[Kj];lia
  ·rintro i x σ H' hx ⟨rfl,y,o3,o4,hy,ea,rfl⟩;have hi:i<r.fG.length:=by have:=(IQ.mp hx).1;rw[IP] at this;exact this
   obtain rfl:x=(r.fG[i]).v:=by
    rw[I_,IJ hi] at hx;exact (Option.some.inj hx).symm
   have hp0:=Row.zd bc _ (List.getElem_mem hi);have hp1:=Ea r _ (List.getElem_mem hi);rw[List.drop_eq_getElem_cons hi] at hy ea;rw[List.length_cons] at hy;generalize r.fG[i]=pk at *;unfold bC;dsimp only;refine pz λM hM=>?_
   cases pk with
   |box b =>
    have hb:b<8:=hp0;have w2:=hC.at (p:=(2,b)) (.inr (.inr ⟨rfl,hb⟩));show ng _ _ _ _ [_,_,_,some (V.str (cF b)),_] _;exists (show uN "str" "str"=true from by decide +kernel),au G
    refine⟨by decide,rfl,_,_,b,[],rfl,rfl,HR hb,?_⟩
    exists au G2,xY w2.2.1;rw[aO,aO,dR];refine⟨IY (show _<=240 by have:=w2.2.2;lia) (by decide),?_⟩
    rw[hM];exact⟨rfl,y++aX [c0,c1,c2] (2,b),some _,o4,by rw[IL];have:=w2.2.2;lia,by rw[ea,Lu,Jl];rfl,rfl⟩
   |num n =>
    have hn:n<65536:=hp0;have hb:=jy hn;have w1:=hC.at (p:=(1,bE n)) (.inr (.inl ⟨rfl,hb⟩));show ng _ _ _ _ [_,_,_,some (V.int (n:Nat)),_] _;exists (show uN "int" "str"=false from by decide +kernel),ax GR,IW (show r.wd=Str.ofString "put" from hp1)
    refine⟨by decide,rfl,(n:Int),rfl,rfl,?_⟩
    rw[show ((Builtin.Int.intBits (n:Int):Nat):Int)=(bE n:Int) from rfl];exists au G,au G1,xY w1.2.1;have fl:(dZ n).length=bE n:=ny n;have ft:(dZ n).tail.length<=16:=by rw[N2];lia
    have h3:=w1.2.2;refine⟨by rw[aO,aO];exact IY (show _<=300 by lia) (by decide),(n:Int),bE n,rfl,by lia,?_⟩
    rw[show bw (n:Int) (bE n) []=dZ n from rfl];refine⟨_,rfl,by rw[aO];exact IY (show _<=20 by lia) (by decide),?_⟩
    rw[Bp,dR];exists aO;rw[dR];refine⟨IY (show _<=300 by rw[IL];lia) (by decide),?_⟩
    rw[hM];exact⟨rfl,y++aX [c0,c1,c2] (1,bE n)++(dZ n).tail,some _,some _,by rw[IL,IL];lia,by rw[ea,Lu];simp[oC],rfl⟩
   |goal n =>
    show ng _ _ _ _ [_,_,_,some (V.int (n:Nat)),_] _;exists (show uN "int" "str"=false from by decide +kernel),ax GR,IT (show r.wd≠Str.ofString "put" from hp1)
    refine⟨by decide,?_⟩
    rw[hM];exact⟨rfl,y,some _,o4,by lia,by rw[ea,Lu];rfl,rfl⟩
  ·rintro σ H' ⟨rfl,x,o3,o4,_,ea,rfl⟩;rw[IP,KZ,List.flatMap_nil,JE] at ea;show N _ _;rw[hN];clear hN N;walk_at "rz";rw[ea] at q;exact q _ k02
noncomputable def BV(K:Og):Sp:=λvs H Q _=>∃(p dq b:Addr) (bk:List (List Int)) (most n:Nat),vs=[.ref p,.ref b,.int (most:Nat)]/\bz H p dq n/\n<2^30/\qc H b bk/\Bk bk/\0<most/\most<=40/\∀(z:List Nat) H',cY z->z.length<=154*most->bz H' p dq (n+1+10*most)->KB [p,dq] H H'->Q (.str (wd z)) H'
theorem C3(T:Txt K mg)(F:HasFn K mg "_law_raw_rows" b_ ["deck","book","most"])(h_law_code:aq P w K mg base bq 2 "_law_code" ["lengths"] (nB K))(h_law_plain:aq P w K mg base bq 2 "_law_plain" ["row","codes"] (nN K))(h_law_row:aq P w K mg base bq 4 "_law_row" ["deck","goals"] (xK K))(h_law_draw:aq P w K mg base bq 2 "_law_draw" ["deck","most"] dU)(h_law_bits:aq P w K mg base bq 1 "_law_bits" ["number","many"] iE):aq P w K mg base bq 5 "_law_raw_rows" ["deck","book","most"] (BV K):=by
 refine F.gU aL (λvs H Q E h=>?_) (λf cdv A outer s H vs Q E hr h=>?_)
 ·obtain⟨p,dq,b,bk,most,n,rfl,_⟩:=h;rfl
 ·have hu:=bo hr;obtain⟨p,dq,b,bk,most,n,rfl,hd,hn,hb,hB,hm0,hm,q⟩:=h;have hC:=hB.cd;have hCb:=yJ bk;obtain⟨as,hb1,hb2,hb3⟩:=hb;obtain⟨l0,l1,l2,rfl,_,_,_,hl⟩:=hB;refine⟨_,(Z.ai (Z.setC (j:=3) aL.nd rfl (by right) (osc:=ae b_) (ON:=["deck","book","most","codes","bits","begins","k","row","width","half","far","goal"]) (own:=["lengths"]) (N:=["lengths","deck","book","most","codes","bits","begins","k","row","width","half","far","goal"]) ⟨rfl,by decide +kernel,rfl,by decide +kernel,by decide +kernel,by decide +kernel,by decide +kernel,by decide +kernel⟩ rfl rfl rfl (Z.any K rfl (Z.v 1)) (λ_ _ _ _=>(Z.bp (i:=0) (show List.Nodup (["lengths","deck","book","most","codes","bits","begins","k","row","width","half","far","goal"]:List Str) by decide +kernel) rfl (by right))) (λ_ _ _ _=>Z.sH) (λ_ _ _ _=>(Z.fn h_law_code (hr.mono (by decide)) rfl av (Z.cons (Z.v 0) Z.nil))))
   (Z.ai (Z.set (i:=4) aL.nd rfl (by right) Z.str)
   (Z.ai (Z.set (i:=5) aL.nd rfl (by right) (Z.lst Z.nil))
   (Z.ai (Z.fQ J6 rfl (Z.k_ rfl T.cT (Z.cons (Z.op (Z.aR K rfl) Z.int (Z.fn h_law_draw (hr.mono (by decide)) rfl av (Z.cons (Z.v 0) (Z.cons (Z.v 2) Z.nil)))) Z.nil)) (Z.bp (i:=6) aL.nd rfl (by right)) (Z.ai (Z.set (i:=7) aL.nd rfl (by right) (Z.fn h_law_row (hr.mono (by decide)) rfl av (Z.cons (Z.v 0) (Z.cons Z.int Z.nil))))
   (Z.ai (Z.expr (Z.bm K rfl PySem.F.plainAttrs_list PySem.F.slot_list_append PySem.F.type_list_append dN (Z.v 5) (Z.cons (Z.cb (Z.cw K rfl) rfl T.cf (by decide +kernel) (Z.cons (Z.v 4) Z.nil)) Z.nil)))
   (Z.ai (Z.set (i:=4) aL.nd rfl (by right) (Z.op (Z.aR K rfl) (Z.v 4) (Z.fn h_law_plain (hr.mono (by decide)) rfl av (Z.cons (Z.v 7) (Z.cons (Z.v 3) Z.nil)))))
   (Z.aA (Z.d9 (Z.bf (Z.x_ K rfl hu) (Z.ix (Z.az K rfl hu) (Z.v 7) Z.int) (Z.tup (Z.consts rfl))) (Z.ai (Z.set (i:=8) aL.nd rfl (by right) (Z.ix (Z.az K rfl hu) (Z.lst (Z.consts rfl)) (Z.fn h_law_draw (hr.mono (by decide)) rfl av (Z.cons (Z.v 0) (Z.cons Z.int Z.nil)))))
   (Z.ai (Z.set (i:=9) aL.nd rfl (by right) (Z.ix (Z.az K rfl hu) (Z.lst (Z.consts rfl)) (Z.v 8)))
   (Z.ai (Z.set (i:=10) aL.nd rfl (by right) (Z.op bX (Z.fn h_law_draw (hr.mono (by decide)) rfl av (Z.cons (Z.v 0) (Z.cons (Z.op bR Z.int (Z.v 9)) Z.nil))) (Z.v 9)))
   (Z.ai (Z.set (i:=11) aL.nd rfl (by right) (Z.op bX (Z.op bX (Z.ix (Z.az K rfl hu) (Z.v 5) (Z.fn h_law_draw (hr.mono (by decide)) rfl av (Z.cons (Z.v 0) (Z.cons (Z.cb (Z.cw K rfl) rfl T.cf (by decide +kernel) (Z.cons (Z.v 5) Z.nil)) Z.nil)))) (Z.cb (Z.cw K rfl) rfl T.cf (by decide +kernel) (Z.cons (Z.v 4) Z.nil))) (Z.ix (Z.az K rfl hu) (Z.lst (Z.consts rfl)) (Z.v 8))))
   (Z.ai (Z.d9 (Z.tw (Z.vk (Z.bf bB (Z.fn h_law_draw (hr.mono (by decide)) rfl av (Z.cons (Z.v 0) (Z.cons Z.int Z.nil))) Z.int) (Z.lU (Z.bf Cf (Z.op bX Z.int (Z.v 9)) (Z.v 11))))) (Z.aA (Z.set (i:=10) aL.nd rfl (by right) (Z.v 11))) Z.bG)
   (Z.aA (Z.set (i:=4) aL.nd rfl (by right) (Z.op (Z.aR K rfl) (Z.op (Z.aR K rfl) (Z.v 4) (Z.ix (Z.az K rfl hu) (Z.lst (Z.consts rfl)) (Z.v 8))) (Z.fn h_law_bits (hr.mono (by decide)) rfl av (Z.cons (Z.op cA (Z.v 10) (Z.op bR Z.int (Z.v 9))) (Z.cons (Z.ix (Z.az K rfl hu) (Z.lst (Z.consts rfl)) (Z.v 8)) Z.nil))))))))))) Z.bG))))))
   (Z.aA (Z.ret (Z.v 4))))))),?_⟩
  refine ar λN hN=>?_;exists ax hb1;refine cm (xs:=as.map V.ref) (IY (show _<=3 by rw[IP,hb2];exact IU 3) (by decide)) (λD i ys H'=>H D=none/\H' D=some (.lst ys)/\KB [] H H'/\∃cs:List Addr,ys=cs.map V.ref/\cs.length=i/\∀(j:Nat) (c:Addr),cs[j]?=some c->H c=none/\c≠D/\H' c=some (.lst (wV (wordsOf Cw.eK (List.getD [l0,l1,l2] j []))))) (λD hD=>⟨hD,aa,KB.new hD,[],rfl,rfl,λj c e=>nomatch e⟩) (λD i ys H' h=>⟨h.2.1,by obtain⟨_,_,_,cs,rfl,e,_⟩:=h;rw[IP,e]⟩) (λD i ys H' h=>bu.of (h.2.2.1 _ _ hb1 (by simp))) ?_ ?_
  ·rintro D i ys H' x R hx ⟨g0,g1,g2,cs,rfl,g4,g5⟩ kk;obtain⟨a,ea,rfl⟩:∃a,as[i]?=some a/\x=.ref a:=by
    rw[I_] at hx;obtain⟨a,e,rfl⟩:=Jp.mp hx;exact⟨a,e,rfl⟩
   have hi:i<3:=by have:=(IQ.mp ea).1;rw[hb2] at this;exact this
   have hm:List.getD [l0,l1,l2] i []∈[l0,l1,l2]:=by rcases j4 hi with rfl|rfl|rfl<;>simp
   walk_at "rz";refine⟨a,_,rfl,g2 _ _ (hb3 i a ea) (by simp),(hl _ hm).1,(hl _ hm).2,λc H5 c0 k5 e5=>?_⟩
   have gD:=k5 _ _ g1 (by simp)
   have cD:c≠D:=λz=>by rw[z,g1] at c0;cases c0
   refine kk _ _ gD ⟨g0,aa,λu o e _=>by rw[af (ao e g0)];exact k5 _ _ (g2 _ _ e (by simp)) (by simp),cs++[c],by rw[Jm];rfl,by rw[IL,g4];rfl,λj d e=>?_⟩
   rcases JL j cs.length with hj|hj
   ·rw[Jx hj] at e;obtain⟨q1,q2,q3⟩:=g5 j d e;exact⟨q1,q2,by rw[af q2];exact k5 _ _ q3 (by simp)⟩
   ·rw[Jk hj] at e;obtain⟨hj2,rfl⟩:=IQ.mp e;have:j=i:=by simp at hj2;lia
    subst this;simp only[g4,JP,Lp];exact⟨g2.free (by simp) c0,cD,by rw[af cD];exact e5⟩
  rintro ca ys H1 ⟨g0,g1,g2,cs,rfl,g4,g5⟩;rw[IP,hb2] at g4;obtain⟨c0,c1,c2,rfl⟩:=pZ g4;have keepC:∀{G:Hp},KB [p,dq] H1 G->HF G ca (a_ [l0,l1,l2]):=λ{G} k=>by
   have n0:∀{x:Addr},H x=none->x∉[p,dq]:=λe=>hd.new e;exact⟨c0,c1,c2,k _ _ g1 (n0 g0),k _ _ (g5 0 c0 rfl).2.2 (n0 (g5 0 c0 rfl).1),k _ _ (g5 1 c1 rfl).2.2 (n0 (g5 1 c1 rfl).1),k _ _ (g5 2 c2 rfl).2.2 (n0 (g5 2 c2 rfl).1)⟩
  have D1:=hd.kb g2;show N _ _;rw[hN];clear hN N;clear g5 g4 g1 hb1 hb2 hb3 hl;generalize a_ [l0,l1,l2]=cd at *;refine ar λN hN=>?_;walk_at "rz";rw[hN];clear hN N;refine ar λN hN=>?_;walk_at "rz";refine⟨by decide,λbl hbl=>?_⟩
  have k2:KB [] H1 (upd H1 bl (.lst [])):=KB.new hbl;have s2:upd H1 bl (.lst []) bl=some (.lst (iV (nZ []))):=aa;generalize upd H1 bl (.lst [])=H2 at *;have bl0:bl∉[p,dq]:=D1.new hbl;have blp:p≠bl:=λz=>bl0 (by simp[z])
  have blq:dq≠bl:=λz=>bl0 (by simp[z])
  rw[hN];clear hN N;refine ar λN hN=>?_;walk_at "rz";refine⟨p,dq,(most:Nat),n,rfl,D1.kb k2,by lia,by lia,by lia,λv H3 hv D3 k3=>?_⟩
  walk_at "rz";refine⟨by lia,by lia,?_⟩
  have hi:(1+(v:Int)).toNat<=most:=by lia
  have setB:∀{G:Hp} {m:Nat} {o:HO},bz G p dq m->bz (upd G bl o) p dq m:=λh=>h.keep (KB.set (ex:=[bl]) (by simp)) (by simpa using blp) (by simpa using blq)
  have keepB:∀{G:Hp} {o:HO},KB [p,dq] H1 G->KB [p,dq] H1 (upd G bl o):=λa b o e z=>by rw[af (ao e hbl)];exact a b o e z
  refine bY (λi σ H'=>∃(z bs:List Nat) (o6 o7 o8 o9 o10 o11:Option V),cY z/\z.length<=154*i/\bs.length=i/\bz H' p dq (n+1+10*i)/\KB [p,dq] H1 H'/\H' bl=some (.lst (iV (nZ bs)))/\σ=[some (.ref p),some (.ref b),some (.int (most:Nat)),some (.ref ca),some (.str (wd z)),some (.ref bl),o6,o7,o8,o9,o10,o11]) ⟨[],[],none,none,none,none,none,none,(λc hc=>absurd hc Js),IU _,rfl,D3,k2.all.trans k3,k3 _ _ s2 bl0,by rw[<- mI]⟩ ?_ ?_
  ·rintro i σ H' hi2 ⟨z,bs,o6,o7,o8,o9,o10,o11,hbz,hz,hbs,hD,hk,gb,rfl⟩;generalize (0:Int)+((i:Nat):Int)=kI;unfold bC;refine ar λM hM=>?_;walk_at "rz";refine⟨p,dq,60,n+1+10*i,rfl,hD,by lia,by lia,λr ra H4 hr hra D4 k4=>?_⟩
   have gb4:=k4 _ _ gb bl0;have hk4:=hk.trans k4;rw[hM];clear hM M;refine ar λM hM=>?_;have hzs:(wd z).length<=sizeLine:=by rw[aO];exact IY (show _<=10000 by lia) (by decide)
   walk_at "rz";refine⟨.inl ⟨rfl,_,ck.of gb4⟩,hzs,bl,_,_,rfl,rfl,gb4,JU (show _<=40 by rw[bA,iT];lia) (by decide),?_⟩
   have eb:iV (nZ bs)++[V.int ((wd z).length:Nat)]=iV (nZ (bs++[z.length])):=by unfold nZ;rw[Jm,fJ,aO];rfl
   rw[eb];have D5:=setB (o:=.lst (iV (nZ (bs++[z.length])))) D4;have hk5:=keepB (o:=.lst (iV (nZ (bs++[z.length])))) hk4;have gb5:upd H4 bl (.lst (iV (nZ (bs++[z.length])))) bl=_:=aa;have rb:ra≠bl:=λz=>by rw[z,gb4] at hra;cases hra
   have hra5:upd H4 bl (.lst (iV (nZ (bs++[z.length])))) ra=_:=(af rb).trans hra;generalize upd H4 bl (.lst (iV (nZ (bs++[z.length]))))=H5 at *;have hbl':(bs++[z.length]).length=i+1:=by rw[IL,hbs];rfl
   generalize bs++[z.length]=bg at *;clear gb4 hra D4 hk4 k4 eb gb hbs;rw[hM];clear hM M;refine ar λM hM=>?_;walk_at "rz";refine⟨ra,ca,r,60,cd,rfl,hra5,keepC hk5,hr,hC,λH6 k6=>?_⟩;have hb2:=hbz.app (oK hCb r);have h136:=eX hC hr;have hl2:(z++bK cd r).length<=154*i+136:=by rw[IL];lia
   walk_at "rz";rw[aO,aO,dR];refine⟨IY (show _<=10000 by lia) (by decide),?_⟩
   generalize z++bK cd r=x at *;have D6:=D5.kb k6;have hk6:=hk5.trans k6.all;have gb6:=k6 _ _ gb5 (by simp)
   have hra6:=k6 _ _ hra5 (by simp)
   rw[hM];clear hM M;dsimp only;refine pz λM hM=>?_;have step:∀(y:List Nat) (G:Hp) (o8 o9 o10 o11:Option V),cY y->y.length<=x.length+18->bz G p dq (n+1+10*i+10)->KB [p,dq] H1 G->G bl=some (.lst (iV (nZ bg)))->M [some (.ref p),some (.ref b),some (.int (most:Nat)),some (.ref ca),some (.str (wd y)),some (.ref bl),some (.int kI),some (.ref ra),o8,o9,o10,o11] G:=λy G o8 o9 o10 o11 h1 h2 h3 h4 h5=>by
    rw[hM];exact⟨y,bg,some _,some _,o8,o9,o10,o11,h1,by lia,hbl',h3.mono (by lia),h4,h5,rfl⟩
   clear hM;refine zC λA B hA hB=>?_;rw[Row.Cp] at hra6;exists ax hra6;refine⟨by decide,λt0 ht0=>⟨rfl,rfl,?_⟩⟩
   have k7:KB [] H6 (upd H6 t0 (.tup [.str (Str.ofString "jump"),.str (Str.ofString "zero")])):=KB.new ht0;generalize upd H6 t0 (.tup [.str (Str.ofString "jump"),.str (Str.ofString "zero")])=H7 at *;have D7:=D6.kb k7;have hk7:=hk6.trans k7.all;have gb7:=k7 _ _ gb6 (by simp)
   clear k7 gb6 hk6 D6 k6 D5 hk5 gb5 hra5
   cases n1:hJ (.str r.wd) [.str (Str.ofString "jump"),.str (Str.ofString "zero")] with
   |false =>
    rw[IT Jb,hB];exact step x H7 o8 o9 o10 o11 hb2 (by lia) (D7.mono (by lia)) hk7 gb7
   |true =>
    rw[IW rfl,hA];clear hA hB A B n1;refine ar λM' hM=>?_;walk_at "rz";refine⟨by decide,λw1 hw1=>?_⟩
    have k8:KB [] H7 (upd H7 w1 (.lst [.int 0,.int 0,.int 1,.int 1,.int 2])):=KB.new hw1;have s8:upd H7 w1 (.lst [.int 0,.int 0,.int 1,.int 1,.int 2]) w1=_:=aa;generalize upd H7 w1 (.lst [.int 0,.int 0,.int 1,.int 1,.int 2])=H8 at *;have nw1:=D7.new hw1;refine⟨p,dq,5,n+1+10*i+5,rfl,D7.kb k8,by lia,by decide,by decide,λv2 H9 hv2 D9 k9=>?_⟩
    obtain⟨w,hw,aw⟩:∃w:Nat,w<3/\bU [V.int 0,.int 0,.int 1,.int 1,.int 2] (v2:Int)=some (.int (w:Nat)):=by
     have:v2=0\/v2=1\/v2=2\/v2=3\/v2=4:=by lia
     rcases this with rfl|rfl|rfl|rfl|rfl
     ·exact⟨0,by decide,rfl⟩
     ·exact⟨0,by decide,rfl⟩
     ·exact⟨1,by decide,rfl⟩
     ·exact⟨1,by decide,rfl⟩
     ·exact⟨2,by decide,rfl⟩
    exists au (k9 _ _ s8 nw1),aw;have hk9:=hk7.trans (k8.all.trans k9);have gb9:=k9 _ _ (k8 _ _ gb7 (by simp)) bl0
    clear aw hw1 nw1 s8 k8 k9 D7 hk7 gb7 hv2;rw[hM];clear hM M';have p2:=pF hw;have p3:bU [V.int 4,.int 8,.int 16] (w:Int)=some (.int (aS w:Nat)):=by rcases j4 hw with rfl|rfl|rfl<;>rfl
    have p4:aS w<=16/\(cH w).length<=2/\0<bS w/\bS w<=32768:=by rcases j4 hw with rfl|rfl|rfl<;>decide
    have pb:cY (cH w):=by rcases j4 hw with rfl|rfl|rfl<;>exactλc hc=>by revert c;decide
    have p5:bU [V.int 8,.int 128,.int 32768] (w:Int)=some (.int (bS w)):=by rcases j4 hw with rfl|rfl|rfl<;>rfl
    obtain⟨a5,p6⟩:∃a:Int,bU [V.int 5,.int 10,.int 18] (w:Int)=some (.int a):=by rcases j4 hw with rfl|rfl|rfl<;>exact⟨_,rfl⟩
    refine ar λM' hM=>?_;exists p5;refine⟨by decide,λt1 ht1=>?_⟩
    have k10:KB [] H9 (upd H9 t1 (.lst [.int 8,.int 128,.int 32768])):=KB.new ht1;generalize upd H9 t1 (.lst [.int 8,.int 128,.int 32768])=H10 at *;generalize bS w=hf at *;rw[hM];clear hM M';refine ar λM' hM=>?_;walk_at "rz";have cmul:u7 2 hf:=.inl ⟨by decide,by decide⟩
    refine⟨cmul,p,dq,2*hf,n+1+10*i+6,rfl,D9.kb k10,by lia,by lia,by lia,λv3 H11 _ D11 k11=>?_⟩
    have hk11:=hk9.trans (k10.all.trans k11);have gb11:=k11 _ _ (k10 _ _ gb9 (by simp)) bl0
    walk_at "rz";rw[hM];clear hM M';clear k10 k11 hk9 gb9 D9 ht1;have hxs:(wd x).length<=sizeLine:=by rw[aO];exact IY (show _<=10000 by lia) (by decide)
    refine ar λM' hM=>?_;exists au gb11,bA,iT;refine⟨p,dq,(bg.length:Nat),n+1+10*i+7,rfl,D11,by lia,by lia,by lia,λj H12 hj D12 k12=>?_⟩
    have gb12:=k12 _ _ gb11 bl0;have ab:bU (iV (nZ bg)) (j:Int)=some (.int (bg.getD j 0:Nat)):=b7 (by
     have hj:j<bg.length:=by lia
     unfold iV nZ;rw[I_,I_,Jc,IJ hj]
     rfl)
    exists au gb12,ab,p6;refine⟨hxs,by decide,λt2 ht2=>?_⟩
    have k13:KB [] H12 (upd H12 t2 (.lst [.int 5,.int 10,.int 18])):=KB.new ht2;generalize upd H12 t2 (.lst [.int 5,.int 10,.int 18])=H13 at *;have hk13:=hk11.trans (k12.trans k13.all);have gb13:=k13 _ _ gb12 (by simp)
    generalize ((bg.getD j 0:Nat):Int)-((wd x).length:Nat)-a5=goal at *;rw[hM];clear hM M';refine ar λM' hM=>?_;refine zC λA B hA hB=>?_;walk_at "rz";refine⟨p,dq,2,n+1+10*i+8,rfl,D12.kb k13,by lia,by decide,by decide,λv5 H14 _ D14 k14=>?_⟩
    have hk14:=hk13.trans k14;have gb14:=k14 _ _ gb13 bl0;clear hk13 gb13 hk11 gb11 gb12 k12 k13 k14 ht2 D11 D12 ab;have tail:∀far:Int,M' [some (.ref p),some (.ref b),some (.int (most:Nat)),some (.ref ca),some (.str (wd x)),some (.ref bl),some (.int kI),some (.ref ra),some (.int (w:Nat)),some (.int hf),some (.int far),some (.int goal)] H14:=λfar=>by
     rw[hM];clear hM M' hA hB;have hll:(bw (far % (2*hf)) (aS w) []).length=aS w:=dc _ _ _;have hlb:cY (bw (far % (2*hf)) (aS w) []):=fv _ _ _ λc hc=>by cases hc
     have hl3:((x++cH w)++bw (far % (2*hf)) (aS w) []).length<=x.length+18:=by rw[IL,IL];lia
     have hs3:(x++cH w).length+(bw (far % (2*hf)) (aS w) []).length<=sizeLine:=by rw[<- IL];exact IY (show _<=10000 by lia) (by decide)
     exists p2;refine⟨by decide,λt3 ht3=>?_⟩
     have k15:KB [] H14 (upd H14 t3 (.lst [.str (Str.ofString "0"),.str (Str.ofString "10"),.str (Str.ofString "11")])):=KB.new ht3;generalize upd H14 t3 (.lst [.str (Str.ofString "0"),.str (Str.ofString "10"),.str (Str.ofString "11")])=H15 at *;rw[aO,aO,dR];refine⟨IY (show _<=10000 by lia) (by decide),cmul,by lia,?_⟩
     exists p3;refine⟨by decide,λt4 ht4=>⟨_,aS w,rfl,by lia,?_⟩⟩
     have k16:KB [] H15 (upd H15 t4 (.lst [.int 4,.int 8,.int 16])):=KB.new ht4;generalize upd H15 t4 (.lst [.int 4,.int 8,.int 16])=H16 at *;have k17:=k15.trans k16;walk_at "rz";rw[aO,aO,dR];exact⟨hs3,step _ H16 (some _) (some _) (some _) (some _) ((hb2.app pb).app hlb) hl3 ((D14.kb k17).mono (by lia)) (hk14.trans k17.all) (k17 _ _ gb14 (by simp))⟩
    have other:B [some (.ref p),some (.ref b),some (.int (most:Nat)),some (.ref ca),some (.str (wd x)),some (.ref bl),some (.int kI),some (.ref ra),some (.int (w:Nat)),some (.int hf),some (.int ((v3:Int)-hf)),some (.int goal)] H14:=by rw[hB];exact tail _
    walk_at "rz";by_cases c1:(v5:Int)=0
    ·rw[IW c1];by_cases c2:0-hf<=goal
     ·rw[IW c2,hA];walk_at "rz";exact tail goal
     ·rw[IT c2];exact other
    ·rw[IT c1];exact other
  ·rintro σ H' ⟨z,bs,o6,o7,o8,o9,o10,o11,hbz,hz,hbs,hD,hk,gb,rfl⟩;show N _ _;rw[hN];clear hN N;walk_at "rz";exact q z H' hbz (by lia) (hD.mono (by lia)) (g2.all.trans hk)
theorem CC:200000<=sizeLine:=by decide
noncomputable def BY:List Key:=[.inr "a",.inr "b",.inr "c",.inr "d",.inr "e",.inr "f",.inr "g",.inr "h"]
structure ie where
 given:List Int
 heard:Nat
 told:List Int
 bs:List Int
structure MA where
 m:Addr
 dx:Addr
 gv:Addr
 tl:Addr
 bx:Addr
noncomputable def yd(a:MA)(h:Nat):List (Str×V):=[("given",.ref a.gv),("heard",.int (h:Nat)),("told",.ref a.tl),("boxes",.ref a.bx)]
structure MS (K:Og) (C:Addr) (H:Hp) (a:MA) (st:ie):Prop where
 om:H a.m=some (.ins C a.dx (yd a st.heard))
 od:H a.dx=some (.own a.m)
 og:H a.gv=some (.tup (iV st.given))
 ot:H a.tl=some (.lst (iV st.told))
 ob:H a.bx=some (.dK (BY.zip (iV st.bs)))
 l8:st.bs.length=8
 hh:st.heard<=st.given.length
noncomputable def MF(a:MA):List Addr:=[a.m,a.tl,a.bx]
theorem oY(a:MA)(h:Nat):(yd a h).lookup ("given":Str)=some (.ref a.gv):=rfl
theorem kr(a:MA)(h:Nat):(yd a h).lookup ("heard":Str)=some (.int (h:Nat)):=rfl
theorem t8(a:MA)(h:Nat):(yd a h).lookup ("told":Str)=some (.ref a.tl):=rfl
theorem eO(a:MA)(h:Nat):(yd a h).lookup ("boxes":Str)=some (.ref a.bx):=rfl
theorem vD(a:MA)(h k:Nat):d8 "heard" (.int (k:Nat)) (yd a h)=yd a k:=rfl
theorem MS.ne1{a:MA}{st:ie}(M:MS K C H a st):a.tl≠a.m/\a.bx≠a.m/\a.gv≠a.m/\a.dx≠a.m/\a.bx≠a.tl/\a.gv≠a.tl/\a.dx≠a.tl/\a.gv≠a.bx/\a.dx≠a.bx:=by
 have h1:=M.om;have h2:=M.od;have h3:=M.og;have h4:=M.ot;have h5:=M.ob;have ap:∀{x y:Addr} {o o':HO},H x=some o->H y=some o'->o≠o'->x≠y:=λh h' n e=>n (by rw[e] at h;exact Option.some.inj (h.symm.trans h'))
 exact⟨ap h4 h1 (by simp),ap h5 h1 (by simp),ap h3 h1 (by simp),ap h2 h1 (by simp),ap h5 h4 (by simp),ap h3 h4 (by simp),ap h2 h4 (by simp),ap h3 h5 (by simp),ap h2 h5 (by simp)⟩
noncomputable def tW(K:Og)(C:Addr):Sp:=λvs H Q _=>∃(a:MA) (st:ie),vs=[.ref a.m]/\MS K C H a st /\
 (st.given.length<=st.heard->Q (.int 0) H)/\∀x,st.given[st.heard]?=some x->∀H',MS K C H' a {st with heard:=st.heard+1}->KB (MF a) H H'->Q (.int x) H'
theorem yl(T:Txt K mg)(cM:kM K C)(na_given:bF K C "given")(na_heard:bF K C "heard")(F:jS K "heard_number" "Machine.heard_number" aF f fd):cG P w K mg base bq 1 f fd ["self"] (tW K C):=by
 refine F.ok fb (λvs H Q E h=>?_) (λcdv A outer s H vs Q E hr h=>?_)
 ·obtain⟨a,st,rfl,_⟩:=h;rfl
 ·obtain⟨a,st,rfl,M,q1,q2⟩:=h;have hu:=bo hr;have key:∃t,QB (fT bq P w K mg base ["self"] "Machine.heard_number" (ae aF) f cdv A outer s H E).qd (aU aF) t/\t {nx:=λ_ H'=>Q .aT H',rt:=Q} (start ["self"] [.ref a.m]) H:=by
   refine⟨_,(Z.ai (Z.d9 (Z.bf wq (Z.fld K rfl (Z.v 0)) (Z.cb (Z.cw K rfl) rfl T.cf (by decide +kernel) (Z.cons (Z.fld K rfl (Z.v 0)) Z.nil))) (Z.aA (Z.ret Z.int)) Z.bG)
   (Z.ai (Z.xD K rfl (Z.v 0) (Z.op (Z.aR K rfl) (Z.fld K rfl (Z.v 0)) Z.int))
   (Z.aA (Z.ret (Z.ix (Z.az K rfl hu) (Z.fld K rfl (Z.v 0)) (Z.op bX (Z.fld K rfl (Z.v 0)) Z.int)))))),?_⟩
   have e1:sq H a.gv=some (false,iV st.given):=ax M.og;have hl:(iV st.given).length=st.given.length:=IP ..;refine ar λN hN=>?_;walk_at "rz";refine⟨a.m,C,a.dx,_,_,rfl,M.om,cM,na_heard,kr a _,a.m,C,a.dx,_,_,rfl,M.om,cM,na_given,oY a _,?_⟩;simp only[L2.Ap.vP,e1,hl];walk_at "rz";by_cases h1:st.given.length<=st.heard
   ·rw[IW (by omega)]
    exact q1 h1
   ·rw[IT (by omega),hN];clear hN N
    have h2:st.heard<st.given.length:=by omega
    obtain⟨n1,n2,n3,n4,n5,n6,n7,n8,n9⟩:=M.ne1;have M':MS K C (upd H a.m (.ins C a.dx (yd a (st.heard+1)))) a {st with heard:=st.heard+1}:=⟨aa,by rw[af n4];exact M.od,by rw[af n3];exact M.og,by rw[af n1];exact M.ot,by rw[af n2];exact M.ob,M.l8,h2⟩
    refine ar λN hN=>?_;walk_at "rz";refine⟨a.m,C,a.dx,_,_,rfl,M.om,cM,na_heard,kr a _,?_⟩;walk_at "rz";refine⟨a.m,C,a.dx,_,rfl,M.om,cM,na_heard,(show 4<1000 by decide),?_⟩
    rw[show ((st.heard:Nat):Int)+1=((st.heard+1:Nat):Int) from rfl,vD,hN];clear hN N;walk_at "rz";refine⟨a.m,C,a.dx,_,_,rfl,M'.om,cM,na_given,oY a _,a.m,C,a.dx,_,_,rfl,M'.om,cM,na_heard,kr a _,?_⟩;have e2:sq (upd H a.m (.ins C a.dx (yd a (st.heard+1)))) a.gv=some (false,iV st.given):=ax M'.og;have e3:bU (iV st.given) (((st.heard+1:Nat):Int)-1)=some (V.int st.given[st.heard]):=by
     rw[show ((st.heard+1:Nat):Int)-1=((st.heard:Nat):Int) by omega]
     exact b7 (by unfold iV;rw[I_,IJ h2];rfl)
    simp only[L2.Ap.vb,L2.Ap.fC,e2,e3];exact q2 _ (IJ h2) _ M' (KB.set (by unfold MF;simp))
  obtain⟨t,hb,ht⟩:=key;exact⟨t,hb.h,ht⟩
noncomputable def sy(bs:List Int)(b:Nat):Int:=bs[b]?.getD 0
theorem qH:∀(b:Nat),b<8->∀bs:List Int,bs.length=8->gX (BY.zip (iV bs)) (.inr (cF b))=some (.int (sy bs b)):=by
 intro b hb bs hl;obtain⟨x0,x1,x2,x3,x4,x5,x6,x7,rfl⟩:=FE hl;rcases Ew hb with rfl|rfl|rfl|rfl|rfl|rfl|rfl|rfl<;>rfl
theorem CQ:∀(b:Nat),b<8->∀(bs:List Int) (x:Int),bs.length=8->putK (BY.zip (iV bs)) (.inr (cF b)) (.int x)=BY.zip (iV (bs.set b x)):=by
 intro b hb bs x hl;obtain⟨x0,x1,x2,x3,x4,x5,x6,x7,rfl⟩:=FE hl;rcases Ew hb with rfl|rfl|rfl|rfl|rfl|rfl|rfl|rfl<;>rfl
noncomputable def cJ(st:ie):Int×ie:=match st.given[st.heard]? with
 |some x=>(x,{st with heard:=st.heard+1})
 |none=>(0,st)
noncomputable def cu(st:ie):df->Int×ie
 |.put _ n=>((n:Nat),st)
 |.two w a b=>((match w with
  |0=>(sy st.bs a+sy st.bs b) % 65536
  |1=>(sy st.bs a-sy st.bs b) % 65536
  |2=>sy st.bs b % 65536),st)
 |.one _ _=>((cJ st).1 % 65536,(cJ st).2)
 |_=>(0,st)
noncomputable def isNum:df->Bool
 |.put _ _=>true
 |.two _ _ _=>true
 |.one 1 _=>true
 |_=>false
noncomputable def B_(K:Og)(C:Addr):Sp:=λvs H Q _=>∃(a:MA) (st:ie) (p:Addr) (r:df),vs=[.ref a.m,.ref p]/\MS K C H a st/\H p=some (.tup r.vs)/\r.Ok/\isNum r=true /\
 ∀H',MS K C H' a (cu st r).2->KB (MF a) H H'->Q (.int (cu st r).1) H'
theorem E3{fh:Addr}{d_heard_number:FuncData}(T:Txt K mg)(cM:kM K C)(na_boxes:bF K C "boxes")(mm_heard_number:Meth K C "heard_number" fh)(bm_heard_number:Binds K d_heard_number ["self"] [])(FO_heard_number:cG P w K mg base bq 1 fh d_heard_number ["self"] (tW K C))(F:jS K "number_for" "Machine.number_for" aK f fd):cG P w K mg base bq 2 f fd ["self","row"] (B_ K C):=by
 obtain⟨u_WHOLE,hg_WHOLE,hr_WHOLE⟩:=T.B0;refine F.ok bH (λvs H Q E h=>?_) (λcdv A outer s H vs Q E hr h=>?_)
 ·obtain⟨a,st,p,r,rfl,_⟩:=h;rfl
 ·obtain⟨a,st,p,r,rfl,M,hp,bc,hi,q⟩:=h;have hu:=bo hr;have key:∃t,QB (fT bq P w K mg base ["self","row","word","old","other"] "Machine.number_for" (ae aK) f cdv A outer s H E).qd (aU aK) t/\t {nx:=λ_ H'=>Q .aT H',rt:=Q} (start ["self","row","word","old","other"] [.ref a.m,.ref p]) H:=by
   refine⟨_,(Z.ai (Z.set (i:=2) bH.nd rfl (by right) (Z.ix (Z.az K rfl hu) (Z.v 1) Z.int))
   (Z.ai (Z.d9 (Z.bf bB (Z.v 2) Z.str) (Z.aA (Z.ret (Z.ix (Z.az K rfl hu) (Z.v 1) Z.int))) Z.bG)
   (Z.ai (Z.d9 (Z.bf bB (Z.v 2) Z.str) (Z.aA (Z.ret (Z.op cA (Z.xT K rfl (Z.v 0) cM mm_heard_number FO_heard_number (hr.mono (by decide)) bm_heard_number av) (Z.glob rfl hg_WHOLE hr_WHOLE)))) Z.bG)
   (Z.ai (Z.set (i:=3) bH.nd rfl (by right) (Z.wI hu (Z.fld K rfl (Z.v 0)) (Z.ix (Z.az K rfl hu) (Z.v 1) Z.int)))
   (Z.ai (Z.set (i:=4) bH.nd rfl (by right) (Z.wI hu (Z.fld K rfl (Z.v 0)) (Z.ix (Z.az K rfl hu) (Z.v 1) Z.int)))
   (Z.ai (Z.d9 (Z.bf bB (Z.v 2) Z.str) (Z.aA (Z.ret (Z.op cA (Z.op (Z.aR K rfl) (Z.v 3) (Z.v 4)) (Z.glob rfl hg_WHOLE hr_WHOLE)))) Z.bG)
   (Z.ai (Z.d9 (Z.bf bB (Z.v 2) Z.str) (Z.aA (Z.ret (Z.op cA (Z.op bX (Z.v 3) (Z.v 4)) (Z.glob rfl hg_WHOLE hr_WHOLE)))) Z.bG)
   (Z.aA (Z.ret (Z.op cA (Z.v 4) (Z.glob rfl hg_WHOLE hr_WHOLE))))))))))),?_⟩
   have e1:sq H p=some (false,r.vs):=ax hp;refine ar λN hN=>?_;walk_at "rz";simp only[L2.Ap.fC,e1];have dg:∀b,b<8->uX H a.bx (.str (cF b)) (some (.int (sy st.bs b))):=λb hb=>.inl ⟨_,.inr (cF b),.inl M.ob,rfl,(qH b hb st.bs M.l8).symm⟩;have sD:∀{x y:Str} {P1 P2:Prop},x≠y->P2->(if x=y then P1 else P2):=λh h2=>by rw[IT h];exact h2
   cases r with
   |put b n =>
    show N [some (.ref a.m),some (.ref p),some (.str "put"),none,none] H;rw[hN];clear hN N;refine ar λN hN=>?_;walk_at "rz";simp only[L2.Ap.fC,e1];exact q H M (KB.refl _ _)
   |two u b c =>
    show N [some (.ref a.m),some (.ref p),some (.str (w2 u)),none,none] H;have hput:w2 u≠"put":=(show ∀u,w2 u≠"put" by decide +kernel) u
    have hhear:w2 u≠"hear":=(show ∀u,w2 u≠"hear" by decide +kernel) u
    rw[hN];clear hN N;refine ar λN hN=>?_;walk_at "rz";refine sD hput ?_;rw[hN];clear hN N;refine ar λN hN=>?_;walk_at "rz";refine sD hhear ?_;rw[hN];clear hN N;refine ar λN hN=>?_;walk_at "rz";refine⟨a.m,C,a.dx,_,_,rfl,M.om,cM,na_boxes,eO a _,?_⟩;simp only[L2.Ap.fC,e1];refine⟨a.bx,_,rfl,dg b bc.1,?_⟩;rw[hN];clear hN N;refine ar λN hN=>?_;walk_at "rz";refine⟨a.m,C,a.dx,_,_,rfl,M.om,cM,na_boxes,eO a _,?_⟩;simp only[L2.Ap.fC,e1];refine⟨a.bx,_,rfl,dg c bc.2,?_⟩;rw[hN];clear hN N;have fin:=q H M (KB.refl _ _);have hs:w2 1="sub":=rfl;refine ar λN hN=>?_;walk_at "rz";rcases lj u with rfl|rfl|rfl
    ·rw[IW (show w2 0="add" from rfl)];exact⟨by decide,fin⟩
    ·refine sD (by decide +kernel) ?_
     rw[hN];clear hN N;refine ar λN hN=>?_;walk_at "rz";rw[IW (show w2 1="sub" from rfl)];exact⟨by decide,fin⟩
    ·refine sD (by decide +kernel) ?_
     rw[hN];clear hN N;refine ar λN hN=>?_;walk_at "rz";refine sD (by decide +kernel) ?_
     rw[hN];clear hN N;walk_at "rz";exact⟨by decide,fin⟩
   |one u b =>
    have hu1:u=1:=by
     rcases ig u with h|h
     ·rw[h] at hi;cases hi
     ·exact h
    subst hu1;show N [some (.ref a.m),some (.ref p),some (.str "hear"),none,none] H;rw[hN];clear hN N;refine ar λN hN=>?_;walk_at "rz";refine sD (by decide +kernel) ?_
    rw[hN];clear hN N;refine ar λN hN=>?_;walk_at "rz";refine⟨a.m,a.dx,_,rfl,M.om,rfl,a,st,rfl,M,λh=>?_,λx hx H' M' kb=>?_⟩
    ·have e0:cJ st=(0,st):=by unfold cJ;rw[J7.mpr h]
     have e2:cu st (.one 1 b)=(0 % 65536,st):=by unfold cu;rw[e0]
     rw[e2] at q;walk_at "rz";exact⟨by decide,q H M (KB.refl _ _)⟩
    ·have e0:cJ st=(x,{st with heard:=st.heard+1}):=by unfold cJ;rw[hx]
     have e2:cu st (.one 1 b)=(x % 65536,{st with heard:=st.heard+1}):=by unfold cu;rw[e0]
     rw[e2] at q;walk_at "rz";exact⟨by decide,q H' M' kb⟩
   |jump g=>cases hi
   |zero b g=>cases hi
   |halt=>cases hi
  obtain⟨t,hb,ht⟩:=key;exact⟨t,hb.h,ht⟩
noncomputable def carry(st:ie):df->Bool×ie
 |.jump _=>(true,st)
 |.zero b _=>(decide (sy st.bs b=0),st)
 |.one 0 b=>(false,{st with told:=st.told++[sy st.bs b]})
 |.halt=>(false,st)
 |.put b n=>(false,{(cu st (.put b n)).2 with bs:=(cu st (.put b n)).2.bs.set b (cu st (.put b n)).1})
 |.two w a b=>(false,{(cu st (.two w a b)).2 with bs:=(cu st (.two w a b)).2.bs.set a (cu st (.two w a b)).1})
 |.one 1 b=>(false,{(cu st (.one 1 b)).2 with bs:=(cu st (.one 1 b)).2.bs.set b (cu st (.one 1 b)).1})
noncomputable def tU(K:Og)(C:Addr):Sp:=λvs H Q _=>∃(a:MA) (st:ie) (p:Addr) (r:df),vs=[.ref a.m,.ref p]/\MS K C H a st/\H p=some (.tup r.vs)/\r.Ok/\st.told.length<100000 /\
 ∀H',MS K C H' a (carry st r).2->KB (MF a) H H'->Q (.bl (carry st r).1) H'
theorem xN{fn:Addr}{d_number_for:FuncData}(T:Txt K mg)(cM:kM K C)(na_boxes:bF K C "boxes")(na_told:bF K C "told")(mm_number_for:Meth K C "number_for" fn)(bm_number_for:Binds K d_number_for ["self","row"] [])(FO_number_for:cG P w K mg base bq 2 fn d_number_for ["self","row"] (B_ K C))(F:jS K "carry_out" "Machine.carry_out" aN f fd):cG P w K mg base bq 3 f fd ["self","row"] (tU K C):=by
 refine F.ok dz (λvs H Q E h=>?_) (λcdv A outer s H vs Q E hr h=>?_)
 ·obtain⟨a,st,p,r,rfl,_⟩:=h;rfl
 ·obtain⟨a,st,p,r,rfl,M,hp,bc,htl,q⟩:=h;have hu:=bo hr;have key:∃t,QB (fT bq P w K mg base ["self","row","word"] "Machine.carry_out" (ae aN) f cdv A outer s H E).qd (aU aN) t/\t {nx:=λ_ H'=>Q .aT H',rt:=Q} (start ["self","row","word"] [.ref a.m,.ref p]) H:=by
   refine⟨_,(Z.ai (Z.set (i:=2) dz.nd rfl (by right) (Z.ix (Z.az K rfl hu) (Z.v 1) Z.int))
   (Z.ai (Z.d9 (Z.bf bB (Z.v 2) Z.str) (Z.aA (Z.ret Z.bl)) Z.bG)
   (Z.ai (Z.d9 (Z.bf bB (Z.v 2) Z.str) (Z.aA (Z.ret (Z.cmp bB (Z.wI hu (Z.fld K rfl (Z.v 0)) (Z.ix (Z.az K rfl hu) (Z.v 1) Z.int)) Z.int))) Z.bG)
   (Z.ai (Z.d9 (Z.bf bB (Z.v 2) Z.str) (Z.aA (Z.expr (Z.bm K rfl PySem.F.plainAttrs_list PySem.F.slot_list_append PySem.F.type_list_append dN (Z.fld K rfl (Z.v 0)) (Z.cons (Z.wI hu (Z.fld K rfl (Z.v 0)) (Z.ix (Z.az K rfl hu) (Z.v 1) Z.int)) Z.nil)))) (Z.aA (Z.d9 (Z.bf rg (Z.v 2) Z.str) (Z.aA (Z.dput hu (Z.fld K rfl (Z.v 0)) (Z.ix (Z.az K rfl hu) (Z.v 1) Z.int) (Z.EH K rfl (Z.v 0) cM mm_number_for FO_number_for (hr.mono (by decide)) bm_number_for av (Z.cons (Z.v 1) Z.nil)))) Z.bG)))
   (Z.aA (Z.ret Z.bl)))))),?_⟩
   have e1:sq H p=some (false,r.vs):=ax hp;obtain⟨n1,n2,n3,n4,n5,n6,n7,n8,n9⟩:=M.ne1;refine ar λN hN=>?_;walk_at "rz";simp only[L2.Ap.fC,e1];have dg:∀b,b<8->uX H a.bx (.str (cF b)) (some (.int (sy st.bs b))):=λb hb=>.inl ⟨_,.inr (cF b),.inl M.ob,rfl,(qH b hb st.bs M.l8).symm⟩;have sD:∀{x y:Str} {P1 P2:Prop},x≠y->P2->(if x=y then P1 else P2):=λh h2=>by rw[IT h];exact h2
   have go:∀(r':df) (wd:Str) (b:Nat),r.vs=.str wd::.str (cF b)::(r.vs.drop 2)->b<8->isNum r=true->wd≠"jump"->wd≠"zero"->wd≠"tell"->wd≠"halt"->carry st r=(false,{(cu st r).2 with bs:=(cu st r).2.bs.set b (cu st r).1})->N [some (.ref a.m),some (.ref p),some (.str wd)] H:=by
    intro r' wd b ev hb hi w1 w2 w3 w4 ec;rw[hN];clear hN N;refine ar λN hN=>?_;walk_at "rz";refine sD w1 ?_;rw[hN];clear hN N;refine ar λN hN=>?_;walk_at "rz";refine sD w2 ?_;rw[hN];clear hN N;refine ar λN hN=>?_;walk_at "rz";refine sD w3 ?_;rw[IW (show ¬ wd="halt" from w4)];refine⟨a.m,a.dx,_,rfl,M.om,rfl,a,st,p,r,rfl,M,hp,bc,hi,λH1 M1 kb=>?_⟩;have hp1:H1 p=some (.tup r.vs):=kb _ _ hp (by
     unfold MF;simp only[IX,Js,JT,not_or];exact⟨λe=>(by rw[e,M.om] at hp;cases hp),λe=>(by rw[e,M.ot] at hp;cases hp),λe=>(by rw[e,M.ob] at hp;cases hp)⟩)
    have e2:sq H1 p=some (false,r.vs):=ax hp1;refine⟨a.m,C,a.dx,_,_,rfl,M1.om,cM,na_boxes,eO a _,?_⟩;rw[e2,ev];simp only[jt];obtain⟨k1,k2,k3,k4,k5,k6,k7,k8,k9⟩:=M1.ne1;refine⟨a.bx,_,rfl,.inl ⟨_,.inr (cF b),M1.ob,rfl,?_,rfl⟩,?_⟩
    ·have l8:=M1.l8;rw[MD];exact JU (Nat.min_le_left _ _) (by decide)
    rw[CQ b hb _ _ M1.l8,hN];clear hN N;walk_at "rz";rw[ec] at q;refine q _ ⟨by rw[af k2.symm];exact M1.om,by rw[af k9];exact M1.od,by rw[af k8];exact M1.og,by rw[af k5.symm];exact M1.ot,aa,by rw[KA];exact M1.l8,M1.hh⟩ (kb.trans (KB.set (by unfold MF;simp)))
   cases r with
   |put b n=>exact go (.put b n) "put" b rfl bc rfl (by decide +kernel) (by decide +kernel) (by decide +kernel) (by decide +kernel) rfl
   |two u b c=>exact go (.two u b c) (w2 u) b rfl bc.1 rfl ((show ∀u,w2 u≠"jump" by decide +kernel) u) ((show ∀u,w2 u≠"zero" by decide +kernel) u) ((show ∀u,w2 u≠"tell" by decide +kernel) u) ((show ∀u,w2 u≠"halt" by decide +kernel) u) rfl
   |one u b =>
    rcases ig u with rfl|rfl
    rotate_left
    ·exact go (.one 1 b) "hear" b rfl bc rfl (by decide +kernel) (by decide +kernel) (by decide +kernel) (by decide +kernel) rfl
    ·show N [some (.ref a.m),some (.ref p),some (.str "tell")] H;rw[hN];clear go hN N;refine ar λN hN=>?_;walk_at "rz";refine sD (by decide +kernel) ?_
     rw[hN];clear hN N;refine ar λN hN=>?_;walk_at "rz";refine sD (by decide +kernel) ?_
     rw[hN];clear hN N;refine ar λN hN=>?_;walk_at "rz";refine⟨a.m,C,a.dx,_,_,rfl,M.om,cM,na_told,t8 a _,Or.inl ⟨rfl,_,ck.of M.ot⟩,a.m,C,a.dx,_,_,rfl,M.om,cM,na_boxes,eO a _,?_⟩;simp only[L2.Ap.fC,e1];refine⟨a.bx,_,rfl,dg b bc,?_⟩;refine⟨a.tl,_,_,rfl,rfl,M.ot,?_,?_⟩
     ·unfold iV;rw[IP];exact LO htl (Ju (by decide) CC)
     rw[hN];clear hN N;walk_at "rz";refine q _ ⟨by rw[af n1.symm];exact M.om,by rw[af n7];exact M.od,by rw[af n6];exact M.og,?_,by rw[af n5];exact M.ob,M.l8,M.hh⟩ (KB.set (by unfold MF;simp))
     rw[aa];show some (HO.lst (iV st.told++[V.int (sy st.bs b)]))=some (.lst (iV (st.told++[sy st.bs b])));unfold iV;rw[Jm];rfl
   |jump g =>
    show N [some (.ref a.m),some (.ref p),some (.str "jump")] H;rw[hN];clear go hN N;refine ar λN hN=>?_;walk_at "rz";exact q H M (KB.refl _ _)
   |zero b g =>
    show N [some (.ref a.m),some (.ref p),some (.str "zero")] H;rw[hN];clear go hN N;refine ar λN hN=>?_;walk_at "rz";refine sD (by decide +kernel) ?_
    rw[hN];clear hN N;refine ar λN hN=>?_;walk_at "rz";refine⟨a.m,C,a.dx,_,_,rfl,M.om,cM,na_boxes,eO a _,?_⟩;simp only[L2.Ap.fC,e1];refine⟨a.bx,_,rfl,dg b bc,?_⟩;walk_at "rz";exact q H M (KB.refl _ _)
   |halt =>
    show N [some (.ref a.m),some (.ref p),some (.str "halt")] H;rw[hN];clear go hN N;refine ar λN hN=>?_;walk_at "rz";refine sD (by decide +kernel) ?_
    rw[hN];clear hN N;refine ar λN hN=>?_;walk_at "rz";refine sD (by decide +kernel) ?_
    rw[hN];clear hN N;refine ar λN hN=>?_;walk_at "rz";refine sD (by decide +kernel) ?_
    rw[IT (by simp),hN];clear hN N
    walk_at "rz";exact q H M (KB.refl _ _)
  obtain⟨t,hb,ht⟩:=key;exact⟨t,hb.h,ht⟩
noncomputable def lA:df->Option Int
 |.jump g=>some g
 |.zero _ g=>some g
 |_=>none
noncomputable def ka(r:df):V:=match lA r with
 |some g=>.int g
 |none=>.aT
noncomputable def mJ:Sp:=λvs H Q _=>∃(p:Addr) (r:df),vs=[.ref p]/\H p=some (.tup r.vs)/\Q (ka r) H
theorem w6(T:Txt K mg)(F:HasFn K mg "goal_of" gh ["row"]):aq P w K mg base bq 1 "goal_of" ["row"] mJ:=by
 obtain⟨dS,hg_SHAPES,hd0⟩:=T.oF;have hd_SHAPES:lh K dS dh:=hd0;refine F.gU qA (λvs H Q E h=>?_) (λf cdv A outer s H vs Q E hr h=>?_)
 ·obtain⟨p,r,rfl,_⟩:=h;rfl
 ·have hu:=bo hr;obtain⟨p,r,rfl,hp,q⟩:=h;refine⟨_,(Z.aA (Z.ret (Z.EY (Z.bf (Z.GL K rfl) Z.str (Z.Ij K rfl rfl hg_SHAPES hd_SHAPES (Z.ix (Z.az K rfl hu) (Z.v 0) Z.int))) (Z.ix (Z.az K rfl hu) (Z.v 0) (Z.un fK Z.int)) Z.aT))),?_⟩;have sp:=ax hp;have kt1:∀{pk:Addr} {xs:List V},Fp K pk xs->ck K H pk xs\/bu K H pk xs:=λh=>.inr (.inr h);obtain⟨w,ws,e0,ed,ef,h⟩:∃(w:Str) (ws:List Str),bU r.vs 0=some (.str w)/\KTD.datumAt w dh=some ws/\(ws.map V.str).all cK=true/\(hJ (.str "goal") (ws.map V.str)=true/\bU r.vs (-1)=some (ka r)\/hJ (.str "goal") (ws.map V.str)=false/\ka r=.aT):=by
   cases r with
   |jump g=>exact⟨_,_,rfl,(by decide +kernel:KTD.datumAt ("jump":Str) dh=some [("goal":Str)]),rfl,.inl ⟨by decide +kernel,rfl⟩⟩
   |zero b g=>exact⟨_,_,rfl,(by decide +kernel:KTD.datumAt ("zero":Str) dh=some [("box":Str),"goal"]),rfl,.inl ⟨by decide +kernel,rfl⟩⟩
   |put b n=>exact⟨_,_,rfl,(by decide +kernel:KTD.datumAt ("put":Str) dh=some [("box":Str),"number"]),rfl,.inr ⟨by decide +kernel,rfl⟩⟩
   |two u b c=>exact⟨_,_,rfl,(by decide +kernel:∀u:_root_.Fin 3,KTD.datumAt (w2 u) dh=some [("box":Str),"box"]) u,rfl,.inr ⟨by decide +kernel,rfl⟩⟩
   |one u b=>exact⟨_,_,rfl,(by decide +kernel:∀u:_root_.Fin 2,KTD.datumAt (w1 u) dh=some [("box":Str)]) u,rfl,.inr ⟨by decide +kernel,rfl⟩⟩
   |halt=>exact⟨_,_,rfl,(by decide +kernel:KTD.datumAt ("halt":Str) dh=some ([]:List Str)),rfl,.inr ⟨by decide +kernel,rfl⟩⟩
  exists sp,e0;refine⟨_,_,rfl,ed,λpk kt=>⟨pk,_,rfl,kt1 kt,rfl,ef,?_⟩⟩;refine⟨_,rfl,?_⟩;rcases h with ⟨h1,h2⟩|⟨h1,h2⟩
  ·rw[IT Jb,h1,IW rfl];simp only[sp,h2];exact q
  ·rw[IT Jb,h1,IT Jb];rw[h2] at q;exact q
noncomputable def place(st:ie)(r:df)(bh en:Int):Int:=match r with
 |.halt=>en
 |r=>if (carry st r).1=true then ((lA r).getD 0) else bh
noncomputable def B3(K:Og)(C:Addr):Sp:=λvs H Q _=>∃(a:MA) (st:ie) (p:Addr) (r:df) (bh en:Int),vs=[.ref a.m,.ref p,.int bh,.int en]/\MS K C H a st/\H p=some (.tup r.vs)/\r.Ok/\st.told.length<100000 /\
 ∀H',MS K C H' a (carry st r).2->KB (MF a) H H'->Q (.int (place st r bh en)) H'
theorem zA{fc:Addr}{d_carry_out:FuncData}(T:Txt K mg)(hgoal_of:aq P w K mg base bq 1 "goal_of" ["row"] mJ)(cM:kM K C)(mm_carry_out:Meth K C "carry_out" fc)(bm_carry_out:Binds K d_carry_out ["self","row"] [])(FO_carry_out:cG P w K mg base bq 3 fc d_carry_out ["self","row"] (tU K C))(F:jS K "place_next" "Machine.place_next" aJ f fd):cG P w K mg base bq 4 f fd ["self","row","behind","end"] (B3 K C):=by
 refine F.ok c_ (λvs H Q E h=>?_) (λcdv A outer s H vs Q E hr h=>?_)
 ·obtain⟨a,st,p,r,bh,en,rfl,_⟩:=h;rfl
 ·obtain⟨a,st,p,r,bh,en,rfl,M,hp,bc,htl,q⟩:=h;have hu:=bo hr;have key:∃t,QB (fT bq P w K mg base ["self","row","behind","end","goes"] "Machine.place_next" (ae aJ) f cdv A outer s H E).qd (aU aJ) t/\t {nx:=λ_ H'=>Q .aT H',rt:=Q} (start ["self","row","behind","end","goes"] [.ref a.m,.ref p,.int bh,.int en]) H:=by
   refine⟨_,(Z.ai (Z.set (i:=4) c_.nd rfl (by right) (Z.EH K rfl (Z.v 0) cM mm_carry_out FO_carry_out (hr.mono (by decide)) bm_carry_out av (Z.cons (Z.v 1) Z.nil)))
   (Z.ai (Z.d9 (Z.bf bB (Z.ix (Z.az K rfl hu) (Z.v 1) Z.int) Z.str) (Z.aA (Z.ret (Z.v 3))) Z.bG)
   (Z.aA (Z.ret (Z.EY (Z.qi K rfl (Z.v 4)) (Z.fn hgoal_of (hr.mono (by decide)) rfl av (Z.cons (Z.v 1) Z.nil)) (Z.v 2)))))),?_⟩
   refine ar λN hN=>?_;walk_at "rz";refine⟨a.m,a.dx,_,rfl,M.om,rfl,a,st,p,r,rfl,M,hp,bc,htl,λH1 M1 kb=>?_⟩;have hp1:H1 p=some (.tup r.vs):=kb _ _ hp (by
    unfold MF;simp only[IX,Js,JT,not_or];exact⟨λe=>(by rw[e,M.om] at hp;cases hp),λe=>(by rw[e,M.ot] at hp;cases hp),λe=>(by rw[e,M.ob] at hp;cases hp)⟩)
   have e2:sq H1 p=some (false,r.vs):=ax hp1;walk_at "rz";rw[hN];clear hN N;refine ar λN hN=>?_;walk_at "rz";simp only[L2.Ap.fC,e2];have fin:=q H1 M1 kb;by_cases hh:r=.halt
   ·subst hh;show BR (.str "halt") (.str "halt") H1 _;simp only[L2.Ap.DZ];exact⟨_,rfl,by rw[IW (by simp)];exact fin⟩
   ·obtain⟨wd,hw,hne⟩:∃wd,bU r.vs 0=some (.str wd)/\wd≠"halt":=by
     cases r with
     |put b n=>exact⟨_,rfl,by decide +kernel⟩
     |two u b c=>exact⟨_,rfl,(show ∀u,w2 u≠"halt" by decide +kernel) u⟩
     |one u b=>exact⟨_,rfl,(show ∀u,w1 u≠"halt" by decide +kernel) u⟩
     |jump g=>exact⟨_,rfl,by decide +kernel⟩
     |zero b g=>exact⟨_,rfl,by decide +kernel⟩
     |halt=>exact absurd rfl hh
    have ep:place st r bh en=if (carry st r).1=true then ((lA r).getD 0) else bh:=by
     cases r<;>first|rfl|exact absurd rfl hh
    rw[hw];simp only[L2.Ap.DZ];refine⟨_,rfl,?_⟩;rw[IT (by simpa using hne),hN];clear hN N
    walk_at "rz"
    cases hc:(carry st r).1 with
    |false =>
     rw[IT (by decide)]
     rw[ep,hc] at fin;exact fin
    |true =>
     rw[IW rfl];obtain⟨g,hg⟩:∃g,lA r=some g:=by
      cases r with
      |put b n=>cases hc
      |two u b c=>cases hc
      |one u b =>
       rcases ig u with rfl|rfl<;>cases hc
      |jump g=>exact⟨g,rfl⟩
      |zero b g=>exact⟨g,rfl⟩
      |halt=>cases hc
     refine⟨p,r,rfl,hp1,?_⟩;have hT:ka r=.int g:=by unfold ka;rw[hg]
     have:=q H1 M1 kb;rw[ep,hc,hg] at this;rw[hT];exact this
  obtain⟨t,hb,ht⟩:=key;exact⟨t,hb.h,ht⟩
noncomputable def DM(K:Og)(C:Addr):Sp:=λvs H Q _=>∃(a:MA) (st:ie),vs=[.ref a.m]/\MS K C H a st/\∀p,H p=none->Q (.ref p) (upd H p (.tup (iV st.told)))
theorem AE(T:Txt K mg)(cM:kM K C)(na_told:bF K C "told")(F:jS K "told_numbers" "Machine.told_numbers" aG f fd):cG P w K mg base bq 1 f fd ["self"] (DM K C):=by
 refine F.ok eQ (λvs H Q E h=>?_) (λcdv A outer s H vs Q E hr h=>?_)
 ·obtain⟨a,st,rfl,_⟩:=h;rfl
 ·obtain⟨a,st,rfl,M,q⟩:=h;have hu:=bo hr;have key:∃t,QB (fT bq P w K mg base ["self"] "Machine.told_numbers" (ae aG) f cdv A outer s H E).qd (aU aG) t/\t {nx:=λ_ H'=>Q .aT H',rt:=Q} (start ["self"] [.ref a.m]) H:=by
   refine⟨_,(Z.aA (Z.ret (Z.ct (Z.dC K rfl) rfl T.dG (by decide +kernel) (Z.cons (Z.fld K rfl (Z.v 0)) Z.nil)))),?_⟩
   have e1:sq H a.tl=some (true,iV st.told):=au M.ot;walk_at "rz";refine⟨a.m,C,a.dx,_,_,rfl,M.om,cM,na_told,t8 a _,?_⟩;simp only[L2.Ap.qG,e1];exactλp hp=>q p hp
  obtain⟨t,hb,ht⟩:=key;exact⟨t,hb.h,ht⟩
noncomputable def Fd:List Str:=["a","b","c","d","e","f","g","h"]
noncomputable def AS(K:Og)(C:Addr):Sp:=λvs H Q _=>∃(a:MA) (st:ie),vs=[.ref a.m]/\MS K C H a st/\∀p H',H p=none->H' p=some (.tup (iV st.bs))->KB [] H H'->Q (.ref p) H'
theorem wL(T:Txt K mg)(cM:kM K C)(na_boxes:bF K C "boxes")(F:jS K "box_numbers" "Machine.box_numbers" aC f fd):cG P w K mg base bq 1 f fd ["self"] (AS K C):=by
 obtain⟨b,hg_BOXES,kt0⟩:=T.nK;have hr_BOXES:RelV (.ref b) (.ref b):=rfl;have kt:∀H,bu K H b (Fd.map V.str):=kt0;refine F.ok fj (λvs H Q E h=>?_) (λcdv A outer s H vs Q E hr h=>?_)
 ·obtain⟨a,st,rfl,_⟩:=h;rfl
 ·obtain⟨a,st,rfl,M,q⟩:=h;have hu:=bo hr;have key:∃t,QB (fT bq P w K mg base ["self"] "Machine.box_numbers" (ae aC) f cdv A outer s H E).qd (aU aC) t/\t {nx:=λ_ H'=>Q .aT H',rt:=Q} (start ["self"] [.ref a.m]) H:=by
   refine⟨_,(Z.aA (Z.ret (Z.ct (Z.dC K rfl) rfl T.dG (by decide +kernel) (Z.cons (Z.comp (osc:=ae aC) (ON:=["self"]) (own:=["box"]) (N:=["box","self"]) ⟨rfl,by decide +kernel,rfl,by decide +kernel,by decide +kernel,by decide +kernel,by decide +kernel,by decide +kernel⟩ rfl rfl rfl (Z.seq K rfl (Z.glob rfl hg_BOXES hr_BOXES)) (λ_ _ _ _=>(Z.bp (i:=0) (show List.Nodup (["box","self"]:List Str) by decide +kernel) rfl (by right))) (λ_ _ _ _=>Z.sH) (λ_ _ _ _=>(Z.wI hu (Z.fld K rfl (Z.v 1)) (Z.v 0)))) Z.nil)))),?_⟩
   walk_at "rz";refine .inr ⟨⟨_,kt _⟩,?_⟩;have l8:=M.l8;refine cm (xs:=Fd.map V.str) (by decide) (λD i ys H'=>H D=none/\KB [] H H'/\H' D=some (.lst ys)/\ys=iV (st.bs.take i)/\i<=8) (λD hD=>⟨hD,KB.new hD,aa,by simp[iV],by decide⟩) (λD i ys H' ⟨h1,h2,h3,h4,h5⟩=>⟨h3,by rw[h4];unfold iV;rw[IP,Jn];omega⟩) (λD i ys H' _=>kt _) ?_ ?_
   ·rintro D i ys H' x R hx ⟨h1,h2,h3,h4,h5⟩ k;have hi:i<8:=by
     rcases JL i 8 with c|c
     ·exact c
     ·rw[J7.mpr (by exact c)] at hx;cases hx
    have ex:x=.str (cF i):=by
     rcases Ew hi with rfl|rfl|rfl|rfl|rfl|rfl|rfl|rfl<;>exact (Option.some.inj hx).symm
    subst ex;have om':=h2 _ _ M.om (by simp)
    have ob':=h2 _ _ M.ob (by simp)
    walk_at "rz";refine⟨a.m,C,a.dx,_,_,rfl,om',cM,na_boxes,eO a _,a.bx,_,rfl,.inl ⟨_,.inr (cF i),.inl ob',rfl,(qH i hi st.bs l8).symm⟩,?_⟩;refine k _ H' h3 ⟨h1,λb o e _=>?_,aa,?_,by omega⟩
    ·rw[af (ao e h1)];exact h2 b o e (by simp)
    ·have hb:i<st.bs.length:=by omega
     rw[h4,Mn hb];unfold iV sy;rw[Jm,IJ hb];rfl
   ·rintro D ys H' ⟨h1,h2,h3,h4,h5⟩;have e1:sq H' D=some (true,ys):=au h3;simp only[L2.Ap.qG,e1];refineλp hp=>q p _ (h2.free (by simp) hp) ?_ (h2.trans (KB.new hp))
    rw[aa,h4];have:st.bs.take (Fd.map V.str).length=st.bs:=JR (by rw[l8];decide)
    rw[this]
  obtain⟨t,hb,ht⟩:=key;exact⟨t,hb.h,ht⟩
noncomputable def GH(g:List Int):ie:=⟨g,0,[],[0,0,0,0,0,0,0,0]⟩
noncomputable def CB(K:Og)(C:Addr):Sp:=λvs H Q _=>∃(x dx gv:Addr) (g:List Int),vs=[.ref x,.ref gv]/\H x=some (.ins C dx [])/\H dx=some (.own x)/\H gv=some (.tup (iV g)) /\
 ∀H' tl bx,H tl=none->H bx=none->MS K C H' ⟨x,dx,gv,tl,bx⟩ (GH g)->KB [x] H H'->Q .aT H'
theorem BI(T:Txt K mg)(cM:kM K C)(na_given:bF K C "given")(na_heard:bF K C "heard")(na_told:bF K C "told")(na_boxes:bF K C "boxes")(F:jS K "__init__" "Machine.__init__" aM f fd):cG P w K mg base bq 1 f fd ["self","given"] (CB K C):=by
 obtain⟨b,hg_BOXES,kt0⟩:=T.nK;have hr_BOXES:RelV (.ref b) (.ref b):=rfl;have kt:∀H,bu K H b (Fd.map V.str):=kt0;refine F.ok gI (λvs H Q E h=>?_) (λcdv A outer s H vs Q E hr h=>?_)
 ·obtain⟨x,dx,gv,g,rfl,_⟩:=h;rfl
 ·obtain⟨x,dx,gv,g,rfl,ox,od,og,q⟩:=h;have hu:=bo hr;have key:∃t,QB (fT bq P w K mg base ["self","given"] "Machine.__init__" (ae aM) f cdv A outer s H E).qd (aU aM) t/\t {nx:=λ_ H'=>Q .aT H',rt:=Q} (start ["self","given"] [.ref x,.ref gv]) H:=by
   refine⟨_,(Z.ai (Z.xD K rfl (Z.v 0) (Z.v 1))
   (Z.ai (Z.xD K rfl (Z.v 0) Z.int)
   (Z.ai (Z.xD K rfl (Z.v 0) (Z.lst Z.nil))
   (Z.aA (Z.xD K rfl (Z.v 0) (Z.ct (pM K rfl) rfl T.De (by decide +kernel) (Z.cons (Z.comp (osc:=ae aM) (ON:=["self","given"]) (own:=["box"]) (N:=["box","self","given"]) ⟨rfl,by decide +kernel,rfl,by decide +kernel,by decide +kernel,by decide +kernel,by decide +kernel,by decide +kernel⟩ rfl rfl rfl (Z.seq K rfl (Z.glob rfl hg_BOXES hr_BOXES)) (λ_ _ _ _=>(Z.bp (i:=0) (show List.Nodup (["box","self","given"]:List Str) by decide +kernel) rfl (by right))) (λ_ _ _ _=>Z.sH) (λ_ _ _ _=>(Z.tup (Z.cons (Z.v 0) (Z.cons Z.int Z.nil))))) Z.nil))))))),?_⟩
   have ndx:dx≠x:=by rintro rfl;rw[ox] at od;cases od
   have ngx:gv≠x:=by rintro rfl;rw[ox] at og;cases og
   refine ar λN hN=>?_;walk_at "rz";refine⟨x,C,dx,_,rfl,ox,cM,na_given,by decide,?_⟩
   rw[hN];clear hN N;refine ar λN hN=>?_;walk_at "rz";refine⟨x,C,dx,_,rfl,aa,cM,na_heard,(show 1<1000 by decide),?_⟩
   rw[hN];clear hN N;rw[mH];refine ar λN hN=>?_;walk_at "rz";refine⟨by decide,λtl htl=>?_⟩
   have ntl:tl≠x:=by rintro rfl;rw[aa] at htl;cases htl
   have htl0:H tl=none:=by rw[af ntl] at htl;exact htl
   refine⟨x,C,dx,d8 "heard" (.int 0) (d8 "given" (.ref gv) []),rfl,by rw[af ntl.symm];exact aa,cM,na_told,(show 2<1000 by decide),?_⟩
   rw[hN];clear hN N;have ntd:tl≠dx:=λe=>by rw[e,od] at htl0;cases htl0
   have ntg:tl≠gv:=λe=>by rw[e,og] at htl0;cases htl0
   obtain⟨H3,e3⟩:∃H3,H3=upd (upd (upd H x (.ins C dx (d8 "heard" (.int 0) (d8 "given" (.ref gv) [])))) tl (.lst [])) x (.ins C dx (d8 "told" (.ref tl) (d8 "heard" (.int 0) (d8 "given" (.ref gv) [])))):=⟨_,rfl⟩;rw[<- e3];have x3:H3 x=some (.ins C dx [("given",.ref gv),("heard",.int 0),("told",.ref tl)]):=by rw[e3];exact aa
   have t3:H3 tl=some (.lst []):=by rw[e3,af ntl];exact aa
   have d3:H3 dx=some (.own x):=by rw[e3,af ndx,af ntd.symm,af ndx];exact od
   have g3:H3 gv=some (.tup (iV g)):=by rw[e3,af ngx,af ntg.symm,af ngx];exact og
   have k3:KB [x] H H3:=by
    rw[e3];exact ((KB.set (by simp)).trans (KB.new htl)).trans (KB.set (by simp))
   clear e3;walk_at "rz";refine .inr ⟨⟨_,kt _⟩,?_⟩;refine cm (xs:=Fd.map V.str) (by decide) (λD i ys H'=>H3 D=none/\KB [] H3 H'/\H' D=some (.lst ys)/\ys.length=i/\i<=8/\∀j,j<i->∃p,ys[j]?=some (.ref p)/\H' p=some (.tup [.str (cF j),.int 0])) (λD hD=>⟨hD,KB.new hD,aa,rfl,by decide,λj hj=>absurd hj (LK _)⟩) (λD i ys H' ⟨h1,h2,h3,h4,h5⟩=>⟨h3,h4⟩) (λD i ys H' _=>kt _) ?_ ?_
   ·rintro D i ys H' z R hx ⟨h1,h2,h3,h4,h5,h6⟩ k;have hi:i<8:=by
     rcases JL i 8 with c|c
     ·exact c
     ·rw[J7.mpr (by exact c)] at hx;cases hx
    have ex:z=.str (cF i):=by
     rcases Ew hi with rfl|rfl|rfl|rfl|rfl|rfl|rfl|rfl<;>exact (Option.some.inj hx).symm
    subst ex;walk_at "rz";refine⟨by decide,λp hp=>?_⟩
    have npD:p≠D:=by rintro rfl;rw[h3] at hp;cases hp
    refine k _ _ (by rw[af npD.symm];exact h3) ⟨h1,λc o e _=>?_,aa,by rw[IL,h4];rfl,by omega,λj hj=>?_⟩
    ·have hc:=h2 c o e (by simp)
     rw[af (ao e h1),af (ao hc hp)];exact hc
    ·rcases JL j i with c|c
     ·obtain⟨p',e1,e2⟩:=h6 j c;have n1:p'≠D:=by rintro rfl;rw[h3] at e2;cases e2
      exact⟨p',by rw[Jx (by omega)];exact e1,by rw[af n1,af (ao e2 hp)];exact e2⟩
     ·have:j=i:=by omega
      subst this;exact⟨p,by rw[Jk (by omega),h4];simp,by rw[af npD];exact aa⟩
   ·rintro D ys H' ⟨h1,h2,h3,h4,h5,h6⟩;have hl:(Fd.map V.str).length=8:=rfl;rw[hl] at h4 h6;refine⟨D,ys,BY.zip (iV (GH g).bs),rfl,h3,⟨h4,λj k z e=>?_⟩,(show 8<=20000 by decide),λp hp=>?_⟩
    ·have hj:j<8:=by
      rcases JL j 8 with c|c
      ·exact c
      ·rw[J7.mpr (by exact c)] at e;cases e
     obtain⟨p,e1,e2⟩:=h6 j hj;refine⟨p,e1,?_⟩;rw[e2];rcases Ew hj with rfl|rfl|rfl|rfl|rfl|rfl|rfl|rfl<;>(cases e;rfl)
    ·have hm:fY [] (BY.zip (iV (GH g).bs))=BY.zip (iV (GH g).bs):=by
      rw[Y.l_ _ [] ?_,J_];show (BY.map λk=>k).Nodup
      decide +kernel
     rw[hm];have x4:=h2 _ _ x3 (by simp)
     have t4:=h2 _ _ t3 (by simp)
     have d4:=h2 _ _ d3 (by simp)
     have g4:=h2 _ _ g3 (by simp)
     have px:p≠x:=λe=>by rw[e,x4] at hp;cases hp
     have pt:p≠tl:=λe=>by rw[e,t4] at hp;cases hp
     have pd:p≠dx:=λe=>by rw[e,d4] at hp;cases hp
     have pg:p≠gv:=λe=>by rw[e,g4] at hp;cases hp
     have hp3:H3 p=none:=h2.free (by simp) hp
     have hp0:H p=none:=k3.free (by simpa using px) hp3
     refine⟨x,C,dx,[("given",.ref gv),("heard",.int 0),("told",.ref tl)],rfl,by rw[af px.symm];exact x4,cM,na_boxes,(show 3<1000 by decide),?_⟩
     refine q _ tl p htl0 hp0 ⟨aa,by rw[af ndx,af pd.symm];exact d4,by rw[af ngx,af pg.symm];exact g4,by rw[af ntl,af pt.symm];exact t4,by rw[af px];exact aa,rfl,Jj _⟩ ?_
     exact ((k3.trans h2.all).trans (KB.new hp)).trans (KB.set (by simp))
  obtain⟨t,hb,ht⟩:=key;exact⟨t,hb.h,ht⟩
structure BS where
 st:ie
 at_:Int
 rd:Int
noncomputable def lI(cd:List (List (List Nat)))(z:List Nat)(p:Int):Option (df×Nat):=(vC cd z p).map λx=>(rQ x,x.2)
noncomputable def iz(z:List Nat)(c:BS)(x:df×Nat):BS:=⟨(carry c.st x.1).2,place c.st x.1 (x.2:Nat) (z.length:Nat),c.rd+(x.2:Nat)-c.at_⟩
noncomputable def aH(cd:List (List (List Nat)))(z:List Nat):Nat->BS->BS
 |0,c=>c
 |n+1,c=>match lI cd z c.at_ with
  |none=>c
  |some x=>aH cd z n (iz z c x)
noncomputable def fS(cd:List (List (List Nat)))(z:List Nat)(c:BS):Str:=if c.at_=(z.length:Nat) then "halt" else match lI cd z c.at_ with
 |none=>"bad"
 |some _=>"more"
noncomputable def gQ(g:List Int):BS:=⟨GH g,0,0⟩
noncomputable def EC(H:Hp)(v:V)(cd:List (List (List Nat)))(z:List Nat)(c:BS):Prop:=∃t p1 p2,v=.ref t/\H t=some (.tup [.str (fS cd z c),.ref p1,.int c.rd,.ref p2])/\H p1=some (.tup (iV c.st.told))/\H p2=some (.tup (iV c.st.bs))
theorem B4(st:ie)(r:df):(carry st r).2.told.length<=st.told.length+1:=by
 have hh:(cJ st).2.told=st.told:=by unfold cJ;split<;>rfl
 cases r with
 |put b n=>exact Kh _
 |two u a b=>exact Kh _
 |one u b =>
  rcases ig u with rfl|rfl
  ·show (st.told++[sy st.bs b]).length<=_;rw[IL];exact IU _
  ·show (cJ st).2.told.length<=_;rw[hh];exact Kh _
 |jump g=>exact Kh _
 |zero b g=>exact Kh _
 |halt=>exact Kh _
theorem rK{cd:List (List (List Nat))}{n:Nat}{c:BS}(h:vC cd z c.at_=none):aH cd z n c=c:=by
 cases n with
 |zero=>rfl
 |succ k=>rw[aH];unfold lI;rw[h];rfl
theorem qw{cd:List (List (List Nat))}{n:Nat}{c:BS}{y:RW×Nat}(h:vC cd z c.at_=some y):aH cd z (n+1) c=aH cd z n (iz z c (rQ y,y.2)):=by
 rw[aH];unfold lI;rw[h];rfl
theorem DO{m:Str}{a:MA}{h:Nat}(h1:m≠"given")(h2:m≠"heard")(h3:m≠"told")(h4:m≠"boxes"):(yd a h).lookup m=none:=by
 unfold yd;rw[JI,Jv.mpr h1,JI,Jv.mpr h2,JI,Jv.mpr h3,JI,Jv.mpr h4];rfl
theorem MS.kb{a:MA}{st:ie}(M:MS K C H a st)(k:KB [] H H'):MS K C H' a st:=⟨k _ _ M.om (by simp),k _ _ M.od (by simp),k _ _ M.og (by simp),k _ _ M.ot (by simp),k _ _ M.ob (by simp),M.l8,M.hh⟩
noncomputable def ja(K:Og):Sp:=λvs H Q _=>∃(b gv:Addr) (bk:List (List Int)) (z:List Nat) (g:List Int) (most:Nat),vs=[.str (wd z),.ref b,.ref gv,.int (most:Nat)]/\qc H b bk/\H gv=some (.tup (iV g))/\Bk bk/\qh (a_ bk)/\cY z/\z.length<=1000000/\most<=10000/\∀v H',KB [] H H'->EC H' v (a_ bk) z (aH (a_ bk) z most (gQ g))->Q v H'
theorem AR(T:Txt K mg)(hgoal_of:aq P w K mg base bq 1 "goal_of" ["row"] mJ)(hcodes_of:aq P w K mg base bq 6 "codes_of" ["book"] (sG K))(hrow_at:aq P w K mg base bq 5 "row_at" ["codes","bits","place"] (tM K))(F:HasFn K mg "run_bits" fA ["bits","book","given","most"]):aq P w K mg base bq 7 "run_bits" ["bits","book","given","most"] (ja K):=by
 obtain⟨C_Machine,f___init__,f_place_next,f_carry_out,f_number_for,f_heard_number,f_told_numbers,f_box_numbers,d___init__,d_place_next,d_carry_out,d_number_for,d_heard_number,d_told_numbers,d_box_numbers,hC_Machine,cM,na_given,na_heard,na_told,na_boxes,mm___init__,FM___init__,bm___init__,mm_place_next,FM_place_next,bm_place_next,mm_carry_out,FM_carry_out,bm_carry_out,mm_number_for,FM_number_for,bm_number_for,mm_heard_number,FM_heard_number,bm_heard_number,mm_told_numbers,FM_told_numbers,bm_told_numbers,mm_box_numbers,FM_box_numbers,bm_box_numbers⟩:=T.mc;have FO_heard_number:=yl (P:=P) (w:=w) (mg:=mg) (base:=base) T cM na_given na_heard FM_heard_number;have FO_number_for:=E3 (P:=P) (w:=w) (mg:=mg) (base:=base) T cM na_boxes mm_heard_number bm_heard_number FO_heard_number FM_number_for;have FO_carry_out:=xN (P:=P) (w:=w) (mg:=mg) (base:=base) T cM na_boxes na_told mm_number_for bm_number_for FO_number_for FM_carry_out;have FO_place_next:=zA T hgoal_of cM mm_carry_out bm_carry_out FO_carry_out FM_place_next;have FO_told_numbers:=AE (P:=P) (w:=w) (mg:=mg) (base:=base) T cM na_told FM_told_numbers;have FO_box_numbers:=wL (P:=P) (w:=w) (mg:=mg) (base:=base) T cM na_boxes FM_box_numbers;have FO___init__:=BI (P:=P) (w:=w) (mg:=mg) (base:=base) T cM na_given na_heard na_told na_boxes FM___init__;refine F.gU ba (λvs H Q E h=>?_) (λf cdv A outer s H vs Q E hr h=>?_)
 ·obtain⟨b,gv,bk,z,g,most,rfl,_⟩:=h;rfl
 ·obtain⟨bb,gv,bk,z,g,most,rfl,hbk,og,hBk,hR,hb,hz,hmo,q⟩:=h;have hu:=bo hr;refine⟨_,(Z.ai (Z.set (i:=4) ba.nd rfl (by right) (Z.fn hcodes_of (hr.mono (by decide)) rfl av (Z.cons (Z.v 1) Z.nil)))
   (Z.ai (Z.set (i:=5) ba.nd rfl (by right) (Z.make K rfl mm___init__ FO___init__ (hr.mono (by decide)) rfl hC_Machine bm___init__ av (Z.cons (Z.v 2) Z.nil)))
   (Z.ai (Z.set (i:=6) ba.nd rfl (by right) Z.int)
   (Z.ai (Z.set (i:=7) ba.nd rfl (by right) Z.int)
   (Z.ai (Z.set (i:=8) ba.nd rfl (by right) Z.int)
   (Z.ai (Z.set (i:=9) ba.nd rfl (by right) (Z.fn hrow_at (hr.mono (by decide)) rfl av (Z.cons (Z.v 4) (Z.cons (Z.v 0) (Z.cons (Z.v 8) Z.nil)))))
   (Z.ai (Z.yZ J6 (Z.tw (Z.vk (Z.bf jv (Z.v 9) Z.aT) (Z.lU (Z.bf mh (Z.v 7) (Z.v 3))))) (Z.ai (Z.set (i:=6) ba.nd rfl (by right) (Z.op bX (Z.op (Z.aR K rfl) (Z.v 6) (Z.ix (Z.az K rfl hu) (Z.v 9) Z.int)) (Z.v 8)))
   (Z.ai (Z.set (i:=7) ba.nd rfl (by right) (Z.op (Z.aR K rfl) (Z.v 7) Z.int))
   (Z.ai (Z.set (i:=8) ba.nd rfl (by right) (Z.EH K rfl (Z.v 5) cM mm_place_next FO_place_next (hr.mono (by decide)) bm_place_next av (Z.cons (Z.ix (Z.az K rfl hu) (Z.v 9) Z.int) (Z.cons (Z.ix (Z.az K rfl hu) (Z.v 9) Z.int) (Z.cons (Z.cb (Z.cw K rfl) rfl T.cf (by decide +kernel) (Z.cons (Z.v 0) Z.nil)) Z.nil)))))
   (Z.aA (Z.set (i:=9) ba.nd rfl (by right) (Z.fn hrow_at (hr.mono (by decide)) rfl av (Z.cons (Z.v 4) (Z.cons (Z.v 0) (Z.cons (Z.v 8) Z.nil))))))))))
   (Z.ai (Z.d9 (Z.bf bB (Z.v 8) (Z.cb (Z.cw K rfl) rfl T.cf (by decide +kernel) (Z.cons (Z.v 0) Z.nil))) (Z.aA (Z.set (i:=10) ba.nd rfl (by right) Z.str)) (Z.aA (Z.set (i:=10) ba.nd rfl (by right) (Z.EY (Z.bf fu (Z.v 9) Z.aT) Z.str Z.str))))
   (Z.aA (Z.ret (Z.tup (Z.cons (Z.v 10) (Z.cons (Z.xT K rfl (Z.v 5) cM mm_told_numbers FO_told_numbers (hr.mono (by decide)) bm_told_numbers av) (Z.cons (Z.v 6) (Z.cons (Z.xT K rfl (Z.v 5) cM mm_box_numbers FO_box_numbers (hr.mono (by decide)) bm_box_numbers av) Z.nil))))))))))))))),?_⟩
  refine ar λN hN=>?_;walk_at "rz";refine⟨bb,bk,rfl,hbk,hBk,λca H1 hca k1 rc=>?_⟩;rw[hN];clear hN N;generalize fH:a_ bk=cd at *;have og1:=k1 _ _ og (by simp)
  refine ar λN hN=>?_;walk_at "rz";intro x dx hx0 hdx0 hxd;have gx:gv≠x:=λzz=>by rw[zz,hx0] at og1;cases og1
  have gd:gv≠dx:=λzz=>by rw[zz,hdx0] at og1;cases og1
  refine⟨x,dx,gv,g,rfl,aa,by rw[af hxd];exact aa,by rw[af gx,af gd];exact og1,λH2 tl bx htl hbx M2 kb2=>⟨rfl,?_⟩⟩
  have k12:KB [] H1 H2:=λc o e _=>kb2 c o (by rw[af (ao e hx0),af (ao e hdx0)];exact e) (by simpa using ao e hx0)
  obtain⟨a,ea⟩:∃a:MA,a=⟨x,dx,gv,tl,bx⟩:=⟨_,rfl⟩;have em:x=a.m:=by rw[ea]
  rw[<- ea] at M2;rw[em];have new:∀b,b∈MF a->H1 b=none:=λb hb=>by
   have un:∀{c:Addr},upd (upd H1 dx (HO.own x)) x (HO.ins C_Machine dx []) c=none->H1 c=none:=λ{c} e=>by
    by_cases c1:c=x
    ·rw[c1];exact hx0
    ·rw[af c1] at e;by_cases c2:c=dx
     ·rw[c2];exact hdx0
     ·rw[af c2] at e;exact e
   rw[ea] at hb;simp only[MF,IX,Js,JT] at hb;rcases hb with rfl|rfl|rfl
   ·exact hx0
   ·exact un htl
   ·exact un hbx
  have FU:∀{G:Hp} {st:ie},MS K C_Machine G a st->∀b,b∈MF a->∃o,G b=some o:=λM b hb=>by
   simp only[MF,IX,Js,JT] at hb;rcases hb with rfl|rfl|rfl
   ·exact⟨_,M.om⟩
   ·exact⟨_,M.ot⟩
   ·exact⟨_,M.ob⟩
  have ntp:∀{G:Hp} {st:ie},MS K C_Machine G a st->∀b∈MF a,∀xs,G b≠some (.tup xs):=λM b hb xs e=>by
   simp only[MF,IX,Js,JT] at hb;rcases hb with rfl|rfl|rfl
   ·rw[M.om] at e;cases e
   ·rw[M.ot] at e;cases e
   ·rw[M.ob] at e;cases e
  have nca:ca∉MF a:=λz=>by
   obtain⟨_,_,_,e,_⟩:=rc;rw[new ca z] at e;cases e
  have rc2:vG H2 ca cd:=rc.kb k12;have old2:KB [] H H2:=k1.trans k12;have keepH:∀{G G':Hp},KB [] H G->KB (MF a) G G'->KB [] H G':=λo k c u e _=>k _ _ (o _ _ e (by simp)) λzz=>by
   have:=k1 _ _ e (by simp)
   rw[new c zz] at this;cases this
  clear hx0 hdx0 hxd gx gd htl hbx kb2 rc k12 og1 hca em;rw[hN];clear hN N;refine ar λN hN=>?_;walk_at "rz";rw[hN];clear hN N;refine ar λN hN=>?_;walk_at "rz";rw[hN];clear hN N;refine ar λN hN=>?_;walk_at "rz";rw[hN];clear hN N;refine ar λN hN=>?_;walk_at "rz";refine⟨ca,cd,z,0,rfl,rc2,hR,hb,hz,λv H3 k3 r3=>?_⟩;rw[hN];clear hN N;obtain⟨R,eR⟩:∃R,R=aH cd z most (gQ g):=⟨_,rfl⟩;rw[<- eR] at q;refine ar λN hN=>?_;refine⟨λm σ H'=>∃(n:Nat) (c:BS) (v:V),n<=most/\m=most-n/\R=aH cd z (most-n) c/\c.st.told.length<=n/\MS K C_Machine H' a c.st/\KB [] H H'/\vG H' ca cd/\Hi H' v (vC cd z c.at_)/\σ=[some (V.str (wd z)),some (.ref bb),some (V.ref gv),some (V.int (most:Nat)),some (V.ref ca),some (V.ref a.m),some (V.int c.rd),some (V.int (n:Nat)),some (V.int c.at_),some v,none],⟨most,0,gQ g,v,Jj _,rfl,eR,Jj _,M2.kb k3,old2.trans k3,rc2.kb k3,r3,rfl⟩,?_⟩;clear M2 rc2 r3 k3 old2 v;rintro m σ H4 ⟨n,c,v,hn,rfl,hrun,htl,M4,old4,rc4,r4,rfl⟩;have lz:(wd z).length<=sizeLine:=by rw[aO];exact IY hz (by decide)
  have fin:R=c->N [some (V.str (wd z)),some (.ref bb),some (V.ref gv),some (V.int (most:Nat)),some (V.ref ca),some (V.ref a.m),some (V.int c.rd),some (V.int (n:Nat)),some (V.int c.at_),some v,none] H4:=λhc=>by
   rw[hN];clear hN N;subst hc;refine ar λN hN=>?_;have ret:N [some (V.str (wd z)),some (.ref bb),some (V.ref gv),some (V.int (most:Nat)),some (V.ref ca),some (V.ref a.m),some (V.int R.rd),some (V.int (n:Nat)),some (V.int R.at_),some v,some (V.str (fS cd z R))] H4:=by
    rw[hN];clear hN N;walk_at "rz";refine⟨a.m,a.dx,_,rfl,M4.om,DO (by decide +kernel) (by decide +kernel) (by decide +kernel) (by decide +kernel),a,R.st,rfl,M4,λp1 hp1=>?_⟩
    have k5:KB [] H4 (upd H4 p1 (.tup (iV R.st.told))):=KB.new hp1;have t5:upd H4 p1 (.tup (iV R.st.told)) p1=some (.tup (iV R.st.told)):=aa;generalize upd H4 p1 (.tup (iV R.st.told))=H5 at *;have M5:=M4.kb k5;refine⟨a.m,a.dx,_,rfl,M5.om,DO (by decide +kernel) (by decide +kernel) (by decide +kernel) (by decide +kernel),a,R.st,rfl,M5,λp2 H6 hp2 t6 k6=>?_⟩
    refine⟨by decide,λp3 hp3=>?_⟩
    have o6:KB [] H H6:=old4.trans (k5.trans k6);have up:∀{b:Addr} {o:HO},H6 b=some o->upd H6 p3 (.tup [V.str (fS cd z R),V.ref p1,V.int R.rd,V.ref p2]) b=some o:=λe=>by rw[af (ao e hp3)];exact e
    exact q _ _ (o6.trans (KB.new hp3)) ⟨p3,p1,p2,rfl,aa,up (k6 _ _ t5 (by simp)),up t6⟩
   walk_at "rz";refine⟨lz,?_⟩;rw[aO];unfold fS lI at ret;by_cases c1:R.at_=(z.length:Nat)
   ·rw[IW c1] at ret ⊢;exact ret
   ·rw[IT c1] at ret ⊢
    cases hx:vC cd z R.at_ with
    |none =>
     rw[hx] at r4 ret;obtain rfl:v=.aT:=r4;rw[IW rfl];exact ret
    |some y =>
     rw[hx] at r4 ret;obtain⟨fa,_,rfl,_⟩:=r4;rw[IT (show ¬ V.ref fa=V.aT from λzz=>nomatch zz)];exact ret
  walk_at "rz"
  cases hx:vC cd z c.at_ with
  |none =>
   rw[hx] at r4;obtain rfl:v=.aT:=r4;rw[IT (by simp)]
   exact fin (by rw[hrun];exact rK hx)
  |some y =>
   rw[hx] at r4;obtain⟨fa,ra,rfl,o4,ora⟩:=r4;rw[IW (show ¬ V.ref fa=V.aT from λzz=>nomatch zz)];by_cases c2:((n:Nat):Int)<(most:Nat)
   ·rw[IW c2];obtain⟨p,hp,hpx⟩:∃p:Nat,c.at_=p/\zE cd z p=some y:=by
     unfold vC at hx;by_cases c3:c.at_<0
     ·rw[IW c3] at hx;cases hx
     ·rw[IT c3] at hx;exact⟨c.at_.toNat,by lia,hx⟩
    obtain⟨mok,mt,_,_,_⟩:=GP hR hpx;rw[mt] at ora;have s4:=ax o4;have nx:aH cd z (most-n) c=aH cd z (most-(n+1)) (iz z c (rQ y,y.2)):=by
     rw[show most-n=(most-(n+1))+1 by lia]
     exact qw hx
    refine⟨λσ' H'=>∃m',m'<most-n/\∃n c v,n<=most/\m'=most-n/\R=aH cd z (most-n) c/\c.st.told.length<=n/\MS K C_Machine H' a c.st/\KB [] H H'/\vG H' ca cd/\Hi H' v (vC cd z c.at_)/\σ'=[some (V.str (wd z)),some (.ref bb),some (V.ref gv),some (V.int (most:Nat)),some (V.ref ca),some (V.ref a.m),some (V.int c.rd),some (V.int (n:Nat)),some (V.int c.at_),some v,none],λ_ _ h=>h,?_⟩;simp only[L2.Ap.fC,s4,jt,L2.Ap.BW,L2.Ap.vb];refine⟨a.m,a.dx,_,rfl,M4.om,DO (by decide +kernel) (by decide +kernel) (by decide +kernel) (by decide +kernel),?_⟩
    simp only[L2.Ap.fC,s4,kD,jt];refine⟨lz,a,c.st,ra,rQ y,(y.2:Nat),_,rfl,M4,ora,mok,by lia,λH5 M5 k5=>?_⟩
    have rc5:=rc4.keep k5 nca (ntp M4);have old5:=keepH old4 k5;refine⟨ca,cd,z,_,rfl,rc5,hR,hb,hz,λv6 H6 k6 r6=>?_⟩;have tle:=B4 c.st (rQ y);rw[aO] at r6;refine⟨most-(n+1),by lia,n+1,iz z c (rQ y,y.2),v6,by lia,rfl,hrun.trans nx,?_,M5.kb k6,old5.trans k6,rc5.kb k6,r6,?_⟩
    ·show (carry c.st (rQ y)).2.told.length<=n+1;lia
    ·rw[aO];rfl
   ·rw[IT c2];refine fin ?_;rw[hrun,show most-n=0 by lia];rfl
noncomputable def sk:Sp:=λvs H Q _=>∃(p dq:Addr) (n:Nat),vs=[.ref p]/\bz H p dq n/\n<2^38/\∀(g:List Int) (a:Addr) H',g.length<=40->H' a=some (.tup (iV g))->bz H' p dq (n+100)->KB [p,dq] H H'->Q (.ref a) H'
theorem vR(T:Txt K mg)(F:HasFn K mg "_law_given" dE ["deck"])(h_law_draw:aq P w K mg base bq 2 "_law_draw" ["deck","most"] dU):aq P w K mg base bq 3 "_law_given" ["deck"] sk:=by
 refine F.gU dj (λvs H Q E h=>?_) (λf cdv A outer s H vs Q E hr h=>?_)
 ·obtain⟨p,dq,n,rfl,_⟩:=h;rfl
 ·have hu:=bo hr;obtain⟨p,dq,n,rfl,hd,hn,q⟩:=h;refine⟨_,(Z.ai (Z.set (i:=1) dj.nd rfl (by right) (Z.lst Z.nil))
   (Z.ai (Z.fQ J6 rfl (Z.k_ rfl T.cT (Z.cons (Z.fn h_law_draw (hr.mono (by decide)) rfl av (Z.cons (Z.v 0) (Z.cons (Z.ix (Z.az K rfl hu) (Z.lst (Z.consts rfl)) (Z.ct lR rfl T.tB (by decide +kernel) (Z.cons (Z.cmp bB (Z.fn h_law_draw (hr.mono (by decide)) rfl av (Z.cons (Z.v 0) (Z.cons Z.int Z.nil))) Z.int) Z.nil))) Z.nil))) Z.nil)) (Z.bp (i:=2) dj.nd rfl (by right)) (Z.ai (Z.set (i:=3) dj.nd rfl (by right) (Z.fn h_law_draw (hr.mono (by decide)) rfl av (Z.cons (Z.v 0) (Z.cons (Z.op rM Z.int Z.int) Z.nil))))
   (Z.aA (Z.expr (Z.bm K rfl PySem.F.plainAttrs_list PySem.F.slot_list_append PySem.F.type_list_append dN (Z.v 1) (Z.cons (Z.ix (Z.az K rfl hu) (Z.lst (Z.cons (Z.op cA (Z.v 3) Z.int) (Z.cons (Z.op cA (Z.v 3) Z.int) (Z.cons (Z.v 3) (Z.cons (Z.op bX Z.int (Z.v 3)) (Z.cons (Z.op (Z.aR K rfl) (Z.op bR (Z.v 3) (Z.op rM Z.int Z.int)) Z.int) Z.nil)))))) (Z.fn h_law_draw (hr.mono (by decide)) rfl av (Z.cons (Z.v 0) (Z.cons Z.int Z.nil)))) Z.nil))))))
   (Z.aA (Z.ret (Z.ct (Z.dC K rfl) rfl T.dG (by decide +kernel) (Z.cons (Z.v 1) Z.nil)))))),?_⟩
  refine ar λN hN=>?_;walk_at "rz";refine⟨by decide,λfd hfd=>?_⟩
  have k1:KB [] H (upd H fd (.lst [])):=KB.new hfd;have s1:upd H fd (.lst []) fd=some (.lst (iV [])):=aa;generalize upd H fd (.lst [])=H1 at *;have nf:=hd.new hfd;have fp:p≠fd:=λz=>nf (by simp[z])
  have fq:dq≠fd:=λz=>nf (by simp[z])
  rw[hN];clear hN N;refine ar λN hN=>?_;walk_at "rz";refine⟨by decide,λl hl=>?_⟩
  have k2:KB [] H1 (upd H1 l (.lst [.int 4,.int 41])):=KB.new hl;have s2:upd H1 l (.lst [.int 4,.int 41]) l=_:=aa;generalize upd H1 l (.lst [.int 4,.int 41])=H2 at *;have D2:=hd.kb (k1.trans k2);have nl:=(hd.kb k1).new hl;refine⟨p,dq,6,n,rfl,D2,by lia,by decide,by decide,λv1 H3 hv1 D3 k3=>?_⟩
  obtain⟨m,hm,em⟩:∃m:Int,(0<m/\m<=41)/\bU [V.int 4,.int 41] (if (v1:Int)=0 then 1 else 0)=some (.int m):=by
   by_cases c:(v1:Int)=0
   ·rw[IW c];exact⟨41,by decide,rfl⟩
   ·rw[IT c];exact⟨4,by decide,rfl⟩
  exists au (k3 _ _ s2 nl),em;refine⟨p,dq,m,_,rfl,D3,by lia,hm.1,by lia,λv2 H4 hv2 D4 k4=>?_⟩
  have hk4:KB [p,dq] H H4:=k1.all.trans (k2.all.trans (k3.trans k4));have g4:=k4 _ _ (k3 _ _ (k2 _ _ s1 (by simp)) nf) nf
  walk_at "rz";refine⟨by lia,by lia,?_⟩
  rw[Jw];refine bY (λi σ H'=>∃(g:List Int) (o2 o3:Option V),g.length=i/\bz H' p dq (n+2+2*i)/\KB [p,dq] H H'/\H' fd=some (.lst (iV g))/\σ=[some (.ref p),some (.ref fd),o2,o3]) ⟨[],none,none,rfl,D4,hk4,g4,rfl⟩ ?_ ?_
  ·rintro i σ H' hi ⟨g,o2,o3,hg,hD,hk,gf,rfl⟩;generalize (0:Int)+((i:Nat):Int)=kI;unfold bC;refine ar λM hM=>?_;walk_at "rz";have cp:vh 10 7:=by unfold vh;decide
   have cp9:vh 10 9:=by unfold vh;decide
   refine⟨cp,p,dq,10000000,_,rfl,hD,by lia,by decide,by decide,λu1 H5 hu1 D5 k5=>?_⟩
   have hk5:=hk.trans k5;have gf5:=k5 _ _ gf nf;rw[hM];clear hM M;dsimp only;refine pz λM hM=>?_;walk_at "rz";refine⟨.inl ⟨rfl,_,ck.of gf5⟩,by decide,by decide,cp9,.inl ⟨by lia,by lia⟩,by decide,λl6 hl6=>?_⟩
   have D6:=D5.kb (KB.new (o:=.lst [.int ((u1:Int) % 3),.int ((u1:Int) % 65537),.int (u1:Int),.int (0-(u1:Int)),.int ((u1:Int)*10^(9:Int).toNat+7)]) hl6);have k6:KB [] H5 (upd H5 l6 (.lst [.int ((u1:Int) % 3),.int ((u1:Int) % 65537),.int (u1:Int),.int (0-(u1:Int)),.int ((u1:Int)*10^(9:Int).toNat+7)])):=KB.new hl6;have s6:upd H5 l6 (.lst [.int ((u1:Int) % 3),.int ((u1:Int) % 65537),.int (u1:Int),.int (0-(u1:Int)),.int ((u1:Int)*10^(9:Int).toNat+7)]) l6=_:=aa;generalize upd H5 l6 (.lst [.int ((u1:Int) % 3),.int ((u1:Int) % 65537),.int (u1:Int),.int (0-(u1:Int)),.int ((u1:Int)*10^(9:Int).toNat+7)])=H6 at *;refine⟨p,dq,5,_,rfl,D6,by lia,by decide,by decide,λu2 H7 hu2 D7 k7=>?_⟩
   obtain⟨x,ex⟩:∃x:Int,bU [V.int ((u1:Int) % 3),.int ((u1:Int) % 65537),.int (u1:Int),.int (0-(u1:Int)),.int ((u1:Int)*10^(9:Int).toNat+7)] (u2:Int)=some (.int x):=by
    rcases (show u2=0\/u2=1\/u2=2\/u2=3\/u2=4 by lia) with rfl|rfl|rfl|rfl|rfl<;>exact⟨_,rfl⟩
   have n6:=D5.new hl6;have gf7:=k7 _ _ (k6 _ _ gf5 (by simp)) nf
   exists au (k7 _ _ s6 n6),ex;refine⟨fd,_,_,rfl,rfl,gf7,JU (show _<=1000 by rw[bA];lia) (by decide),?_⟩
   rw[hM];exact⟨g++[x],some _,some _,by rw[IL,hg];rfl,(D7.keep (KB.set (ex:=[fd]) (by simp)) (by simpa using fp) (by simpa using fq)).mono (by lia),λb o e z=>by rw[af (ao e hfd)];exact (hk5.trans (k6.all.trans k7)) b o e z,by rw[aa,fJ];rfl,rfl⟩
  ·rintro σ H' ⟨g,o2,o3,hg,hD,hk,gf,rfl⟩;show N _ _;rw[hN];clear hN N;exists au gf;exactλa ha=>q g a _ (by lia) aa ((hD.kb (KB.new ha)).mono (by lia)) (hk.trans (KB.new ha))
theorem FJ{X:Cx}{es:List Expr}{tk:Nat}{tp:Pos}{e1 e2 e3:Expr}{ta:TA}{p pos:Pos}(K:Og)(hK:X.K=K)(hg:Gl X "zip")(hm:X.mg "zip"=none)(ha:QA X [e1,e2,e3] ta)(h1:autoParam (gK e1=true) ℜ0)(h2:autoParam (gK e2=true) ℜ0)(h3:autoParam (gK e3=true) ℜ0):QI X (.Tuple es tk tp) (.Call (.Name "zip" p) [e1,e2,e3] [] pos) (yf K ta):=by
 subst hK;exact⟨Aa hg hm ha.h h1 h2 h3⟩
theorem vT(K:Og)(ta:TA)(σ:L2.St)(H:Hp)(R:It->Hp->Prop):L2.yf K ta σ H R=ta σ H λvs H1=>∃p q r:Bool×Addr,vs=[V.ref p.2,V.ref q.2,V.ref r.2]/\(∃xs,nH K p.1 H1 p.2 xs)/\(∃ys,nH K q.1 H1 q.2 ys)/\(∃zs,nH K r.1 H1 r.2 zs)/\∀n,R (FZ K (hZ n [p,q,r])) H1:=rfl
theorem uz{g:TG}{tb:TS}{D:Ends}{σ:L2.St}{b c:Addr}{zs:List V}{n:Nat}(hxy:xs.length=ys.length)(hxz:xs.length=zs.length)(Pv:Nat->L2.St->Hp->Prop)(h0:Pv 0 σ H)(hl:∀i σ H,Pv i σ H->ck K H a xs/\ck K H b ys/\ck K H c zs)
  (hs:∀i x y z σ H p,xs[i]?=some x->ys[i]?=some y->zs[i]?=some z->Pv i σ H->H p=none->g (.ref p) σ (upd H p (.tup [x,y,z])) λσ2 H2=>tb {D with nx:=Pv (i+1),ct:=Pv (i+1),bk:=D.nx} σ2 H2) (hd:∀σ H,Pv xs.length σ H->D.nx σ H):vq (FZ K (hZ n [(true,a),(true,b),(true,c)])) g tb D σ H:=by
 refine⟨λi m σ H=>m=xs.length-i/\i<=xs.length/\Pv i σ H,⟨xs.length,by simp,Jj _,h0⟩,?_⟩
 rintro i m σ H ⟨rfl,hi,p⟩;obtain⟨q1,q2,q3⟩:=hl i σ H p;have q1':nH K true H a xs:=q1;have q2':nH K true H b ys:=q2;have q3':nH K true H c zs:=q3;by_cases hlt:i<xs.length
 ·have hl2:i<ys.length:=by lia
  have hl3:i<zs.length:=by lia
  refine .inr ⟨⟨[xs[i],ys[i],zs[i]],.cons ⟨xs,q1',by simp[hlt]⟩ (.cons ⟨ys,q2',by simp[hl2]⟩ (.cons ⟨zs,q3',by simp[hl3]⟩ .nil))⟩,Pv (i+1),λσ' H' p'=>⟨xs.length-(i+1),by lia,rfl,hlt,p'⟩,λx H' z=>?_⟩
  obtain⟨c',vs,pr,fr,rfl,rfl⟩:=z;obtain⟨v1,vs,rfl,e1,pr⟩:=Paired.gP pr;obtain⟨v2,vs,rfl,e2,pr⟩:=Paired.gP pr;obtain⟨v3,vs,rfl,e3,pr⟩:=Paired.gP pr;cases pr;exact hs i v1 v2 v3 σ H c' (e1 xs q1') (e2 ys q2') (e3 zs q3') p fr
 ·have e:i=xs.length:=by lia
  subst e;exact .inl ⟨⟨[],(true,n,a),_,[],rfl,.nil,xs,q1',rfl⟩,hd σ H p⟩
open PyProof in
theorem yH(l:Addr)(items:Array Value)(ob:Obj)(n:Nat)(t:Tok)(hc:ob.cls=.type "tuple")(hd:ob.data=.seq items n)(hne:items.isEmpty=false):
  Meets (Builtin.«tuple.__mul__» ⟨[.ref l,.int 0 t],[]⟩) (λ_ R s=>s.heap.get? l=some ob/\R (.ok (.ret (.ref s.heap.objs.size))) {s with heap:=s.heap.push {cls:=.type "tuple",data:=.seq #[]}}):=
 .of_wp λprog w A R s h=>by
  obtain⟨hp,g,d,tk,os⟩:=s;obtain⟨hl,h⟩:=h;obtain⟨c,dd,da,sl⟩:=ob;simp only at hc hd;subst hc hd;have e2:(items.isEmpty || (0:Int) == 1)=false:=by rw[hne];rfl
  have e3:(decide ((0:Int)<=0) || items.isEmpty)=true:=by rw[hne];rfl
  exists LQ hl;exact⟨_,rfl,h⟩
theorem zb(l:Addr)(items:Array Value)(ob:Obj)(n:Nat)(t:Tok)(hc:ob.cls=.type "tuple")(hd:ob.data=.seq items n):
  Meets (Builtin.«tuple.__mul__» ⟨[.ref l,.int 1 t],[]⟩) (λ_ R s=>s.heap.get? l=some ob/\R (.ok (.ret (.ref l))) s):=
 .of_wp λprog w A R s h=>by
  obtain⟨hp,g,d,tk,os⟩:=s;obtain⟨hl,h⟩:=h;obtain⟨c,dd,da,sl⟩:=ob;simp only at hc hd;subst hc hd;have e2:(items.isEmpty || (1:Int) == 1)=true:=by rw[Bool.or_eq_true];exact .inr rfl
  exists LQ hl;exact⟨_,rfl,h⟩
noncomputable def Fv(K:Og):R2:=λx y H Q=>∃a k xs,x=.ref a/\y=.int k/\bu K H a xs/\xs≠[]/\xs.length<=1000/\0<=k/\k<=1000/\(k=1->Q (.ref a) H)/\(k≠1->∀p,H p=none->Q (.ref p) (upd H p (.tup (List.replicate k.toNat xs).flatten)))
theorem AJ{X:Cx}(K:Og)(hK:X.K=K):cI X (binaryOp .Mult) (Fv K):=by
 subst hK;intro pins s σ H x y v u Q I rx ry h;obtain⟨a,k,xs,rfl,rfl,hx,hne,hsz,h1,h2,q1,q2⟩:=h;by_cases hk:1<k
 ·exact Y.sI pins s σ H _ _ v u Q I rx ry ⟨a,k,xs,rfl,rfl,hx,hne,hsz,hk,h2,q2 (by lia)⟩
 cases rx;obtain⟨t,rfl⟩:=ry;obtain⟨its,r,p,hz⟩:=I.tuple hx;obtain⟨ob,ho,hc,n,hd⟩:=id p;have hemp:its.toArray.isEmpty=false:=by
  cases its with
  |nil=>cases r;exact absurd rfl hne
  |cons a b=>rfl
 have hk2:k=0\/k=1:=by lia
 rcases hk2 with rfl|rfl
 ·refine KL (T:="tuple") (U:="int") (by decide) ⟨_,ho,hc⟩ (λs'=>Lg s' 0 t) Y.dQ PySem.F.fills_int_mul PySem.F.slot_int_rmul Y.hX PySem.F.slot_int_index.lookup
   (Kw PySem.F.slot_int_rmul (Lg s 0 t) PySem.F.entry_int_rmul (PySem.F.args_int_rmul_2 _ _) (Y.jM 0 t a ob its.toArray n hc hd)
    ⟨ho,rfl,⟨_,ho,hc⟩,Kw PySem.F.slot_tuple_mul ⟨_,ho,hc⟩ PySem.F.entry_tuple_mul (PySem.F.args_tuple_mul_2 _ _) (yH a its.toArray ob n t hc hd hemp) ⟨ho,?_⟩⟩)
  refine⟨.ref s.heap.objs.size,_,I.laid (t':=s.toks) (o:=.tup []) (λb ob q=>IM _ q) (IU _) ?_,rfl,q2 (by decide) _ (I.bc.fresh (IU _))⟩
  exact⟨Jj _,[],.nil,d7.new _ _⟩
 ·refine KL (T:="tuple") (U:="int") (by decide) ⟨_,ho,hc⟩ (λs'=>Lg s' 1 t) Y.dQ PySem.F.fills_int_mul PySem.F.slot_int_rmul Y.hX PySem.F.slot_int_index.lookup
   (Kw PySem.F.slot_int_rmul (Lg s 1 t) PySem.F.entry_int_rmul (PySem.F.args_int_rmul_2 _ _) (Y.jM 1 t a ob its.toArray n hc hd)
    ⟨ho,rfl,⟨_,ho,hc⟩,Kw PySem.F.slot_tuple_mul ⟨_,ho,hc⟩ PySem.F.entry_tuple_mul (PySem.F.args_tuple_mul_2 _ _) (zb a its.toArray ob n t hc hd) ⟨ho,?_⟩⟩)
  exact⟨.ref a,H,I,rfl,q1 rfl⟩
noncomputable def aP:Row->Option Nat
 |.jump g=>some g
 |.zero _ g=>some g
 |_=>none
theorem pre_split{a:List Nat}(h:a++b <+: z.drop p):a <+: z.drop p/\b <+: z.drop (p+a.length):=by
 obtain⟨y,e⟩:=h;refine⟨⟨b++y,by rw[<- e,Jl]⟩,y,?_⟩
 rw[<- List.drop_drop,<- e,Jl,NS]
theorem sY(h:Pf ws)(ht:t<ws.length)(hp:ws.getD t [] <+: z.drop p):jo ws z p=some (t,p+(ws.getD t []).length):=by
 unfold jo;rw[h.th ht hp];rfl
theorem DD:Pf sh:=⟨m8,λi j hi hj hne=>by
 rcases j4 hi with rfl|rfl|rfl<;>rcases j4 hj with rfl|rfl|rfl<;>first|exact absurd rfl hne|decide +revert⟩
theorem jG{cd:List (List (List Nat))}{b:Nat}(hR:qh cd)(hb:b<8)(hp:aX cd (2,b) <+: z.drop p):kT cd z p .box=some (.box b,p+(aX cd (2,b)).length):=by
 obtain⟨c0,c1,c2,rfl,l0,l1,l2⟩:=hR.fH.ex;show (jo c2 z p).map _=_;rw[sY (hR.pf c2 (by simp)) (by lia) hp];rfl
theorem Dr{cd:List (List (List Nat))}{n:Nat}(hR:qh cd)(hn:n<65536)(hp:aX cd (1,bE n)++(dZ n).tail <+: z.drop p):kT cd z p .num=some (.num n,p+(aX cd (1,bE n)++(dZ n).tail).length):=by
 obtain⟨c0,c1,c2,rfl,l0,l1,l2⟩:=hR.fH.ex;have hb:=jy hn;obtain⟨h1,y,e⟩:=pre_split hp;have hl:=hp.length_le;rw[IL,JC] at hl;have htl:(dZ n).tail.length=bE n-1:=by rw[N2,ny]
 have hc:=sY (hR.pf c1 (by simp)) (by lia) h1
 have h0:=(eN (hR.pf c1 (by simp)).ne hc).2.2.1
 replace hc:jo c1 z p=some (bE n,p+(aX [c0,c1,c2] (1,bE n)).length):=hc
 show (yT c1 z p).map _=_;unfold yT;rw[hc];dsimp only
 replace h0:p<p+(aX [c0,c1,c2] (1,bE n)).length:=h0
 generalize aX [c0,c1,c2] (1,bE n)=w at *;by_cases c:bE n=0
 ·rw[IW c];have e0:=u9 c;subst e0;rw[IL,htl,c];rfl
 ·rw[IT c,IW (by lia),<- e,<- htl,LW]
  have hn0:0<n:=by
   rcases LV n with e|e
   ·subst e;exact absurd (by decide +kernel) c
   ·exact e
  rw[zQ hn0,IL,Mj];rfl
theorem jT{w:Nat}(d:Int):(dX w d).length=(cH w).length+aS w:=by
 unfold dX;rw[IL,dc];rfl
theorem BJ{cd:List (List (List Nat))}(hk:k<3)(h1:-bS k<=d)(h2:d<bS k)(hp:dX k d <+: z.drop p):kT cd z p .go=some (.go d,p+(dX k d).length):=by
 obtain⟨hh,y,e⟩:=pre_split hp;have hl:=hp.length_le;rw[jT,JC] at hl;have hc:=sY (t:=k) DD hk (by rw[wF hk];exact hh)
 rw[wF hk] at hc;have h16:0<aS k:=by rcases j4 hk with rfl|rfl|rfl<;>decide
 have h2h:(2:Int)^aS k=2*bS k:=by rcases j4 hk with rfl|rfl|rfl<;>decide
 have hl2:(bw d (aS k) []).length=aS k:=by rw[dc];rfl
 show (gA z p).map _=_;unfold gA;rw[hc];dsimp only;rw[if_pos (by lia),<- e,jT]
 have et:(bw d (aS k) []++y).take (aS k)=bw d (aS k) []:=by
  conv=>lhs;arg 1;rw[<- hl2]
  rw[LW]
 rw[et,ug,Mj];have hv:=iS (aS k) d;rw[h2h] at hv;have:zO k (Cw.val (bw d (aS k) []))=d:=by
  unfold zO;rw[hv];by_cases c:0<=d
  ·rw[Ma c (by lia),IT (by lia)]
  ·have:d % (2*bS k)=d+2*bS k:=by
    rw[<- Int.add_emod_right];exact Ma (by lia) (by lia)
   rw[this,IW (by lia)];lia
 rw[this];rfl
noncomputable def dD(cd:List (List (List Nat)))(r:Row)(w:Nat)(d:Int):List Nat:=bK cd r++(match aP r with|none=>[]|some _=>dX w d)
noncomputable def Row.m(g:Int):Row->df
 |.put b n=>.put b n
 |.two u a b=>.two u a b
 |.one u b=>.one u b
 |.jump _=>.jump g
 |.zero b _=>.zero b g
 |.halt=>.halt
theorem C9{cd:List (List (List Nat))}{n:Nat}{r:Row}(hR:qh cd)(hr:r.Ok n)(hd:∀t,aP r=some t->k<3/\-bS k<=d/\d<bS k)(hp:dD cd r k d <+: z.drop p):∃x,zE cd z p=some x/\x.2=p+(dD cd r k d).length/\rQ x=r.m ((x.2:Int)+d):=by
 have hw:∀{i:Nat} {y:List Nat},i<9->aX cd (0,i)++y <+: z.drop p->jo (cd.getD 0 []) z p=some (i,p+(aX cd (0,i)).length)/\y <+: z.drop (p+(aX cd (0,i)).length):=λ{i y} hi h=>by
  obtain⟨h1,h2⟩:=pre_split h;obtain⟨c0,c1,c2,rfl,l0,l1,l2⟩:=hR.fH.ex;exact⟨sY (hR.pf c0 (by simp)) (by rw[show [c0,c1,c2].getD 0 []=c0 from rfl];lia) h1,h2⟩
 have fin:∀(i:Nat) (y:List Nat) (v:List (PV×Nat)) (e:Nat),i<9->dD cd r k d=aX cd (0,i)++y->(y <+: z.drop (p+(aX cd (0,i)).length)->qg cd z (Bo i) (p+(aX cd (0,i)).length)=some (v,e))->e=p+(dD cd r k d).length->rQ (⟨i,v⟩,e)=r.m ((e:Int)+d)->∃x,zE cd z p=some x/\x.2=p+(dD cd r k d).length/\rQ x=r.m ((x.2:Int)+d):=λi y v e hi e1 e2 e3 e4=>by
  rw[e1] at hp;obtain⟨h1,h2⟩:=hw hi hp;refine⟨(⟨i,v⟩,e),?_,e3,e4⟩;unfold zE;rw[h1,LD,e2 h2];rfl
 cases r with
 |put b n' =>
  have e0:dD cd (.put b n') k d=aX cd (0,0)++(aX cd (2,b)++(aX cd (1,bE n')++(dZ n').tail)):=by
   simp[dD,bK,g_,Row.fG,Pk.zT,Row.wi,iq,aP]
  refine fin 0 _ [(.box b,p+(aX cd (0,0)).length+(aX cd (2,b)).length),(.num n',p+(aX cd (0,0)).length+(aX cd (2,b)).length+(aX cd (1,bE n')++(dZ n').tail).length)] (p+(aX cd (0,0)).length+(aX cd (2,b)).length+(aX cd (1,bE n')++(dZ n').tail).length) (by decide) e0 (λhy=>?_) ?_ rfl
  ·obtain⟨y1,y2⟩:=pre_split hy;show (kT cd z _ .box).bind _=_;rw[jG hR hr.1 y1,LD];show ((kT cd z _ .num).bind _).map _=_;rw[Dr hR hr.2 y2];rfl
  ·rw[e0];simp only[IL];lia
 |two u a b =>
  have hu:(1+(u:Nat))<9:=(by decide:∀u:_root_.Fin 3,1+(u:Nat)<9) u
  have e0:dD cd (.two u a b) k d=aX cd (0,1+(u:Nat))++(aX cd (2,a)++aX cd (2,b)):=by
   simp[dD,bK,g_,Row.fG,Pk.zT,Row.wi,iq,aP]
  have ek:Bo (1+(u:Nat))=[.box,.box]:=by rcases lj u with rfl|rfl|rfl<;>rfl
  refine fin (1+(u:Nat)) _ [(.box a,p+(aX cd (0,1+(u:Nat))).length+(aX cd (2,a)).length),(.box b,p+(aX cd (0,1+(u:Nat))).length+(aX cd (2,a)).length+(aX cd (2,b)).length)] (p+(aX cd (0,1+(u:Nat))).length+(aX cd (2,a)).length+(aX cd (2,b)).length) hu e0 (λhy=>?_) ?_ ?_
  ·obtain⟨y1,y2⟩:=pre_split hy;rw[ek];show (kT cd z _ .box).bind _=_;rw[jG hR hr.1 y1,LD];show ((kT cd z _ .box).bind _).map _=_;rw[jG hR hr.2 y2];rfl
  ·rw[e0];simp only[IL];lia
  ·rcases lj u with rfl|rfl|rfl<;>rfl
 |one u b =>
  have hu:(4+(u:Nat))<9:=(by decide:∀u:_root_.Fin 2,4+(u:Nat)<9) u
  have e0:dD cd (.one u b) k d=aX cd (0,4+(u:Nat))++aX cd (2,b):=by
   simp[dD,bK,g_,Row.fG,Pk.zT,Row.wi,iq,aP]
  have ek:Bo (4+(u:Nat))=[.box]:=by rcases ig u with rfl|rfl<;>rfl
  refine fin (4+(u:Nat)) _ [(.box b,p+(aX cd (0,4+(u:Nat))).length+(aX cd (2,b)).length)] (p+(aX cd (0,4+(u:Nat))).length+(aX cd (2,b)).length) hu e0 (λhy=>?_) ?_ ?_
  ·rw[ek];show (kT cd z _ .box).bind _=_;rw[jG hR hr hy];rfl
  ·rw[e0];simp only[IL];lia
  ·rcases ig u with rfl|rfl<;>rfl
 |jump g =>
  have e0:dD cd (.jump g) k d=aX cd (0,6)++dX k d:=by
   simp[dD,bK,g_,Row.fG,Pk.zT,Row.wi,iq,aP]
  obtain⟨d1,d2,d3⟩:=hd g rfl;refine fin 6 _ [(.go d,p+(aX cd (0,6)).length+(dX k d).length)] (p+(aX cd (0,6)).length+(dX k d).length) (by decide) e0 (λhy=>?_) ?_ rfl
  ·show (kT cd z _ .go).bind _=_;rw[BJ d1 d2 d3 hy];rfl
  ·rw[e0];simp only[IL];lia
 |zero b g =>
  have e0:dD cd (.zero b g) k d=aX cd (0,7)++(aX cd (2,b)++dX k d):=by
   simp[dD,bK,g_,Row.fG,Pk.zT,Row.wi,iq,aP]
  obtain⟨d1,d2,d3⟩:=hd g rfl;refine fin 7 _ [(.box b,p+(aX cd (0,7)).length+(aX cd (2,b)).length),(.go d,p+(aX cd (0,7)).length+(aX cd (2,b)).length+(dX k d).length)] (p+(aX cd (0,7)).length+(aX cd (2,b)).length+(dX k d).length) (by decide) e0 (λhy=>?_) ?_ rfl
  ·obtain⟨y1,y2⟩:=pre_split hy;show (kT cd z _ .box).bind _=_;rw[jG hR hr.1 y1,LD];show ((kT cd z _ .go).bind _).map _=_;rw[BJ d1 d2 d3 y2];rfl
  ·rw[e0];simp only[IL];lia
 |halt =>
  have e0:dD cd .halt k d=aX cd (0,8)++[]:=by
   simp[dD,bK,g_,Row.fG,Pk.zT,Row.wi,iq,aP]
  refine fin 8 _ [] (p+(aX cd (0,8)).length) (by decide) e0 (λhy=>rfl) ?_ rfl
  rw[e0];simp only[IL];rfl
noncomputable def EZ:Nat->Nat
 |0=>5
 |1=>10
 |_=>18
noncomputable def addW:Option Nat->Nat->Nat
 |none,_=>0
 |some _,w=>EZ w
theorem AV(g:Option Nat)(w:Nat):addW g w<=18:=by
 unfold addW EZ;split
 ·decide
 ·split<;>decide
noncomputable def h_:Nat->List Nat->List (Option Nat)->List Nat->List Nat
 |a,s::ss,g::gs,w::ws=>a::h_ (a+s+addW g w) ss gs ws
 |a,_,_,_=>[a]
theorem mX(a:Nat)(ss:List Nat)(gs:List (Option Nat))(ws:List Nat):∃l,h_ a ss gs ws=a::l:=by
 unfold h_;split
 ·exact⟨_,rfl⟩
 ·exact⟨_,rfl⟩
theorem ib:∀(ss:List Nat) (gs:List (Option Nat)) (ws:List Nat) (a:Nat),gs.length=ss.length->ws.length=ss.length->(h_ a ss gs ws).length=ss.length+1
 |[],_,_,_,_,_=>by unfold h_;rfl
 |s::ss,[],_,_,h,_=>by cases h
 |s::ss,_::_,[],_,_,h=>by cases h
 |s::ss,g::gs,w::ws,a,h1,h2=>by
  rw[h_,Jd,ib ss gs ws _ (Nat.succ.inj h1) (Nat.succ.inj h2)];rfl
theorem wy:∀(ss:List Nat) (gs:List (Option Nat)) (ws:List Nat) (a:Nat),(∀s∈ss,s<=150)->∀v∈h_ a ss gs ws,a<=v/\v<=a+168*ss.length
 |[],_,_,a,_,v,h=>by
  have:v=a:=by unfold h_ at h;simpa using h
  rw[this];simp
 |s::ss,[],_,a,_,v,h=>by
  have:v=a:=by unfold h_ at h;simpa using h
  rw[this];simp
 |s::ss,_::_,[],a,_,v,h=>by
  have:v=a:=by unfold h_ at h;simpa using h
  rw[this];simp
 |s::ss,g::gs,w::ws,a,hs,v,h=>by
  rw[h_] at h;have h1:=hs s IZ;have h2:=AV g w;rw[Jd];rcases IX.mp h with rfl|h
  ·exact⟨IU _,Nat.le_add_right _ _⟩
  ·have:=wy ss gs ws _ (λx hx=>hs x (IV _ hx)) v h;lia
theorem rC:∀(ss:List Nat) (gs:List (Option Nat)) (ws:List Nat) (a k:Nat) (s:Nat) (g:Option Nat) (w:Nat),ss[k]?=some s->gs[k]?=some g->ws[k]?=some w->(h_ a ss gs ws).getD (k+1) 0=(h_ a ss gs ws).getD k 0+s+addW g w
 |[],_,_,_,_,_,_,_,h,_,_=>by simp at h
 |s::ss,[],_,_,_,_,_,_,_,h,_=>by simp at h
 |s::ss,_::_,[],_,_,_,_,_,_,_,h=>by simp at h
 |s::ss,g::gs,w::ws,a,0,s',g',w',h1,h2,h3=>by
  simp at h1 h2 h3;subst h1;subst h2;subst h3;rw[h_];obtain⟨l,e⟩:=mX (a+s+addW g w) ss gs ws;rw[e];rfl
 |s::ss,g::gs,w::ws,a,k+1,s',g',w',h1,h2,h3=>by
  rw[h_];have:=rC ss gs ws (a+s+addW g w) k s' g' w' (by simpa using h1) (by simpa using h2) (by simpa using h3)
  simpa using this
noncomputable def fF(sp:List Nat)(t k:Nat):Int:=(sp.getD t 0:Int)-(sp.getD (k+1) 0:Int)
noncomputable def yG(w:Nat)(d:Int):Bool:=decide (-bS w<=d) && decide (d<bS w)
noncomputable def gN(sp:List Nat)(k:Nat):Option Nat->Nat->Nat
 |none,w=>w
 |some t,w=>if yG w (fF sp t k)=true then w else min (w+1) 2
noncomputable def eF(sp:List Nat):Nat->List (Option Nat)->List Nat->List Nat
 |k,g::gs,w::ws=>gN sp k g w::eF sp (k+1) gs ws
 |_,_,ws=>ws
noncomputable def fE(ss:List Nat)(gs:List (Option Nat))(ws:List Nat):List Nat:=eF (h_ 0 ss gs ws) 0 gs ws
noncomputable def bJ(ss:List Nat)(gs:List (Option Nat))(ws:List Nat):Nat->List Nat
 |0=>ws
 |m+1=>fE ss gs (bJ ss gs ws m)
noncomputable def mQ(ss:List Nat)(gs:List (Option Nat))(ws:List Nat):List Nat:=bJ ss gs ws (2*ss.length+1)
theorem pE{w:Nat}{g:Option Nat}(h:w<3):w<=gN sp k g w/\gN sp k g w<3:=by
 unfold gN;split
 ·exact⟨IU _,h⟩
 ·split<;>lia
theorem dw(sp:List Nat):∀(k:Nat) (gs:List (Option Nat)) (ws:List Nat),(eF sp k gs ws).length=ws.length
 |_,[],_=>rfl
 |_,_::_,[]=>rfl
 |k,g::gs,w::ws=>by rw[eF,Jd,Jd,dw sp (k+1) gs ws]
theorem sU(sp:List Nat):∀(k:Nat) (gs:List (Option Nat)) (ws:List Nat),(∀w∈ws,w<3)->∀w∈eF sp k gs ws,w<3
 |_,[],_,h=>h
 |_,_::_,[],h=>h
 |k,g::gs,w::ws,h=>λv hv=>by
  rw[eF] at hv;rcases IX.mp hv with rfl|hv
  ·exact (pE (h w IZ)).2
  ·exact sU sp (k+1) gs ws (λx hx=>h x (IV _ hx)) v hv
theorem step_at(sp:List Nat):∀(k:Nat) (gs:List (Option Nat)) (ws:List Nat) (i:Nat) (g:Option Nat) (w:Nat),gs[i]?=some g->ws[i]?=some w->(eF sp k gs ws)[i]?=some (gN sp (k+i) g w)
 |_,[],_,_,_,_,h,_=>by simp at h
 |_,_::_,[],_,_,_,_,h=>by simp at h
 |k,g::gs,w::ws,0,g',w',h1,h2=>by
  simp at h1 h2;subst h1;subst h2;rfl
 |k,g::gs,w::ws,i+1,g',w',h1,h2=>by
  rw[eF,N4,step_at sp (k+1) gs ws i g' w' (by simpa using h1) (by simpa using h2)]
  rw[show k+1+i=k+(i+1) by lia]
theorem nU(sp:List Nat):∀(k:Nat) (gs:List (Option Nat)) (ws:List Nat),(∀w∈ws,w<3)->eF sp k gs ws=ws\/ws.sum<(eF sp k gs ws).sum
 |_,[],_,_=>.inl rfl
 |_,_::_,[],_=>.inl rfl
 |k,g::gs,w::ws,h=>by
  rw[eF,Oa,Oa];have h1:=(pE (sp:=sp) (k:=k) (g:=g) (h w IZ)).1;rcases nU sp (k+1) gs ws (λx hx=>h x (IV _ hx)) with e|e
  ·rw[e];by_cases z:gN sp k g w=w
   ·exact .inl (by rw[z])
   ·exact .inr (by lia)
  ·exact .inr (by lia)
theorem f_(ss:List Nat)(gs:List (Option Nat))(ws:List Nat):∀m,(bJ ss gs ws m).length=ws.length
 |0=>rfl
 |m+1=>(dw _ _ _ _).trans (f_ ss gs ws m)
theorem fM{ws:List Nat}(h:∀w∈ws,w<3):∀m,∀w∈bJ ss gs ws m,w<3
 |0=>h
 |m+1=>sU _ _ _ _ (fM h m)
theorem lN{ss:List Nat}{gs:List (Option Nat)}{ws:List Nat}(h:∀w∈ws,w<3):∀m,fE ss gs (bJ ss gs ws m)=bJ ss gs ws m\/m<=(bJ ss gs ws m).sum
 |0=>.inr (Jj _)
 |m+1=>by
  rcases lN (ss:=ss) (gs:=gs) h m with e|e
  ·refine .inl ?_;show fE ss gs (fE ss gs (bJ ss gs ws m))=fE ss gs (bJ ss gs ws m);rw[e,e]
  ·rcases nU (h_ 0 ss gs (bJ ss gs ws m)) 0 gs (bJ ss gs ws m) (fM h m) with z|z
   ·refine .inl ?_;show fE ss gs (fE ss gs (bJ ss gs ws m))=fE ss gs (bJ ss gs ws m);have z':fE ss gs (bJ ss gs ws m)=bJ ss gs ws m:=z;rw[z',z']
   ·refine .inr ?_;show m+1<=(fE ss gs (bJ ss gs ws m)).sum;exact JU e z
theorem tX:∀{ws:List Nat},(∀w∈ws,w<3)->ws.sum<=2*ws.length
 |[],_=>IU _
 |w::ws,h=>by
  have h1:=h w IZ;have h2:=tX λx hx=>h x (IV _ hx);rw[Oa,Jd];lia
theorem tO(ss:List Nat)(gs:List (Option Nat))(ws:List Nat):(mQ ss gs ws).length=ws.length:=f_ ss gs ws _
theorem qj{ws:List Nat}(h:∀w∈ws,w<3):∀w∈mQ ss gs ws,w<3:=fM h _
theorem By{ss:List Nat}{gs:List (Option Nat)}{ws:List Nat}(hl:ws.length=ss.length)(h:∀w∈ws,w<3):fE ss gs (mQ ss gs ws)=mQ ss gs ws:=by
 rcases lN (ss:=ss) (gs:=gs) h (2*ss.length+1) with e|e
 ·exact e
 ·have:=tX (fM (ss:=ss) (gs:=gs) h (2*ss.length+1));rw[f_,hl] at this;lia
theorem xl{ws:List Nat}(hs:∀s∈ss,s<=150)(i:Nat):(h_ 0 ss gs ws).getD i 0<=168*ss.length:=by
 rw[Jc]
 cases c:(h_ 0 ss gs ws)[i]? with
 |none=>exact Jj _
 |some v=>have:=wy ss gs ws 0 hs v (JF c);show v<=_;lia
noncomputable def CD(ss:List Nat)(gs:List (Option Nat))(ws:List Nat):Prop:=∀(k t w:Nat),gs[k]?=some (some t)->ws[k]?=some w->yG w (fF (h_ 0 ss gs ws) t k)=true
theorem zP{gs:List (Option Nat)}{ws:List Nat}(hs:∀s∈ss,s<=150)(hn:ss.length<=64)(h:∀w∈ws,w<3)(hf:fE ss gs ws=ws):CD ss gs ws:=λk t w h1 h2=>by
 have e:=step_at (h_ 0 ss gs ws) 0 gs ws k (some t) w h1 h2;have e':ws[k]?=some (gN (h_ 0 ss gs ws) (0+k) (some t) w):=by rw[<- e];exact JH (·[k]?) hf.symm
 rw[h2,Lz] at e';have e2:=Option.some.inj e';unfold gN at e2;by_cases c:yG w (fF (h_ 0 ss gs ws) t k)=true
 ·exact c
 ·simp only[IT c] at e2;have hw:w=2:=by have:=h w (JF h2);lia
  subst hw;have h3:=xl (gs:=gs) (ws:=ws) hs t;have h4:=xl (gs:=gs) (ws:=ws) hs (k+1);unfold yG fF;rw[Jt (show -bS 2<=_ by show -32768<=_;lia),Jt (show _<bS 2 by show _<32768;lia)]
  rfl
theorem AG{ws:List Nat}(hs:∀s∈ss,s<=150)(hn:ss.length<=64)(hl:ws.length=ss.length)(h:∀w∈ws,w<3):CD ss gs (mQ ss gs ws):=zP hs hn (qj h) (By hl h)
noncomputable def iJ(cd:List (List (List Nat)))(rs:List Row):List Nat:=rs.map λr=>(bK cd r).length
noncomputable def uM(sp:List Nat)(k w:Nat):Option Nat->List Nat
 |none=>[]
 |some t=>dX w (fF sp t k)
noncomputable def nS(cd:List (List (List Nat)))(sp:List Nat):Nat->List Row->List Nat->List Nat
 |k,r::rs,w::ws=>bK cd r++uM sp k w (aP r)++nS cd sp (k+1) rs ws
 |_,_,_=>[]
theorem mq:∀(k:Nat) (n:Int) (acc:List Nat),bw (n % 2^k) k acc=bw n k acc
 |0,_,_=>rfl
 |k+1,n,acc=>by
  have e1:(n % 2^(k+1)) % 2=n % 2:=Int.emod_emod_of_dvd n ⟨2^k,by rw[N3];lia⟩
  have e2:(n % 2^(k+1)) / 2=(n / 2) % 2^k:=by
   rw[N3,Int.mul_comm];have h:=Mv n (2*2^k);have h2:n / (2*2^k)=n / 2 / 2^k:=(Int.ediv_ediv_of_nonneg (by decide)).symm
   rw[Int.emod_def,Int.emod_def,h2];rw[show n-2*2^k*(n / 2 / 2^k)=n+2*(-(2^k*(n / 2 / 2^k))) by rw[Int.mul_neg,NZ];lia]
   rw[Int.add_mul_ediv_left _ _ (by decide)]
   lia
  show bw ((n % 2^(k+1)) / 2) k (dg (n % 2^(k+1))::acc)=bw (n / 2) k (dg n::acc);rw[e2,mq k (n / 2)];unfold dg;rw[e1]
noncomputable def lY(bk:List (List Int))(rs:List Row)(ws:List Nat):List Nat:=
 nS (a_ bk) (h_ 0 (iJ (a_ bk) rs) (rs.map aP) (mQ (iJ (a_ bk) rs) (rs.map aP) ws)) 0 rs (mQ (iJ (a_ bk) rs) (rs.map aP) ws)
theorem jw{r:Row}{n:Nat}(h:r.Ok n)(e:aP r=some t):t<=n:=by
 cases r with
 |jump g=>cases e;exact h
 |zero b g=>cases e;exact h.2
 |put=>cases e
 |two=>cases e
 |one=>cases e
 |halt=>cases e
theorem zF{w:Nat}(h:w<3)(d:Int):(dX w d).length=EZ w:=by
 rw[jT];rcases j4 h with rfl|rfl|rfl<;>rfl
structure Laid (cd:List (List (List Nat))) (rs:List Row) (ws sp z:List Nat):Prop where
 hR:qh cd
 len:ws.length=rs.length
 le:rs.length<=64
 ok:∀r∈rs,r.Ok rs.length
 lt:∀w∈ws,w<3
 nR:sp=h_ 0 (iJ cd rs) (rs.map aP) ws
 fit:CD (iJ cd rs) (rs.map aP) ws
 hz:z=nS cd sp 0 rs ws
section
variable {cd:List (List (List Nat))} {rs:List Row} {ws sp z:List Nat}
theorem Laid.sl(L:Laid cd rs ws sp z):sp.length=rs.length+1:=by
 rw[L.nR,ib _ _ _ _ (by unfold iJ;rw[IP,IP]) (by unfold iJ;rw[IP];exact L.len)]
 unfold iJ;rw[IP]
noncomputable def B7(sp:List Nat)(k:Nat)(r:Row):Int:=match aP r with|none=>0|some t=>fF sp t k
theorem Laid.row(L:Laid cd rs ws sp z)(hk:k<rs.length):∃w,ws[k]?=some w/\w<3/\sp.getD (k+1) 0=sp.getD k 0+(dD cd rs[k] w (B7 sp k rs[k])).length/\nS cd sp k (rs.drop k) (ws.drop k)=dD cd rs[k] w (B7 sp k rs[k])++nS cd sp (k+1) (rs.drop (k+1)) (ws.drop (k+1))/\∀t,aP rs[k]=some t->w<3/\-bS w<=B7 sp k rs[k]/\B7 sp k rs[k]<bS w:=by
 have hw:k<ws.length:=by rw[L.len];exact hk
 have ew:=IJ hw;have lw:=L.lt _ (Ji hw);have er:=IJ hk;have okr:=L.ok _ (Ji hk);refine⟨ws[k],ew,lw,?_,?_,?_⟩
 ·have:=rC (iJ cd rs) (rs.map aP) ws 0 k (bK cd rs[k]).length (aP rs[k]) ws[k] (by unfold iJ;rw[I_,er];rfl) (by rw[I_,er];rfl) ew
  rw[<- L.nR] at this;rw[this,dD,IL,Mj];congr 2
  cases e:aP rs[k] with
  |none=>rfl
  |some t=>exact (zF lw _).symm
 ·rw[JK hk,JK hw,nS,dD];congr 2;unfold uM B7
  cases e:aP rs[k] with
  |none=>rfl
  |some t=>rfl
 ·intro t et;have hf:=L.fit k t ws[k] (by rw[I_,er];exact JH some et) ew
  rw[<- L.nR] at hf;unfold yG at hf;rw[JQ] at hf;unfold B7;rw[et];exact⟨lw,JJ hf.1,JJ hf.2⟩
theorem Laid.at(L:Laid cd rs ws sp z):∀k,k<=rs.length->z.drop (sp.getD k 0)=nS cd sp k (rs.drop k) (ws.drop k)/\sp.getD k 0<=z.length
 |0,_=>by
  have e:sp.getD 0 0=0:=by
   rw[L.nR];obtain⟨l,e⟩:=mX 0 (iJ cd rs) (rs.map aP) ws;rw[e];rfl
  rw[e,Kj];exact⟨L.hz,Jj _⟩
 |k+1,hk=>by
  obtain⟨h1,h2⟩:=L.at k (by lia)
  obtain⟨w,_,_,e1,e2,_⟩:=L.row (show k<rs.length by lia)
  rw[e2] at h1;have hl:=JH List.length h1;rw[JC,IL] at hl;refine⟨?_,by lia⟩
  rw[e1,<- List.drop_drop,h1,NS]
theorem Laid.pos(L:Laid cd rs ws sp z){w:Nat}(hk:k<rs.length):0<(dD cd rs[k] w d).length:=by
 have g0:=L.hR.fH.at (p:=(0,rs[k].wi)) (.inl ⟨rfl,rs[k].tY⟩);obtain⟨c0,c1,c2,e,l0,l1,l2⟩:=L.hR.fH.ex;have hne:aX cd (0,rs[k].wi)≠[]:=by
  refine (L.hR.pf c0 (by rw[e];simp)).ne _ ?_
  have:=g0.2.1;rw[e] at this ⊢;exact JF this
 unfold dD bK g_;rw[IL,IL,Lu,IL];have:=MN.mpr hne;lia
theorem Laid.up(L:Laid cd rs ws sp z)(hk:k<rs.length):sp.getD k 0<sp.getD (k+1) 0:=by
 obtain⟨w,_,_,e1,_⟩:=L.row hk;have:=L.pos (w:=w) (d:=B7 sp k rs[k]) hk;lia
theorem Laid.mono(L:Laid cd rs ws sp z):∀(i d:Nat),i+d+1<=rs.length->sp.getD i 0<sp.getD (i+d+1) 0
 |i,0,h=>L.up (by lia)
 |i,d+1,h=>LO (L.mono i d (by lia)) (L.up (show i+d+1<rs.length by lia))
theorem Laid.last(L:Laid cd rs ws sp z):z.length=sp.getD rs.length 0:=by
 obtain⟨h1,h2⟩:=L.at rs.length (IU _);rw[KZ] at h1;have hl:=JH List.length h1;rw[JC,show (nS cd sp rs.length [] (ws.drop rs.length)).length=0 by unfold nS;rfl] at hl
 lia
theorem Laid.Ia(L:Laid cd rs ws sp z):z.length<=20000:=by
 rw[L.last,L.nR];have:=xl (ss:=iJ cd rs) (gs:=rs.map aP) (ws:=ws) (λs hs=>by
  obtain⟨r,hr,rfl⟩:=JD.mp hs;have:=eX L.hR.fH (L.ok r hr)
  lia) rs.length
 have l:(iJ cd rs).length=rs.length:=IP ..;have:=L.le;lia
end
noncomputable def fw(sp:List Nat)(gs:List (Option Nat))(ws:List Nat)(i:Nat):List Nat:=(eF sp 0 gs ws).take i++ws.drop i
theorem Aw(sp:List Nat)(gs:List (Option Nat))(ws:List Nat)(i:Nat):(fw sp gs ws i).length=ws.length:=by
 unfold fw;rw[IL,Jn,JC,dw];lia
theorem AY(sp:List Nat)(gs:List (Option Nat))(ws:List Nat):fw sp gs ws ws.length=eF sp 0 gs ws:=by
 unfold fw;rw[KZ,JE,JR (by rw[dw];exact IU _)]
theorem xV{ws:List Nat}{w:Nat}(h:ws[i]?=some w):(fw sp gs ws i)[i]?=some w:=by
 have hi:=(IQ.mp h).1;unfold fw;rw[Jk (by rw[Jn,dw];lia),Jn,dw,Kc]
 rw[show i+(i-min i ws.length)=i by lia]
 exact h
theorem p_{ws:List Nat}{w:Nat}{g:Option Nat}(hg:gs[i]?=some g)(h:ws[i]?=some w):fw sp gs ws (i+1)=(fw sp gs ws i).set i (gN sp i g w):=by
 have hi:=(IQ.mp h).1;have hs:=step_at sp 0 gs ws i g w hg h;rw[Lz] at hs;unfold fw;rw[Ms _ _ (by rw[Jn,dw];lia),Jn,dw]
 rw[show i-min i ws.length=0 by lia,JK hi,LR]
 rw[KO,hs,Jl];rfl
theorem oB{sp:List Nat}{gs:List (Option Nat)}{ws:List Nat}{w:Nat}{g:Option Nat}(hg:gs[i]?=some g)(h:ws[i]?=some w)(e:gN sp i g w=w):fw sp gs ws (i+1)=fw sp gs ws i:=by
 rw[p_ hg h,e];have:=xV (sp:=sp) (gs:=gs) h;obtain⟨hi,e2⟩:=IQ.mp this;rw[<- e2];exact List.set_getElem_self hi
theorem A7{cd:List (List (List Nat))}(hR:qh cd):zE cd z z.length=none:=by
 obtain⟨c0,c1,c2,rfl,l0,l1,l2⟩:=hR.fH.ex
 cases c:jo c0 z z.length with
 |none=>show (jo c0 z z.length).bind _=none;rw[c];rfl
 |some x=>have:=eN (hR.pf c0 (by simp)).ne c;lia
theorem s_{cd:List (List (List Nat))}:lI cd z (p:Int)=(zE cd z p).map λx=>(rQ x,x.2):=by unfold lI;rw[sQ]
theorem mE{cd:List (List (List Nat))}(hR:qh cd):lI cd z (z.length:Nat)=none:=by rw[s_,A7 hR];rfl
theorem sO(st:ie)(r:Row)(g g':Int):carry st (r.m g)=carry st (r.m g'):=by
 cases r with
 |one u b=>rcases ig u with rfl|rfl<;>rfl
 |_=>rfl
noncomputable def Hl(rs:List Row):Prop:=rs≠[]/\(∀(i:Nat) (r:Row),rs[i]?=some r->i+1=rs.length->r=.halt\/∃g,r=.jump g)/\∀r∈rs,aP r≠some rs.length
noncomputable def kY(rs:List Row)(sp z:List Nat)(i:Nat):Int:=if i<rs.length then ((sp.getD i 0:Nat):Int) else ((z.length:Nat):Int)
noncomputable def Fm(st:ie)(r:Row)(i n:Nat):Nat:=match r with
 |.halt=>n
 |r=>if (carry st (r.m 0)).1=true then (aP r).getD 0 else i+1
theorem kh{st:ie}{r:Row}{g:Int}(h:(carry st (r.m g)).1=true):∃t,aP r=some t:=by
 cases r with
 |put b n=>cases h
 |two u a b=>cases h
 |one u b=>rcases ig u with rfl|rfl<;>cases h
 |jump g=>exact⟨_,rfl⟩
 |zero b g=>exact⟨_,rfl⟩
 |halt=>cases h
theorem DX{st:ie}{rs:List Row}{r:Row}(hi:i<rs.length)(hr:r.Ok rs.length):Fm st r i rs.length<=rs.length:=by
 by_cases hh:r=.halt
 ·subst hh;exact IU _
 ·have e:Fm st r i rs.length=if (carry st (r.m 0)).1=true then (aP r).getD 0 else i+1:=by cases r<;>first|rfl|exact absurd rfl hh
  rw[e];split
  ·rename_i c;obtain⟨t,ht⟩:=kh c;rw[ht];exact jw hr ht
  ·exact hi
section
variable {cd:List (List (List Nat))} {rs:List Row} {ws sp z:List Nat}
theorem Laid.mL(L:Laid cd rs ws sp z)(y:List Nat)(h:y=[]\/Hl rs)(ht:t<=rs.length)(hn:y=[]\/t≠rs.length):kY rs sp (z++y) t=((sp.getD t 0:Nat):Int):=by
 unfold kY;by_cases c:t<rs.length
 ·rw[IW c]
 ·rw[IT c];have e:t=rs.length:=by lia
  rcases hn with rfl|hn
  ·rw[JE,L.last,e]
  ·exact absurd e hn
theorem Laid.read(L:Laid cd rs ws sp z)(y:List Nat)(hi:i<rs.length):lI cd (z++y) (kY rs sp (z++y) i)=some (rs[i].m ((sp.getD ((aP rs[i]).getD 0) 0:Nat):Int),sp.getD (i+1) 0):=by
 obtain⟨w,_,_,e1,e2,e3⟩:=L.row hi;obtain⟨a1,a2⟩:=L.at i (K2 hi);have hp:dD cd rs[i] w (B7 sp i rs[i]) <+: (z++y).drop (sp.getD i 0):=by
  rw[MI a2,a1,e2,Jl];exact Lk _ _
 obtain⟨x,hx,hx2,hm⟩:=C9 L.hR (L.ok _ (Ji hi)) e3 hp;unfold kY;rw[IW hi,s_,hx];show some (rQ x,x.2)=_;rw[hm,hx2,<- e1];congr 2
 cases c:aP rs[i] with
 |none=>generalize rs[i]=r at *;cases r<;>first|rfl|cases c
 |some t =>
  unfold B7;rw[c];show rs[i].m (((sp.getD (i+1) 0:Nat):Int)+fF sp t i)=rs[i].m ((sp.getD t 0:Nat):Int);unfold fF;congr 1;lia
theorem Laid.step(L:Laid cd rs ws sp z)(y:List Nat)(hy:y=[]\/Hl rs){c:BS}(hi:i<rs.length)(ha:c.at_=kY rs sp (z++y) i):∃x,lI cd (z++y) c.at_=some x/\(iz (z++y) c x).st=(carry c.st (rs[i].m 0)).2/\(iz (z++y) c x).at_=kY rs sp (z++y) (Fm c.st rs[i] i rs.length)/\(iz (z++y) c x).rd=c.rd+((sp.getD (i+1) 0:Nat):Int)-((sp.getD i 0:Nat):Int):=by
 refine⟨_,by rw[ha];exact L.read y hi,?_,?_,?_⟩
 ·show (carry c.st (rs[i].m _)).2=_;rw[sO _ _ _ 0]
 ·show place c.st (rs[i].m _) _ _=_;have bc:=L.ok _ (Ji hi);have er:=IJ hi;have hg:=λh:Hl rs=>h.2.2 _ (Ji hi);have hl:=λh:Hl rs=>h.2.1 i _ er;generalize rs[i]=r at *;by_cases hh:r=.halt
  ·subst hh;show ((z++y).length:Int)=kY rs sp (z++y) rs.length;unfold kY;rw[IT (Kf _)]
  ·have e1:Fm c.st r i rs.length=if (carry c.st (r.m 0)).1=true then (aP r).getD 0 else i+1:=by cases r<;>first|rfl|exact absurd rfl hh
   generalize hgg:((sp.getD ((aP r).getD 0) 0:Nat):Int)=g;have e2:∀bh en:Int,place c.st (r.m g) bh en=if (carry c.st (r.m g)).1=true then ((lA (r.m g)).getD 0) else bh:=λbh en=>by cases r<;>first|rfl|exact absurd rfl hh
   rw[e2,e1,sO _ _ g 0];by_cases hc:(carry c.st (r.m 0)).1=true
   ·rw[IW hc,IW hc];obtain⟨t,ht⟩:=kh hc;have eg:lA (r.m g)=some g:=by cases r<;>first|rfl|cases ht
    rw[eg,ht];rw[ht] at hgg;show g=kY rs sp (z++y) t;rw[L.mL y hy (jw bc ht) (hy.imp id λh e=>hg h (by rw[ht,e]))]
    exact hgg.symm
   ·rw[IT hc,IT hc];refine (L.mL y hy hi (hy.imp id λh e=>?_)).symm;rcases hl h e with rfl|⟨g',rfl⟩
    ·exact hh rfl
    ·exact hc rfl
 ·show c.rd+_-c.at_=_;rw[ha];unfold kY;rw[IW hi]
end
theorem sC{rs:List Row}(L1:Laid cd1 rs ws1 sp1 z1)(L2:Laid cd2 rs ws2 sp2 z2)(y1 y2:List Nat)(h1:y1=[]\/Hl rs)(h2:y2=[]\/Hl rs):∀(m:Nat) (c1 c2:BS) (i:Nat),i<=rs.length->c1.st=c2.st->c1.at_=kY rs sp1 (z1++y1) i->c2.at_=kY rs sp2 (z2++y2) i->(sp1=sp2->c1.rd=c2.rd)->∃j,j<=rs.length/\(aH cd1 (z1++y1) m c1).st=(aH cd2 (z2++y2) m c2).st/\(aH cd1 (z1++y1) m c1).at_=kY rs sp1 (z1++y1) j/\(aH cd2 (z2++y2) m c2).at_=kY rs sp2 (z2++y2) j/\(sp1=sp2->(aH cd1 (z1++y1) m c1).rd=(aH cd2 (z2++y2) m c2).rd)
 |0,c1,c2,i,hi,e,a1,a2,er=>⟨i,hi,e,a1,a2,er⟩
 |m+1,c1,c2,i,hi,e,a1,a2,er=>by
  by_cases c:i<rs.length
  ·obtain⟨x1,r1,s1,t1,d1⟩:=L1.step y1 h1 c a1;obtain⟨x2,r2,s2,t2,d2⟩:=L2.step y2 h2 c a2;rw[aH,aH,r1,r2];refine sC L1 L2 y1 y2 h1 h2 m _ _ (Fm c1.st rs[i] i rs.length) (DX c (L1.ok _ (Ji c))) (by rw[s1,s2,e]) t1 (by rw[e];exact t2) λh=>?_
   rw[d1,d2,er h,h]
  ·have n1:lI cd1 (z1++y1) c1.at_=none:=by rw[a1];unfold kY;rw[IT c];exact mE L1.hR
   have n2:lI cd2 (z2++y2) c2.at_=none:=by rw[a2];unfold kY;rw[IT c];exact mE L2.hR
   rw[aH,aH,n1,n2];exact⟨i,hi,e,a1,a2,er⟩
theorem Dc{cd:List (List (List Nat))}{rs:List Row}{ws:List Nat}(L:Laid cd rs ws sp z)(y:List Nat)(h:i<rs.length):kY rs sp (z++y) i≠(((z++y).length:Nat):Int):=by
 unfold kY;rw[IW h];have:=L.mono i (rs.length-i-1) (by lia)
 rw[show i+(rs.length-i-1)+1=rs.length by lia,<- L.last] at this
 rw[IL];lia
theorem sF{cd:List (List (List Nat))}{rs:List Row}{ws:List Nat}(L:Laid cd rs ws sp z)(y:List Nat){c:BS}(hi:i<=rs.length)(ha:c.at_=kY rs sp (z++y) i):fS cd (z++y) c=if i=rs.length then "halt" else "more":=by
 unfold fS;by_cases h:i<rs.length
 ·rw[IT (by rw[ha];exact Dc L y h),ha,L.read y h,IT (by lia)]
 ·rw[IW (by rw[ha];unfold kY;rw[IT h]),IW (by lia)]
theorem jH{rs:List Row}(L1:Laid cd1 rs ws1 sp1 z1)(L2:Laid cd2 rs ws2 sp2 z2)(y1 y2:List Nat)(h1:y1=[]\/Hl rs)(h2:y2=[]\/Hl rs)(m:Nat)(g:List Int):(aH cd1 (z1++y1) m (gQ g)).st=(aH cd2 (z2++y2) m (gQ g)).st/\fS cd1 (z1++y1) (aH cd1 (z1++y1) m (gQ g))=fS cd2 (z2++y2) (aH cd2 (z2++y2) m (gQ g))/\(sp1=sp2->(aH cd1 (z1++y1) m (gQ g)).rd=(aH cd2 (z2++y2) m (gQ g)).rd):=by
 have z0:∀{cd:List (List (List Nat))} {ws sp z:List Nat} (y:List Nat),Laid cd rs ws sp z->(y=[]\/Hl rs)->(gQ g).at_=kY rs sp (z++y) 0:=λ{cd ws sp z} y L h=>by
  show (0:Int)=_;rw[L.mL y h (Jj _) (h.imp id λh e=>h.1 (Kk.mp e.symm)),L.nR];obtain⟨l,e⟩:=mX 0 (iJ cd rs) (rs.map aP) ws;rw[e];rfl
 obtain⟨j,hj,q1,q2,q3,q4⟩:=sC L1 L2 y1 y2 h1 h2 m (gQ g) (gQ g) 0 (Jj _) rfl (z0 y1 L1 h1) (z0 y2 L2 h2) λ_=>rfl;exact⟨q1,by rw[sF L1 y1 hj q2,sF L2 y2 hj q3],q4⟩
theorem lW(cd:List (List (List Nat)))(z:List Nat):∀(a b:Nat) (c:BS),aH cd z (a+b) c=aH cd z b (aH cd z a c)
 |0,b,c=>by rw[Lz];rfl
 |a+1,b,c=>by
  rw[show a+1+b=(a+b)+1 by lia,aH,aH]
  cases h:lI cd z c.at_ with
  |none=>cases b with
   |zero=>rfl
   |succ b=>rw[aH,h]
  |some x=>exact lW cd z a b _
theorem r9(st:ie)(r:df):st.told <+: (carry st r).2.told:=by
 have hh:(cJ st).2.told=st.told:=by unfold cJ;split<;>rfl
 cases r with
 |one u b =>
  rcases ig u with rfl|rfl
  ·exact Lk _ _
  ·show st.told <+: (cJ st).2.told;rw[hh];exact LC _
 |_=>exact LC _
theorem qa{cd:List (List (List Nat))}(hR:qh cd):∀(m:Nat) (c:BS),c.st.told <+: (aH cd z m c).st.told/\c.rd<=(aH cd z m c).rd/\(0<m->lI cd z c.at_≠none->c.rd<(aH cd z m c).rd)
 |0,c=>⟨LC _,Mc _,λh=>absurd h (Kf _)⟩
 |m+1,c=>by
  rw[aH]
  cases h:lI cd z c.at_ with
  |none=>exact⟨LC _,Mc _,λ_ e=>absurd rfl e⟩
  |some x =>
   have hx:c.at_<(x.2:Nat):=by
    unfold lI at h;obtain⟨v,hv,rfl⟩:=Jp.mp h;unfold vC at hv;by_cases c3:c.at_<0
    ·rw[IW c3] at hv;cases hv
    ·rw[IT c3] at hv;have:=(GP hR hv).2.2.2.1;show c.at_<(v.2:Nat);lia
   obtain⟨i1,i2,_⟩:=qa hR m (iz z c x);have e:(iz z c x).rd=c.rd+(x.2:Nat)-c.at_:=rfl;exact⟨(r9 c.st x.1).trans i1,by show c.rd<=_;dsimp only;lia,λ_ _=>by dsimp only;lia⟩
theorem rD{cd:List (List (List Nat))}(hR:qh cd){c:BS}(h:fS cd z c≠"more")(b:Nat):aH cd z b c=c:=by
 have hn:lI cd z c.at_=none:=by
  unfold fS at h;by_cases e:c.at_=(z.length:Nat)
  ·rw[e];exact mE hR
  ·rw[IT e] at h
   cases hm:lI cd z c.at_ with
   |none=>rfl
   |some x=>rw[hm] at h;exact absurd rfl h
 cases b with
 |zero=>rfl
 |succ b=>rw[aH,hn]
theorem zq{cd:List (List (List Nat))}{c:BS}(h:fS cd z c="more"):lI cd z c.at_≠none:=λe=>by
 unfold fS at h;rw[e] at h;by_cases e2:c.at_=(z.length:Nat)
 ·rw[IW e2] at h;exact absurd h (by decide +kernel)
 ·rw[IT e2] at h;exact absurd h (by decide +kernel)
structure Hr (g w:List Int) (k:Nat) (a b:ie):Prop where
 ga:a.given=g
 gb:b.given=w
 told:a.told=b.told
 bs:a.bs=b.bs
 le:b.heard<=k
 hd:a.heard=min b.heard g.length
theorem Hr.step{w:List Int}{a b:ie}(h:Hr g w k a b)(hw:∀i,i<=k->w[i]?=some (g[i]?.getD 0))(r:df):Hr g w (k+1) (carry a r).2 (carry b r).2/\(carry a r).1=(carry b r).1:=by
 obtain⟨h1,h2,h3,h4,h5,h6⟩:=h;obtain⟨ag,ah,at',ab⟩:=a;obtain⟨bg,bh,bt,bb⟩:=b;dsimp only at *;subst h1;subst h2;subst h3;subst h4
 cases r with
 |put x n=>exact⟨⟨rfl,rfl,rfl,rfl,Kn h5,h6⟩,rfl⟩
 |two u x y=>exact⟨⟨rfl,rfl,rfl,rfl,Kn h5,h6⟩,rfl⟩
 |jump g=>exact⟨⟨rfl,rfl,rfl,rfl,Kn h5,h6⟩,rfl⟩
 |zero x g=>exact⟨⟨rfl,rfl,rfl,rfl,Kn h5,h6⟩,rfl⟩
 |halt=>exact⟨⟨rfl,rfl,rfl,rfl,Kn h5,h6⟩,rfl⟩
 |one u x =>
  rcases ig u with rfl|rfl
  ·exact⟨⟨rfl,rfl,rfl,rfl,Kn h5,h6⟩,rfl⟩
  ·have hb:=hw bh h5;have eb:cJ ⟨bg,bh,at',ab⟩=(ag[bh]?.getD 0,⟨bg,bh+1,at',ab⟩):=by
    unfold cJ;dsimp only;rw[hb]
   refine⟨?_,rfl⟩;have ec:∀s:ie,(carry s (.one 1 x)).2={(cJ s).2 with bs:=(cJ s).2.bs.set x ((cJ s).1 % 65536)}:=λ_=>rfl
   rw[ec,ec,eb];by_cases c:bh<ag.length
   ·have ea:cJ ⟨ag,ah,at',ab⟩=(ag[bh]?.getD 0,⟨ag,ah+1,at',ab⟩):=by
     unfold cJ;dsimp only;rw[h6,Nat.min_eq_left (Nat.le_of_lt c),List.getElem?_eq_getElem c];rfl
    rw[ea];exact⟨rfl,rfl,rfl,rfl,Mm h5,by show ah+1=min (bh+1) _;lia⟩
   ·have ea:cJ ⟨ag,ah,at',ab⟩=(ag[bh]?.getD 0,⟨ag,ah,at',ab⟩):=by
     unfold cJ;dsimp only;rw[h6,Nat.min_eq_right (by lia),List.getElem?_eq_none (Nat.le_refl _),List.getElem?_eq_none (by lia)];rfl
    rw[ea];exact⟨rfl,rfl,rfl,rfl,Mm h5,by show ah=min (bh+1) _;lia⟩
theorem lE{cd:List (List (List Nat))}{w:List Int}{most:Nat}(hw:∀i,i<most->w[i]?=some (g[i]?.getD 0)):∀(m k:Nat) (a b:BS),k+m<=most->Hr g w k a.st b.st->a.at_=b.at_->a.rd=b.rd->(aH cd z m a).st.told=(aH cd z m b).st.told/\(aH cd z m a).st.bs=(aH cd z m b).st.bs/\(aH cd z m a).at_=(aH cd z m b).at_/\(aH cd z m a).rd=(aH cd z m b).rd
 |0,k,a,b,_,h,e1,e2=>⟨h.told,h.bs,e1,e2⟩
 |m+1,k,a,b,hk,h,e1,e2=>by
  rw[aH,aH,e1]
  cases hm:lI cd z b.at_ with
  |none=>exact⟨h.told,h.bs,e1,e2⟩
  |some x =>
   obtain⟨s1,s2⟩:=h.step (λi hi=>hw i (by lia)) x.1
   have hp:∀bh en,place a.st x.1 bh en=place b.st x.1 bh en:=λbh en=>by
    unfold place;split
    ·rfl
    ·rw[s2]
   refine lE hw m (k+1) _ _ (by lia) s1 (hp _ _) ?_
   show a.rd+_-a.at_=b.rd+_-b.at_;rw[e1,e2]
theorem oO{cd:List (List (List Nat))}{w:List Int}{most:Nat}(hw:∀i,i<most->w[i]?=some (g[i]?.getD 0)):(aH cd z most (gQ g)).st.told=(aH cd z most (gQ w)).st.told/\(aH cd z most (gQ g)).st.bs=(aH cd z most (gQ w)).st.bs/\(aH cd z most (gQ g)).at_=(aH cd z most (gQ w)).at_/\(aH cd z most (gQ g)).rd=(aH cd z most (gQ w)).rd:=
 lE hw most 0 (gQ g) (gQ w) (by lia) ⟨rfl,rfl,rfl,rfl,IU _,by show 0=min 0 _;lia⟩ rfl rfl
theorem ED{cd:List (List (List Nat))}{a b:BS}(h:a.at_=b.at_):fS cd z a=fS cd z b:=by unfold fS;rw[h]
noncomputable def PA(H:Hp)(as:List Addr)(rs:List Row):Prop:=as.length=rs.length/\∀(i:Nat) (q:Addr) (r:Row),as[i]?=some q->rs[i]?=some r->H q=some (.tup r.vs)
theorem PA.snoc{rs:List Row}{q:Addr}{r:Row}(h:PA H as rs)(e:H q=some (.tup r.vs)):PA H (as++[q]) (rs++[r]):=by
 refine⟨by rw[IL,IL,h.1];rfl,λi q' r' e1 e2=>?_⟩
 rcases JL i as.length with hi|hi
 ·rw[Jx hi] at e1;rw[Jx (by rw[<- h.1];exact hi)] at e2
  exact h.2 i q' r' e1 e2
 ·have h1:=h.1;rw[Jk hi] at e1;rw[Jk (by lia),<- h1] at e2
  obtain⟨hj,rfl⟩:=IQ.mp e1;obtain⟨hj2,rfl⟩:=IQ.mp e2;have:i-as.length=0:=by simp at hj;lia
  simp only[this,Lp];exact e
theorem PA.keep{rs:List Row}(h:PA H as rs)(k:KB ex H H')(hx:NT ex H):PA H' as rs:=⟨h.1,λi q r e1 e2=>k _ _ (h.2 i q r e1 e2) λz=>hx q z _ (h.2 i q r e1 e2)⟩
theorem CG{D:Addr}(h:H D=some (.lst ys)):NT [D] H:=λb hb xs e=>by
 rw[Jg.mp hb,h] at e;cases e
noncomputable def yI(H:Hp)(a:Addr)(rs:List Row):Prop:=∃as:List Addr,H a=some (.tup (as.map V.ref))/\PA H as rs
theorem yI.keep{rs:List Row}(h:yI H a rs)(k:KB ex H H')(hx:NT ex H):yI H' a rs:=by
 obtain⟨as,h1,h2⟩:=h;exact⟨as,k _ _ h1 λz=>hx a z _ h1,h2.keep k hx⟩
theorem yI.kb{rs:List Row}(h:yI H a rs)(k:KB [] H H'):yI H' a rs:=h.keep k (NT.nil _)
noncomputable def wM:Sp:=λvs H Q _=>∃(p dq:Addr) (m n:Nat),vs=[.ref p,.int (m:Nat)]/\bz H p dq n/\n<2^37/\m<=60/\∀(rs:List Row) (a:Addr) H',rs.length<=m->(∀r∈rs,r.Ok rs.length)->yI H' a rs->bz H' p dq (n+1+5*m)->KB [p,dq] H H'->Q (.ref a) H'
theorem BE(T:Txt K mg)(F:HasFn K mg "_law_program" cy ["deck","most"])(h_law_draw:aq P w K mg base bq 2 "_law_draw" ["deck","most"] dU)(h_law_row:aq P w K mg base bq 4 "_law_row" ["deck","goals"] (xK K)):aq P w K mg base bq 5 "_law_program" ["deck","most"] wM:=by
 refine F.gU fB (λvs H Q E h=>?_) (λf cdv A outer s H vs Q E hr h=>?_)
 ·obtain⟨p,dq,m,n,rfl,_⟩:=h;rfl
 ·have hu:=bo hr;obtain⟨p,dq,m,n,rfl,hd,hn,hm,q⟩:=h;refine⟨_,(Z.ai (Z.set (i:=2) fB.nd rfl (by right) (Z.fn h_law_draw (hr.mono (by decide)) rfl av (Z.cons (Z.v 0) (Z.cons (Z.op (Z.aR K rfl) (Z.v 1) Z.int) Z.nil))))
   (Z.aA (Z.ret (Z.ct (Z.dC K rfl) rfl T.dG (by decide +kernel) (Z.cons (Z.comp (osc:=ae cy) (ON:=["deck","most","many"]) (own:=["k"]) (N:=["k","deck","most","many"]) ⟨rfl,by decide +kernel,rfl,by decide +kernel,by decide +kernel,by decide +kernel,by decide +kernel,by decide +kernel⟩ rfl rfl rfl (Z.k_ rfl T.cT (Z.cons (Z.v 2) Z.nil)) (λ_ _ _ _=>(Z.bp (i:=0) (show List.Nodup (["k","deck","most","many"]:List Str) by decide +kernel) rfl (by right))) (λ_ _ _ _=>Z.sH) (λ_ _ _ _=>(Z.fn h_law_row (hr.mono (by decide)) rfl av (Z.cons (Z.v 1) (Z.cons (Z.v 3) Z.nil))))) Z.nil))))),?_⟩
  refine ar λN hN=>?_;walk_at "rz";refine⟨p,dq,(m:Int)+1,n,rfl,hd,by lia,by lia,by lia,λv H1 hv D1 k1=>?_⟩
  rw[hN];clear hN N;walk_at "rz";refine⟨by lia,by lia,?_⟩
  rw[Jw];refine oT (IY (show v<=1000 by lia) (by decide)) (λD i ys H'=>H1 D=none/\H' D=some (.lst ys)/\i<=v/\bz H' p dq (n+1+5*i)/\KB [p,dq] H1 H'/\∃(as:List Addr) (rs:List Row),ys=as.map V.ref/\rs.length=i/\(∀r∈rs,r.Ok v)/\PA H' as rs) (λD hD=>⟨hD,aa,Jj _,D1.kb (KB.new hD),KB.new hD,[],[],rfl,rfl,(λr hr=>absurd hr Js),rfl,λi q r e=>nomatch e⟩) (λD i ys H' h=>⟨h.2.1,by obtain⟨_,_,_,_,_,as,rs,rfl,e,_,e2⟩:=h;rw[IP,e2.1,e]⟩) ?_ ?_
  ·rintro D i ys H' R hi ⟨g0,g1,g2,gD,gk,as,rs,rfl,e1,e2,e3⟩ kk;have nD:=D1.new g0;have pD:p≠D:=λz=>nD (by simp[z])
   have qD:dq≠D:=λz=>nD (by simp[z])
   walk_at "rz";refine⟨p,dq,v,_,rfl,gD,by lia,by lia,λr a H5 hr hra D5 k5=>?_⟩
   have gD5:=k5 _ _ g1 nD;have e35:PA H5 (as++[a]) (rs++[r]):=(e3.keep k5 gD.nt).snoc hra;refine kk _ _ gD5 ⟨g0,aa,by lia,(D5.keep (KB.set (ex:=[D]) (by simp)) (by simpa using pD) (by simpa using qD)).mono (by lia),λu o e z=>by rw[af (ao e g0)];exact k5 _ _ (gk _ _ e z) z,as++[a],rs++[r],by rw[Jm];rfl,by rw[IL,e1];rfl,λr' hr'=>?_,e35.keep (KB.set (ex:=[D]) (by simp)) (CG gD5)⟩
   rcases JG.mp hr' with h|h
   ·exact e2 r' h
   ·rw[Jg.mp h];exact hr
  ·rintro D ys H' ⟨g0,g1,g2,gD,gk,as,rs,rfl,e1,e2,e3⟩;exists au g1;intro b hb;have kb:=KB.new (ex:=[]) (o:=.tup (as.map V.ref)) hb;refine q rs b _ (by lia) (by rw[e1];exact e2) ⟨as,aa,e3.keep kb (NT.nil _)⟩ ((gD.kb kb).mono (by lia)) (k1.trans (gk.trans kb.all))
noncomputable def cx:Option Nat->V
 |none=>.aT
 |some t=>.int (t:Nat)
noncomputable def se:Sp:=λvs H Q _=>∃(a:Addr) (rs:List Row),vs=[.ref a]/\yI H a rs/\rs.length<=64/\∀b H',H b=none->KB [] H H'->H' b=some (.lst ((rs.map aP).map cx))->Q (.ref b) H'
theorem wU(T:Txt K mg)(F:HasFn K mg "_law_goals" cV ["program"]):aq P w K mg base bq 1 "_law_goals" ["program"] se:=by
 refine F.gU kW (λvs H Q E h=>?_) (λf cdv A outer s H vs Q E hr h=>?_)
 ·obtain⟨a,rs,rfl,_⟩:=h;rfl
 ·have hu:=bo hr;obtain⟨a,rs,rfl,⟨as,ha,hp⟩,hl,q⟩:=h;have hp1:=hp.1;refine⟨_,(Z.aA (Z.ret (Z.comp (osc:=ae cV) (ON:=["program"]) (own:=["row"]) (N:=["row","program"]) ⟨rfl,by decide +kernel,rfl,by decide +kernel,by decide +kernel,by decide +kernel,by decide +kernel,by decide +kernel⟩ rfl rfl rfl (Z.any K rfl (Z.v 0)) (λ_ _ _ _=>(Z.bp (i:=0) (show List.Nodup (["row","program"]:List Str) by decide +kernel) rfl (by right))) (λ_ _ _ _=>Z.sH) (λ_ _ _ _=>(Z.EY (Z.bf (Z.x_ K rfl hu) (Z.ix (Z.az K rfl hu) (Z.v 0) Z.int) (Z.tup (Z.consts rfl))) (Z.ix (Z.az K rfl hu) (Z.v 0) (Z.un fK Z.int)) Z.aT))))),?_⟩
  exists ax ha;refine cm (xs:=as.map V.ref) (IY (show _<=64 by rw[IP];lia) (by decide)) (λD i ys H'=>H D=none/\H' D=some (.lst ys)/\KB [] H H'/\ys=((rs.take i).map aP).map cx/\i<=rs.length) (λD hD=>⟨hD,aa,KB.new hD,rfl,Jj _⟩) (λD i ys H' h=>⟨h.2.1,by rw[h.2.2.2.1,IP,IP,Jn];have:=h.2.2.2.2;lia⟩) (λD i ys H' h=>bu.of (h.2.2.1 _ _ ha (by simp))) ?_ ?_
  ·rintro D i ys H' x R hx ⟨g0,g1,gk,rfl,hi⟩ kk;obtain⟨c,ec,rfl⟩:∃c,as[i]?=some c/\x=.ref c:=by
    rw[I_] at hx;obtain⟨c,e,rfl⟩:=Jp.mp hx;exact⟨c,e,rfl⟩
   have hlt:i<rs.length:=by have:=(IQ.mp ec).1;lia
   have er:=IJ hlt;have hc:=gk _ _ (hp.2 i c _ ec er) (by simp)
   have et:rs.take (i+1)=rs.take i++[rs[i]]:=by rw[KO,er];rfl
   have fin:∀G:Hp,KB [] H' G->R (cx (aP rs[i])) G:=λG kG=>by
    have g1':=kG _ _ g1 (by simp)
    refine kk _ _ g1' ⟨g0,aa,λu o e _=>by rw[af (ao e g0)];exact kG _ _ (gk _ _ e (by simp)) (by simp),by rw[et,Jm,Jm];rfl,hlt⟩
   generalize rs[i]=r at *;have sc:=ax hc;obtain⟨z,e0,h⟩:∃z:Str,bU r.vs 0=some (.str z)/\(hJ (.str z) [.str "jump",.str "zero"]=true/\bU r.vs (-1)=some (cx (aP r))\/hJ (.str z) [.str "jump",.str "zero"]=false/\cx (aP r)=.aT):=by
    cases r with
    |jump g=>exact⟨_,rfl,.inl ⟨by decide +kernel,rfl⟩⟩
    |zero b g=>exact⟨_,rfl,.inl ⟨by decide +kernel,rfl⟩⟩
    |put b n=>exact⟨_,rfl,.inr ⟨by decide +kernel,rfl⟩⟩
    |two u b c=>exact⟨_,rfl,.inr ⟨(show ∀u,hJ (.str (w2 u)) [.str "jump",.str "zero"]=false by decide +kernel) u,rfl⟩⟩
    |one u b=>exact⟨_,rfl,.inr ⟨(show ∀u,hJ (.str (w1 u)) [.str "jump",.str "zero"]=false by decide +kernel) u,rfl⟩⟩
    |halt=>exact⟨_,rfl,.inr ⟨by decide +kernel,rfl⟩⟩
   exists sc,e0;refine⟨by decide,λt ht=>⟨rfl,rfl,?_⟩⟩
   have k6:=KB.new (ex:=[]) (o:=.tup [.str "jump",.str "zero"]) ht;rcases h with ⟨h1,h2⟩|⟨h1,h2⟩
   ·exists h1,ax (k6 _ _ hc (by simp)),h2
    exact fin _ k6
   ·exists h1;rw[h2] at fin;exact fin _ k6
  ·rintro D ys H' ⟨g0,g1,gk,rfl,hi⟩;refine q D H' g0 gk ?_;rw[g1,IP,hp1,Ke]
theorem rW{l:List Nat}(h:i<l.length):bU (iV (nZ l)) (i:Int)=some (.int ((l.getD i 0:Nat):Int)):=b7 (by unfold iV nZ;rw[KW,I_,IJ h,Jc,IJ h];rfl)
theorem yM{l:List Nat}{v:V}(h:(iV (nZ l))[i]?=some v):∃x:Nat,l[i]?=some x/\v=.int (x:Nat):=by
 unfold iV nZ at h;rw[KW,I_] at h;obtain⟨x,e,rfl⟩:=Jp.mp h;exact⟨x,e,rfl⟩
theorem Di{l:List (Option Nat)}{v:V}(h:(l.map cx)[i]?=some v):∃x,l[i]?=some x/\v=cx x:=by
 rw[I_] at h;obtain⟨x,e,rfl⟩:=Jp.mp h;exact⟨x,e,rfl⟩
noncomputable def ni(K:Og):Sp:=λvs H Q _=>∃(a b c:Addr) (ss:List Nat) (gs:List (Option Nat)) (ws:List Nat),vs=[.ref a,.ref b,.ref c]/\H a=some (.lst (iV (nZ ss)))/\H b=some (.lst (gs.map cx))/\H c=some (.lst (iV (nZ ws)))/\gs.length=ss.length/\ws.length=ss.length/\ss.length<=64/\(∀w∈ws,w<3)/\∀d H',H d=none->KB [] H H'->H' d=some (.lst (iV (nZ (h_ 0 ss gs ws))))->Q (.ref d) H'
theorem xb(T:Txt K mg)(F:HasFn K mg "_law_spots" dF ["sizes","goals","widths"]):aq P w K mg base bq 1 "_law_spots" ["sizes","goals","widths"] (ni K):=by
 refine F.gU cL (λvs H Q E h=>?_) (λf cdv A outer s H vs Q E hr h=>?_)
 ·obtain⟨a,b,c,ss,gs,ws,rfl,_⟩:=h;rfl
 ·have hu:=bo hr;obtain⟨a,b,c,ss,gs,ws,rfl,ha,hb,hc,h1,h2,h3,h4,q⟩:=h;have hl:=ib ss gs ws 0 h1 h2;have hat:=rC ss gs ws 0;obtain⟨l0,e0⟩:=mX 0 ss gs ws;refine⟨_,(Z.ai (Z.set (i:=3) cL.nd rfl (by right) (Z.lst (Z.cons Z.int Z.nil)))
   (Z.ai (Z.fQ J6 rfl (FJ K rfl rfl T.Gm (Z.cons (Z.v 0) (Z.cons (Z.v 1) (Z.cons (Z.v 2) Z.nil)))) (Z.zu (n:=3) K rfl rfl (Z.dW (Z.bp (i:=4) cL.nd rfl (by right)) (Z.dW (Z.bp (i:=5) cL.nd rfl (by right)) (Z.dW (Z.bp (i:=6) cL.nd rfl (by right)) Z.pL)))) (Z.aA (Z.expr (Z.bm K rfl PySem.F.plainAttrs_list PySem.F.slot_list_append PySem.F.type_list_append dN (Z.v 3) (Z.cons (Z.op (Z.aR K rfl) (Z.op (Z.aR K rfl) (Z.ix (Z.az K rfl hu) (Z.v 3) (Z.un fK Z.int)) (Z.v 4)) (Z.ix (Z.az K rfl hu) (Z.lst (Z.cons Z.int (Z.cons (Z.ix (Z.az K rfl hu) (Z.lst (Z.consts rfl)) (Z.v 6)) Z.nil))) (Z.ct lR rfl T.tB (by decide +kernel) (Z.cons (Z.cmp jv (Z.v 5) Z.aT) Z.nil)))) Z.nil)))))
   (Z.aA (Z.ret (Z.v 3))))),?_⟩
  generalize nR:h_ 0 ss gs ws=sp at *;refine ar λN hN=>?_;walk_at "rz";refine⟨by decide,λfd hfd=>?_⟩
  have k1:=KB.new (ex:=[]) (o:=.lst [.int 0]) hfd;have s1:upd H fd (.lst [.int 0]) fd=some (.lst (iV (nZ (sp.take 1)))):=by rw[aa,e0];rfl
  generalize upd H fd (.lst [.int 0])=H1 at *;rw[hN];clear hN N;refine ar λN hN=>?_;exists vT;have ha1:=k1 _ _ ha (by simp)
  have hb1:=k1 _ _ hb (by simp)
  have hc1:=k1 _ _ hc (by simp)
  refine⟨(true,a),(true,b),(true,c),⟨rfl,rfl,rfl⟩,⟨_,ck.of ha1⟩,⟨_,ck.of hb1⟩,⟨_,ck.of hc1⟩,λn=>?_⟩;refine uz (xs:=iV (nZ ss)) (ys:=gs.map cx) (zs:=iV (nZ ws)) (by rw[bM,IP,h1]) (by rw[bM,bM,h2]) (λi σ H'=>∃o4 o5 o6:Option V,i<=ss.length/\KB [] H H'/\H' fd=some (.lst (iV (nZ (sp.take (i+1)))))/\σ=[some (.ref a),some (.ref b),some (.ref c),some (.ref fd),o4,o5,o6]) ⟨none,none,none,Jj _,k1,s1,rfl⟩ (λi σ H' ⟨_,_,_,_,k,_⟩=>⟨ck.of (k _ _ ha (by simp)),ck.of (k _ _ hb (by simp)),ck.of (k _ _ hc (by simp))⟩) ?_ ?_
  ·rintro i x y z σ H' p hx hy hz ⟨o4,o5,o6,hi,hk,gf,rfl⟩ hp;obtain⟨s0,es,rfl⟩:=yM hx;obtain⟨g,eg,rfl⟩:=Di hy;obtain⟨w0,ew,rfl⟩:=yM hz;have hlt:i<ss.length:=(IQ.mp es).1;have lw:=h4 _ (JF ew);have en:=hat i s0 g w0 es eg ew;unfold bC;refine⟨p,_,rfl,bu.of aa,rfl,_,_,rfl,_,_,rfl,_,_,rfl,rfl,?_⟩;have k2:=hk.trans (KB.new (o:=.tup [.int (s0:Nat),cx g,.int (w0:Nat)]) hp);have gf2:upd H' p (.tup [.int (s0:Nat),cx g,.int (w0:Nat)]) fd=some (.lst (iV (nZ (sp.take (i+1))))):=by rw[af (ao gf hp)];exact gf
   generalize upd H' p (.tup [.int (s0:Nat),cx g,.int (w0:Nat)])=H2 at *;have et:sp.take (i+1+1)=sp.take (i+1)++[sp.getD (i+1) 0]:=by
    rw[KO,Jc,IJ (show i+1<sp.length by lia)];rfl
   have lst:bU (iV (nZ (sp.take (i+1)))) (-1)=some (.int ((sp.getD i 0:Nat):Int)):=by
    have hi2:(sp.take (i+1)).length=i+1:=by rw[Jn];lia
    unfold bU j0;rw[IT (by decide),IW (by rw[bM,hi2];lia),bM,hi2,show -1+((i+1:Nat):Int)=(i:Int) by lia]
    show (iV (nZ (sp.take (i+1))))[((i:Nat):Int).toNat]?=_;rw[Jw];unfold iV nZ;rw[KW,I_,Nt (Ml i),IJ (show i<sp.length by lia),Jc,IJ (show i<sp.length by lia)];rfl
   dsimp only;refine pz λM hM=>?_;exists au gf2,lst;have a1:bU [V.int 5,.int 10,.int 18] (w0:Int)=some (.int ((EZ w0:Nat):Int)):=by rcases j4 lw with rfl|rfl|rfl<;>rfl
   refine⟨.inl ⟨rfl,_,ck.of gf2⟩,by decide,λp1 hp1=>?_⟩
   rw[a1];refine⟨by decide,λp2 hp2=>?_⟩
   have a2:bU [V.int 0,.int ((EZ w0:Nat):Int)] (if ¬ cx g=V.aT then 1 else 0)=some (.int ((addW g w0:Nat):Int)):=by cases g<;>rfl
   rw[a2];have k3:=(KB.new (ex:=[]) (o:=.lst [.int 5,.int 10,.int 18]) hp1).trans (KB.new (o:=.lst [.int 0,.int ((EZ w0:Nat):Int)]) hp2);generalize upd (upd H2 p1 _) p2 _=H3 at *;have gf3:=k3 _ _ gf2 (by simp)
   walk_at "rz";refine⟨fd,_,_,rfl,rfl,gf3,JU (show _<=1000 by rw[bM,Jn];lia) (by decide),?_⟩
   rw[hM];refine⟨_,_,_,hlt,λu o e _=>by rw[af (ao e hfd)];exact k3 _ _ (k2 _ _ e (by simp)) (by simp),?_,rfl⟩
   rw[aa,et,en];unfold nZ;rw[Jm,fJ];rfl
  ·rintro σ H' ⟨o4,o5,o6,hi,hk,gf,rfl⟩;show N _ _;rw[hN];clear hN N;walk_at "rz";rw[JR (by rw[hl,bM];exact IU _)] at gf
   exact q fd H' hfd hk gf
noncomputable def tR(K:Og):Sp:=λvs H Q _=>∃(a b c:Addr) (ss:List Nat) (gs:List (Option Nat)) (ws:List Nat),vs=[.ref a,.ref b,.ref c]/\H a=some (.lst (iV (nZ ss)))/\H b=some (.lst (gs.map cx))/\H c=some (.lst (iV (nZ ws)))/\gs.length=ss.length/\ws.length=ss.length/\ss.length<=64/\(∀t,some t∈gs->t<=ss.length)/\(∀w∈ws,w<3)/\∀d H',H d=none->KB [] H H'->H' d=some (.lst (iV (nZ (mQ ss gs ws))))->Q (.ref d) H'
theorem Ec(l:List Nat)(i v:Nat):(iV (nZ l)).set i (.int (v:Int))=iV (nZ (l.set i v)):=by
 unfold iV nZ;rw[L4,L4]
theorem xZ(T:Txt K mg)(F:HasFn K mg "_law_least" dB ["sizes","goals","widths"])(h_law_spots:aq P w K mg base bq 1 "_law_spots" ["sizes","goals","widths"] (ni K)):aq P w K mg base bq 2 "_law_least" ["sizes","goals","widths"] (tR K):=by
 refine F.gU bO (λvs H Q E h=>?_) (λf cdv A outer s H vs Q E hr h=>?_)
 ·obtain⟨a,b,c,ss,gs,ws,rfl,_⟩:=h;rfl
 ·have hu:=bo hr;obtain⟨a,b,c,ss,gs,ws,rfl,ha,hb,hc,h1,h2,h3,h5,h6,q⟩:=h;refine⟨_,(Z.ai (Z.set (i:=2) bO.nd rfl (by right) (Z.ct (Z.CO K rfl) rfl T.yh (by decide +kernel) (Z.cons (Z.v 2) Z.nil)))
   (Z.ai (Z.fQ J6 rfl (Z.k_ rfl T.cT (Z.cons (Z.op (Z.aR K rfl) (Z.op bR Z.int (Z.cb (Z.cw K rfl) rfl T.cf (by decide +kernel) (Z.cons (Z.v 0) Z.nil))) Z.int) Z.nil)) (Z.bp (i:=3) bO.nd rfl (by right)) (Z.ai (Z.set (i:=4) bO.nd rfl (by right) (Z.fn h_law_spots (hr.mono (by decide)) rfl av (Z.cons (Z.v 0) (Z.cons (Z.v 1) (Z.cons (Z.v 2) Z.nil)))))
   (Z.aA (Z.fQ J6 rfl (Z.k_ rfl T.cT (Z.cons (Z.cb (Z.cw K rfl) rfl T.cf (by decide +kernel) (Z.cons (Z.v 0) Z.nil)) Z.nil)) (Z.bp (i:=5) bO.nd rfl (by right)) (Z.aA (Z.d9 (Z.bf jv (Z.ix (Z.az K rfl hu) (Z.v 1) (Z.v 5)) Z.aT) (Z.ai (Z.set (i:=6) bO.nd rfl (by right) (Z.ix (Z.az K rfl hu) (Z.lst (Z.consts rfl)) (Z.ix (Z.az K rfl hu) (Z.v 2) (Z.v 5))))
   (Z.ai (Z.set (i:=7) bO.nd rfl (by right) (Z.op bX (Z.ix (Z.az K rfl hu) (Z.v 4) (Z.ix (Z.az K rfl hu) (Z.v 1) (Z.v 5))) (Z.ix (Z.az K rfl hu) (Z.v 4) (Z.op (Z.aR K rfl) (Z.v 5) Z.int))))
   (Z.aA (Z.d9 (Z.zU (Z.C0 (Cf) (mh) (Z.op bX Z.int (Z.v 6)) (Z.v 7) (Z.v 6))) (Z.aA (Z.asg (Z.cb (mm rfl) rfl T.Cj (by decide +kernel) (Z.cons (Z.op (Z.aR K rfl) (Z.ix (Z.az K rfl hu) (Z.v 2) (Z.v 5)) Z.int) (Z.cons Z.int Z.nil))) (Z.qE (Z.v 2) (Z.v 5)))) Z.bG)))) Z.bG))))))
   (Z.aA (Z.ret (Z.v 2))))),?_⟩
  refine ar λN hN=>?_;walk_at "rz";refine⟨c,_,rfl,.inl (ck.of hc),λd hd=>?_⟩;have k1:=KB.new (ex:=[]) (o:=.lst (iV (nZ ws))) hd;have s1:upd H d (.lst (iV (nZ ws))) d=some (.lst (iV (nZ (bJ ss gs ws 0)))):=aa;generalize upd H d (.lst (iV (nZ ws)))=H1 at *;rw[hN];clear hN N;refine ar λN hN=>?_;have ha1:=k1 _ _ ha (by simp)
  exists au ha1,bM;refine⟨.inl ⟨by decide,by decide⟩,by lia,by lia,?_⟩
  rw[show (2*(ss.length:Int)+1).toNat=2*ss.length+1 by lia]
  refine bY (λm σ H'=>∃o3 o4 o5 o6 o7:Option V,KB [] H H'/\H' d=some (.lst (iV (nZ (bJ ss gs ws m))))/\σ=[some (.ref a),some (.ref b),some (.ref d),o3,o4,o5,o6,o7]) ⟨none,none,none,none,none,k1,s1,rfl⟩ ?_ ?_
  ·rintro m σ H' hm ⟨o3,o4,o5,o6,o7,hk,gd,rfl⟩;generalize (0:Int)+((m:Nat):Int)=kI;have wl:=f_ ss gs ws m;have wt:=fM (ss:=ss) (gs:=gs) h6 m;rw[h2] at wl;unfold bC;have en:bJ ss gs ws (m+1)=eF (h_ 0 ss gs (bJ ss gs ws m)) 0 gs (bJ ss gs ws m):=rfl;generalize bJ ss gs ws m=wm at *;refine ar λM hM=>?_;walk_at "rz";refine⟨a,b,d,ss,gs,wm,rfl,hk _ _ ha (by simp),hk _ _ hb (by simp),gd,h1,wl,h3,wt,λsd H2 hsd k2 g2=>?_⟩
   rw[hM];clear hM M;have sl:=ib ss gs wm 0 h1 wl;generalize h_ 0 ss gs wm=sp at *;have dsd:sd≠d:=λz=>by rw[z,gd] at hsd;cases hsd
   have hk2:=hk.trans k2;have gd2:=k2 _ _ gd (by simp)
   have ha2:=hk2 _ _ ha (by simp)
   dsimp only;refine pz λM hM=>?_;exists au ha2,bM;refine⟨by lia,by lia,?_⟩
   rw[Jw];have hsdH:H sd=none:=hk.free (by simp) hsd
   refine bY (λi σ G=>∃o5 o6 o7:Option V,KB [] H G/\G sd=some (.lst (iV (nZ sp)))/\G d=some (.lst (iV (nZ (fw sp gs wm i))))/\σ=[some (.ref a),some (.ref b),some (.ref d),some (.int kI),some (.ref sd),o5,o6,o7]) ⟨o5,o6,o7,hk2,g2,gd2,rfl⟩ ?_ ?_
   ·rintro i σ G hi ⟨o5,o6,o7,hkG,gs3,gd3,rfl⟩;rw[show (0:Int)+((i:Nat):Int)=(i:Int) from Int.zero_add _];have eg:=IJ (show i<gs.length by lia)
    have ew:=IJ (show i<wm.length by lia)
    have lw:=wt _ (Ji (show i<wm.length by lia))
    have gm:=Ji (show i<gs.length by lia)
    generalize gs[i]'_=g at eg gm;generalize wm[i]'_=w0 at ew lw;have hbG:=au (hkG _ _ hb (by simp))
    have ag:bU (gs.map cx) (i:Int)=some (cx g):=b7 (by rw[I_,eg];rfl)
    have aw:bU (iV (nZ (fw sp gs wm i))) (i:Int)=some (.int (w0:Nat)):=b7 (by unfold iV nZ;rw[KW,I_,xV ew];rfl)
    dsimp only;refine pz λM2 hM2=>?_;have lj:∀(G':Hp) (o6 o7:Option V),KB [] H G'->G' sd=some (.lst (iV (nZ sp)))->G' d=some (.lst (iV (nZ (fw sp gs wm (i+1)))))->M2 [some (.ref a),some (.ref b),some (.ref d),some (.int kI),some (.ref sd),some (.int (i:Int)),o6,o7] G':=λG' o6 o7 g1 g2 g3=>by rw[hM2];exact⟨_,o6,o7,g1,g2,g3,rfl⟩
    refine zC λA B hA hB=>?_;exists hbG,ag
    cases g with
    |none =>
     rw[IT (show ¬ ¬ cx none=V.aT from λz=>z rfl),hB];rw[<- oB (sp:=sp) eg ew rfl] at gd3;exact lj G _ _ hkG gs3 gd3
    |some t =>
     have ht:t<=ss.length:=h5 t gm;have as1:=rW (l:=sp) (i:=t) (by lia)
     have as2:bU (iV (nZ sp)) ((i:Int)+1)=some (.int ((sp.getD (i+1) 0:Nat):Int)):=rW (l:=sp) (i:=i+1) (by lia)
     rw[IW (show ¬ cx (some t)=V.aT from λz=>nomatch z),hA];clear hA hB;have ah:bU [V.int 8,.int 128,.int 32768] (w0:Int)=some (.int (bS w0)):=by rcases j4 lw with rfl|rfl|rfl<;>rfl
     refine ar λM3 hM3=>?_;walk_at "rz";refine⟨by decide,λl hl=>?_⟩
     have k4:=KB.new (ex:=[]) (o:=.lst [.int 8,.int 128,.int 32768]) hl;have s4:upd G l (.lst [.int 8,.int 128,.int 32768]) l=_:=aa;have gd4:=k4 _ _ gd3 (by simp)
     exists au gd4,aw,au s4,ah;clear s4;have gs4:=k4 _ _ gs3 (by simp)
     have hkG4:=hkG.trans k4;generalize upd G l (.lst [.int 8,.int 128,.int 32768])=G4 at *;rw[hM3];clear hM3 M3;refine ar λM3 hM3=>?_;have hbG4:=au (hkG4 _ _ hb (by simp))
     have ag':bU (gs.map cx) (i:Int)=some (.int (t:Nat)):=ag;exists hbG4,ag',au gs4,as1,as2;rw[hM3];clear hM3 M3;have bad:yG w0 (fF sp t i)=false->M2 [some (.ref a),some (.ref b),some (.ref d),some (.int kI),some (.ref sd),some (.int (i:Int)),some (.int (bS w0)),some (.int (((sp.getD t 0:Nat):Int)-((sp.getD (i+1) 0:Nat):Int)))] (upd G4 d (.lst ((iV (nZ (fw sp gs wm i))).set i (.int (if 2<(w0:Int)+1 then 2 else (w0:Int)+1))))):=λc=>by
      have e3:fw sp gs wm (i+1)=(fw sp gs wm i).set i (min (w0+1) 2):=by
       rw[p_ eg ew];show (fw sp gs wm i).set i (if yG w0 (fF sp t i)=true then w0 else min (w0+1) 2)=_
       rw[c,IT (by decide)]
      refine lj _ _ _ (λu o e _=>by rw[af (ao e hd)];exact hkG4 _ _ e (by simp)) (by rw[af dsd];exact gs4) ?_
      rw[aa,show (if 2<(w0:Int)+1 then 2 else (w0:Int)+1)=((min (w0+1) 2:Nat):Int) by split<;>lia,Ec,<- e3]
     exists au gd4,aw;have ex:j0 (iV (nZ (fw sp gs wm i))).length (i:Int)=some i:=by
      rw[bM,Aw];unfold j0;rw[IW (by lia),IW (by lia),Jw]
     rw[gd4];simp only[ex];by_cases c1:0-bS w0<=((sp.getD t 0:Nat):Int)-((sp.getD (i+1) 0:Nat):Int)
     ·rw[IW c1];by_cases c2:((sp.getD t 0:Nat):Int)-((sp.getD (i+1) 0:Nat):Int)<bS w0
      ·rw[IT (λz=>z c2)];rw[<- oB (sp:=sp) eg ew (by
        show (if yG w0 (fF sp t i)=true then w0 else min (w0+1) 2)=w0
        rw[IW];unfold yG fF;rw[Jt (by lia),Jt c2];rfl)] at gd4
       exact lj _ _ _ hkG4 gs4 gd4
      ·rw[IW c2];refine bad ?_;unfold yG fF;rw[Jq c2,MT]
     ·rw[IT c1];refine bad ?_;unfold yG fF;rw[Jq (by lia),MP]
   ·rintro σ G ⟨o5,o6,o7,hkG,gs3,gd3,rfl⟩;show M _ _;rw[hM];rw[<- wl,AY] at gd3;exact⟨_,_,o5,o6,o7,hkG,by rw[en];exact gd3,rfl⟩
  ·rintro σ H' ⟨o3,o4,o5,o6,o7,hk,gd,rfl⟩;show N _ _;rw[hN];clear hN N;walk_at "rz";exact q d H' hd hk gd
noncomputable def hV(cd:List (List (List Nat)))(rs:List Row):List V:=rs.map λr=>.str (wd (bK cd r))
noncomputable def pQ(K:Og):Sp:=λvs H Q _=>∃(a b c:Addr) (bk:List (List Int)) (rs:List Row) (ws:List Nat),vs=[.ref a,.ref b,.ref c]/\yI H a rs/\qc H b bk/\Bk bk/\H c=some (.lst (iV (nZ ws)))/\ws.length=rs.length/\rs.length<=64/\(∀r∈rs,r.Ok rs.length)/\(∀w∈ws,w<3)/\∀t v H',KB [] H H'->H' t=some (.tup [.str (wd (lY bk rs ws)),v])->Q (.ref t) H'
theorem uS(T:Txt K mg)(F:HasFn K mg "_law_packed" bN ["program","book","widths"])(h_law_code:aq P w K mg base bq 2 "_law_code" ["lengths"] (nB K))(h_law_plain:aq P w K mg base bq 2 "_law_plain" ["row","codes"] (nN K))(h_law_goals:aq P w K mg base bq 1 "_law_goals" ["program"] se)(h_law_least:aq P w K mg base bq 2 "_law_least" ["sizes","goals","widths"] (tR K))(h_law_spots:aq P w K mg base bq 1 "_law_spots" ["sizes","goals","widths"] (ni K))(h_law_bits:aq P w K mg base bq 1 "_law_bits" ["number","many"] iE):aq P w K mg base bq 3 "_law_packed" ["program","book","widths"] (pQ K):=by
 refine F.gU aQ (λvs H Q E h=>?_) (λf cdv A outer s H vs Q E hr h=>?_)
 ·obtain⟨a,b,c,bk,rs,ws,rfl,_⟩:=h;rfl
 ·have hu:=bo hr;obtain⟨a,b,c,bk,rs,ws,rfl,hp,hb,hB,hc,h1,h2,h3,h4,q⟩:=h;have hC:=hB.cd;obtain⟨as,hb1,hb2,hb3⟩:=hb;have ebk:bk.length=3:=by obtain⟨_,_,_,e,_⟩:=hB;rw[e];rfl
  have hl:∀l∈bk,jl l/\nj l=true:=by obtain⟨_,_,_,e,_,_,_,h⟩:=hB;exact h
  refine⟨_,(Z.ai (Z.asg (Z.comp (osc:=ae bN) (ON:=["program","book","widths","codes","plain","goals","sizes","spots","bits","k","span","far"]) (own:=["lengths"]) (N:=["lengths","program","book","widths","codes","plain","goals","sizes","spots","bits","k","span","far"]) ⟨rfl,by decide +kernel,rfl,by decide +kernel,by decide +kernel,by decide +kernel,by decide +kernel,by decide +kernel⟩ rfl rfl rfl (Z.any K rfl (Z.v 1)) (λ_ _ _ _=>(Z.bp (i:=0) (show List.Nodup (["lengths","program","book","widths","codes","plain","goals","sizes","spots","bits","k","span","far"]:List Str) by decide +kernel) rfl (by right))) (λ_ _ _ _=>Z.sH) (λ_ _ _ _=>(Z.fn h_law_code (hr.mono (by decide)) rfl av (Z.cons (Z.v 0) Z.nil)))) (Z.bp (i:=3) aQ.nd rfl (by right)))
   (Z.ai (Z.setC (j:=4) aQ.nd rfl (by right) (osc:=ae bN) (ON:=["program","book","widths","codes","plain","goals","sizes","spots","bits","k","span","far"]) (own:=["row"]) (N:=["row","program","book","widths","codes","plain","goals","sizes","spots","bits","k","span","far"]) ⟨rfl,by decide +kernel,rfl,by decide +kernel,by decide +kernel,by decide +kernel,by decide +kernel,by decide +kernel⟩ rfl rfl rfl (Z.any K rfl (Z.v 0)) (λ_ _ _ _=>(Z.bp (i:=0) (show List.Nodup (["row","program","book","widths","codes","plain","goals","sizes","spots","bits","k","span","far"]:List Str) by decide +kernel) rfl (by right))) (λ_ _ _ _=>Z.sH) (λ_ _ _ _=>(Z.fn h_law_plain (hr.mono (by decide)) rfl av (Z.cons (Z.v 0) (Z.cons (Z.v 4) Z.nil)))))
   (Z.ai (Z.set (i:=5) aQ.nd rfl (by right) (Z.fn h_law_goals (hr.mono (by decide)) rfl av (Z.cons (Z.v 0) Z.nil)))
   (Z.ai (Z.setC (j:=6) aQ.nd rfl (by right) (osc:=ae bN) (ON:=["program","book","widths","codes","plain","goals","sizes","spots","bits","k","span","far"]) (own:=["text"]) (N:=["text","program","book","widths","codes","plain","goals","sizes","spots","bits","k","span","far"]) ⟨rfl,by decide +kernel,rfl,by decide +kernel,by decide +kernel,by decide +kernel,by decide +kernel,by decide +kernel⟩ rfl rfl rfl (Z.any K rfl (Z.v 4)) (λ_ _ _ _=>(Z.bp (i:=0) (show List.Nodup (["text","program","book","widths","codes","plain","goals","sizes","spots","bits","k","span","far"]:List Str) by decide +kernel) rfl (by right))) (λ_ _ _ _=>Z.sH) (λ_ _ _ _=>(Z.cb (Z.cw K rfl) rfl T.cf (by decide +kernel) (Z.cons (Z.v 0) Z.nil))))
   (Z.ai (Z.set (i:=2) aQ.nd rfl (by right) (Z.fn h_law_least (hr.mono (by decide)) rfl av (Z.cons (Z.v 6) (Z.cons (Z.v 5) (Z.cons (Z.v 2) Z.nil)))))
   (Z.ai (Z.set (i:=7) aQ.nd rfl (by right) (Z.fn h_law_spots (hr.mono (by decide)) rfl av (Z.cons (Z.v 6) (Z.cons (Z.v 5) (Z.cons (Z.v 2) Z.nil)))))
   (Z.ai (Z.set (i:=8) aQ.nd rfl (by right) Z.str)
   (Z.ai (Z.fQ J6 rfl (Z.k_ rfl T.cT (Z.cons (Z.cb (Z.cw K rfl) rfl T.cf (by decide +kernel) (Z.cons (Z.v 0) Z.nil)) Z.nil)) (Z.bp (i:=9) aQ.nd rfl (by right)) (Z.ai (Z.set (i:=8) aQ.nd rfl (by right) (Z.op (Z.aR K rfl) (Z.v 8) (Z.ix (Z.az K rfl hu) (Z.v 4) (Z.v 9))))
   (Z.aA (Z.d9 (Z.bf jv (Z.ix (Z.az K rfl hu) (Z.v 5) (Z.v 9)) Z.aT) (Z.ai (Z.set (i:=10) aQ.nd rfl (by right) (Z.ix (Z.az K rfl hu) (Z.lst (Z.consts rfl)) (Z.ix (Z.az K rfl hu) (Z.v 2) (Z.v 9))))
   (Z.ai (Z.set (i:=11) aQ.nd rfl (by right) (Z.op cA (Z.op bX (Z.ix (Z.az K rfl hu) (Z.v 7) (Z.ix (Z.az K rfl hu) (Z.v 5) (Z.v 9))) (Z.ix (Z.az K rfl hu) (Z.v 7) (Z.op (Z.aR K rfl) (Z.v 9) Z.int))) (Z.v 10)))
   (Z.aA (Z.set (i:=8) aQ.nd rfl (by right) (Z.op (Z.aR K rfl) (Z.op (Z.aR K rfl) (Z.v 8) (Z.ix (Z.az K rfl hu) (Z.lst (Z.consts rfl)) (Z.ix (Z.az K rfl hu) (Z.v 2) (Z.v 9)))) (Z.fn h_law_bits (hr.mono (by decide)) rfl av (Z.cons (Z.v 11) (Z.cons (Z.ix (Z.az K rfl hu) (Z.lst (Z.consts rfl)) (Z.ix (Z.az K rfl hu) (Z.v 2) (Z.v 9))) Z.nil)))))))) Z.bG))))
   (Z.aA (Z.ret (Z.tup (Z.cons (Z.v 8) (Z.cons (Z.ct (Z.dC K rfl) rfl T.dG (by decide +kernel) (Z.cons (Z.slice (Z.G_ K rfl) (Z.v 7) Z.yy (Z.qu (Z.un fK Z.int))) Z.nil)) Z.nil))))))))))))),?_⟩
  refine ar λN hN=>?_;exists ax hb1;refine cm (xs:=as.map V.ref) (IY (show _<=3 by rw[IP,hb2,ebk];exact IU 3) (by decide)) (λD i ys H'=>H D=none/\H' D=some (.lst ys)/\KB [] H H'/\∃cs:List Addr,ys=cs.map V.ref/\cs.length=i/\∀(j:Nat) (c:Addr),cs[j]?=some c->c≠D/\H' c=some (.lst (wV (wordsOf Cw.eK (bk.getD j []))))) (λD hD=>⟨hD,aa,KB.new hD,[],rfl,rfl,λj c e=>nomatch e⟩) (λD i ys H' h=>⟨h.2.1,by obtain⟨_,_,_,cs,rfl,e,_⟩:=h;rw[IP,e]⟩) (λD i ys H' h=>bu.of (h.2.2.1 _ _ hb1 (by simp))) ?_ ?_
  ·rintro D i ys H' x R hx ⟨g0,g1,g2,cs,rfl,g4,g5⟩ kk;obtain⟨u,eu,rfl⟩:∃u,as[i]?=some u/\x=.ref u:=by
    rw[I_] at hx;obtain⟨u,e,rfl⟩:=Jp.mp hx;exact⟨u,e,rfl⟩
   have hi:i<bk.length:=by have:=(IQ.mp eu).1;lia
   have hm:bk.getD i []∈bk:=by rw[Jc,IJ hi];exact Ji hi
   walk_at "rz";refine⟨u,_,rfl,g2 _ _ (hb3 i u eu) (by simp),(hl _ hm).1,(hl _ hm).2,λc H5 c0 k5 e5=>?_⟩
   have gD:=k5 _ _ g1 (by simp)
   have cD:c≠D:=λz=>by rw[z,g1] at c0;cases c0
   refine kk _ _ gD ⟨g0,aa,λu o e _=>by rw[af (ao e g0)];exact k5 _ _ (g2 _ _ e (by simp)) (by simp),cs++[c],by rw[Jm];rfl,by rw[IL,g4];rfl,λj d e=>?_⟩
   rcases JL j cs.length with hj|hj
   ·rw[Jx hj] at e;obtain⟨q2,q3⟩:=g5 j d e;exact⟨q2,by rw[af q2];exact k5 _ _ q3 (by simp)⟩
   ·rw[Jk hj] at e;obtain⟨hj2,rfl⟩:=IQ.mp e;have:j=i:=by simp at hj2;lia
    subst this;simp only[g4,JP,Lp];exact⟨cD,by rw[af cD];exact e5⟩
  rintro ca ys H1 ⟨g0,g1,g2,cs,rfl,g4,g5⟩;rw[IP,hb2,ebk] at g4;obtain⟨c0,c1,c2,rfl⟩:=pZ g4;have cdl:HF H1 ca (a_ bk):=by
   obtain⟨l0,l1,l2,rfl⟩:=pZ ebk;exact⟨c0,c1,c2,g1,(g5 0 c0 rfl).2,(g5 1 c1 rfl).2,(g5 2 c2 rfl).2⟩
  show N _ _;rw[hN];clear hN N;clear g5 g4 g1 hb1 hb2 hb3 hl g0 ebk;have hp1:=hp.kb g2;unfold lY at q;generalize a_ bk=cd at *;refine ar λN hN=>?_;obtain⟨ps,hps,hpa⟩:=hp1;have hpl:=hpa.1;exists ax hps;refine cm (xs:=ps.map V.ref) (IY (show _<=64 by rw[IP];lia) (by decide)) (λD i ys H'=>H1 D=none/\H' D=some (.lst ys)/\KB [] H1 H'/\ys=hV cd (rs.take i)/\i<=rs.length) (λD hD=>⟨hD,aa,KB.new hD,rfl,Jj _⟩) (λD i ys H' h=>⟨h.2.1,by rw[h.2.2.2.1,hV,IP,Jn];have:=h.2.2.2.2;lia⟩) (λD i ys H' h=>bu.of (h.2.2.1 _ _ hps (by simp))) ?_ ?_
  ·rintro D i ys H' x R hx ⟨g0,g1,gk,rfl,hi⟩ kk;obtain⟨u,eu,rfl⟩:∃u,ps[i]?=some u/\x=.ref u:=by
    rw[I_] at hx;obtain⟨u,e,rfl⟩:=Jp.mp hx;exact⟨u,e,rfl⟩
   have hlt:i<rs.length:=by have:=(IQ.mp eu).1;lia
   have er:=IJ hlt;have et:rs.take (i+1)=rs.take i++[rs[i]]:=by rw[KO,er];rfl
   walk_at "rz";refine⟨u,ca,rs[i],rs.length,cd,rfl,gk _ _ (hpa.2 i u _ eu er) (by simp),?_,h3 _ (Ji hlt),hC,λH5 k5=>?_⟩
   ·obtain⟨x0,x1,x2,y1,y2,y3,y4⟩:=cdl;exact⟨x0,x1,x2,gk _ _ y1 (by simp),gk _ _ y2 (by simp),gk _ _ y3 (by simp),gk _ _ y4 (by simp)⟩
   ·exact kk _ _ (k5 _ _ g1 (by simp)) ⟨g0,aa,λu o e _=>by rw[af (ao e g0)];exact k5 _ _ (gk _ _ e (by simp)) (by simp),by rw[et];unfold hV;rw[Jm];rfl,hlt⟩
  rintro pl ys H2 ⟨_,gp,k2,rfl,_⟩;rw[IP,hpl,Ke] at gp;show N _ _;rw[hN];clear hN N;have k02:=g2.trans k2;clear cdl hps hpa hpl g2 k2;refine ar λN hN=>?_;walk_at "rz";refine⟨a,rs,rfl,hp.kb k02,h2,λga H3 hga k3 gg=>?_⟩;rw[hN];clear hN N;have k03:=k02.trans k3;have gp3:=k3 _ _ gp (by simp)
  refine ar λN hN=>?_;exists au gp3;refine jB (xs:=hV cd rs) (IY (show _<=64 by rw[hV,IP];exact h2) (by decide)) (λD i ys H'=>H3 D=none/\H' D=some (.lst ys)/\KB [] H3 H'/\ys=iV (nZ (iJ cd (rs.take i)))/\i<=rs.length) (λD hD=>⟨hD,aa,KB.new hD,rfl,Jj _⟩) (λD i ys H' h=>⟨h.2.1,by rw[h.2.2.2.1,bM,iJ,IP,Jn];have:=h.2.2.2.2;lia⟩) (λD i ys H' h=>ck.of (h.2.2.1 _ _ gp3 (by simp))) ?_ ?_
  ·rintro D i ys H' x R hx ⟨g0,g1,gk,rfl,hi⟩ kk;have hlt:i<rs.length:=by have:=(IQ.mp hx).1;rw[hV,IP] at this;exact this
   have er:=IJ hlt;have et:rs.take (i+1)=rs.take i++[rs[i]]:=by rw[KO,er];rfl
   have ex:x=.str (wd (bK cd rs[i])):=by
    unfold hV at hx;rw[I_,er] at hx;exact (Option.some.inj hx).symm
   subst ex;have h136:=eX hC (h3 _ (Ji hlt));exists aO;exact⟨IY h136 (by decide),kk _ _ g1 ⟨g0,aa,λu o e _=>by rw[af (ao e g0)];exact gk _ _ e (by simp),by rw[et];unfold iJ nZ iV;rw[Jm,Jm,Jm];rfl,hlt⟩⟩
  rintro sa ys H4 ⟨_,gsz,k4,rfl,_⟩;rw[show (hV cd rs).length=rs.length from IP ..,Ke] at gsz;show N _ _;rw[hN];clear hN N;have k04:=k03.trans k4;have gg4:=k4 _ _ gg (by simp)
  have gp4:=k4 _ _ gp3 (by simp)
  have sl1:(iJ cd rs).length=rs.length:=IP ..;have gl1:(rs.map aP).length=rs.length:=IP ..;have sb:∀s∈iJ cd rs,s<=150:=λs hs=>by
   obtain⟨r,hr',rfl⟩:=JD.mp hs;have:=eX hC (h3 r hr');lia
  have gb:∀t,some t∈rs.map aP->t<=(iJ cd rs).length:=λt ht=>by
   obtain⟨r,hr',e⟩:=JD.mp ht;rw[sl1];exact jw (h3 r hr') e
  clear gp gp3 gg k02 k03 k3 k4;refine ar λN hN=>?_;walk_at "rz";refine⟨sa,ga,c,iJ cd rs,rs.map aP,ws,rfl,gsz,gg4,k04 _ _ hc (by simp),by rw[gl1,sl1],by rw[h1,sl1],by rw[sl1];exact h2,gb,h4,λwa H5 _ k5 g5=>?_⟩
  rw[hN];clear hN N;have wl:=tO (iJ cd rs) (rs.map aP) ws;have wt:=qj (ss:=iJ cd rs) (gs:=rs.map aP) h4;rw[h1] at wl;generalize mQ (iJ cd rs) (rs.map aP) ws=w' at *;refine ar λN hN=>?_;walk_at "rz";refine⟨sa,ga,wa,iJ cd rs,rs.map aP,w',rfl,k5 _ _ gsz (by simp),k5 _ _ gg4 (by simp),g5,by rw[gl1,sl1],by rw[wl,sl1],by rw[sl1];exact h2,wt,λpa H6 _ k6 g6=>?_⟩
  rw[hN];clear hN N;have spl:=ib (iJ cd rs) (rs.map aP) w' 0 (by rw[gl1,sl1]) (by rw[wl,sl1])
  rw[sl1] at spl;generalize h_ 0 (iJ cd rs) (rs.map aP) w'=sp at *;have k56:=k5.trans k6;have k06:=k04.trans k56;have gp6:=k56 _ _ gp4 (by simp)
  have gg6:=k56 _ _ gg4 (by simp)
  have gw6:=k6 _ _ g5 (by simp)
  clear k56 gp4 gg4 g5 k5 k6 gsz k04 sb gb;refine ar λN hN=>?_;walk_at "rz";rw[hN];clear hN N;refine ar λN hN=>?_;obtain⟨as2,ha2,hpa2⟩:=hp.kb k06;have hpl2:=hpa2.1;exists ax ha2,IP,hpl2;refine⟨by lia,by lia,?_⟩
  rw[Jw];refine bY (λi σ H'=>∃(x:List Nat) (o9 o10 o11:Option V),KB [] H6 H'/\x++nS cd sp i (rs.drop i) (w'.drop i)=nS cd sp 0 rs w'/\x.length<=200*i/\σ=[some (.ref a),some (.ref b),some (.ref wa),some (.ref ca),some (.ref pl),some (.ref ga),some (.ref sa),some (.ref pa),some (.str (wd x)),o9,o10,o11]) ⟨[],none,none,none,KB.refl _ _,rfl,Jj _,by rw[<- mI]⟩ ?_ ?_
  ·rintro i σ H' hlt ⟨x,o9,o10,o11,hk,ex,hx,rfl⟩;rw[show (0:Int)+((i:Nat):Int)=(i:Int) from Int.zero_add _];have er:=IJ hlt;have ew:=IJ (show i<w'.length by lia)
   have lw:=wt _ (Ji (show i<w'.length by lia))
   have okr:=h3 _ (Ji hlt);rw[JK hlt,JK (show i<w'.length by lia),nS] at ex
   generalize rs[i]'_=r at *;generalize w'[i]'_=w0 at *;have ap:bU (hV cd rs) (i:Int)=some (.str (wd (bK cd r))):=b7 (by unfold hV;rw[I_,er];rfl)
   have ag:bU ((rs.map aP).map cx) (i:Int)=some (cx (aP r)):=b7 (by rw[I_,I_,er];rfl)
   have aw:bU (iV (nZ w')) (i:Int)=some (.int (w0:Nat)):=b7 (by unfold iV nZ;rw[KW,I_,ew];rfl)
   have h136:=eX hC okr;have gpH:=au (hk _ _ gp6 (by simp))
   have ggH:=au (hk _ _ gg6 (by simp))
   unfold bC;refine ar λM hM=>?_;exists gpH,ap;rw[dR,aO,aO];refine⟨IY (show _<=20000 by lia) (by decide),?_⟩
   rw[hM];clear hM M;dsimp only;refine pz λM hM=>?_;have fin:∀(G:Hp) (o10 o11:Option V),KB [] H6 G->(uM sp i w0 (aP r)).length<=18->M [some (.ref a),some (.ref b),some (.ref wa),some (.ref ca),some (.ref pl),some (.ref ga),some (.ref sa),some (.ref pa),some (.str (wd (x++bK cd r++uM sp i w0 (aP r)))),some (.int (i:Int)),o10,o11] G:=λG o10 o11 g1 hj=>by
    rw[hM];exact⟨_,_,o10,o11,g1,by rw[<- ex];simp,by rw[IL,IL];lia,rfl⟩
   clear hM ex;refine zC λA B hA hB=>?_;exists ggH,ag
   cases eg:aP r with
   |none =>
    rw[eg] at fin;rw[IT (show ¬ ¬ cx none=V.aT from λz=>z rfl),hB];have:=fin H' o10 o11 hk (Jj _);rw[show uM sp i w0 none=[] from rfl,JE] at this;exact this
   |some g =>
    rw[eg] at fin ag;rw[IW (show ¬ cx (some g)=V.aT from λz=>nomatch z),hA];clear hA hB;have hg:g<=rs.length:=jw okr eg;have as1:=rW (l:=sp) (i:=g) (by lia)
    have as2:bU (iV (nZ sp)) ((i:Int)+1)=some (.int ((sp.getD (i+1) 0:Nat):Int)):=rW (l:=sp) (i:=i+1) (by lia)
    have p1:bU [V.int 16,.int 256,.int 65536] (w0:Int)=some (.int (2^aS w0)):=by rcases j4 lw with rfl|rfl|rfl<;>rfl
    have p2:=pF lw;have p3:bU [V.int 4,.int 8,.int 16] (w0:Int)=some (.int ((aS w0:Nat):Int)):=by rcases j4 lw with rfl|rfl|rfl<;>rfl
    have p4:0<aS w0/\aS w0<=16/\(cH w0).length<=2:=by rcases j4 lw with rfl|rfl|rfl<;>decide
    refine ar λM3 hM3=>?_;walk_at "rz";refine⟨by decide,λl1 hl1=>?_⟩
    have k7:=KB.new (ex:=[]) (o:=.lst [.int 16,.int 256,.int 65536]) hl1;have s7:upd H' l1 (.lst [.int 16,.int 256,.int 65536]) l1=_:=aa;exists au (k7 _ _ (hk _ _ gw6 (by simp)) (by simp)),aw,au s7,p1
    have hk7:=hk.trans k7;clear s7;generalize upd H' l1 (.lst [.int 16,.int 256,.int 65536])=H7 at *;rw[hM3];clear hM3 M3;refine ar λM3 hM3=>?_;have ag':bU ((rs.map aP).map cx) (i:Int)=some (.int (g:Nat)):=ag;exists au (hk7 _ _ gg6 (by simp)),ag',au (hk7 _ _ g6 (by simp)),as1,as2
    refine⟨MW (by decide),?_⟩
    rw[hM3];clear hM3 M3;walk_at "rz";refine⟨by decide,λl2 hl2=>?_⟩
    have k8:=KB.new (ex:=[]) (o:=.lst [.str (Str.ofString "0"),.str (Str.ofString "10"),.str (Str.ofString "11")]) hl2;have s8:upd H7 l2 (.lst [.str (Str.ofString "0"),.str (Str.ofString "10"),.str (Str.ofString "11")]) l2=_:=aa;exists au (k8 _ _ (hk7 _ _ gw6 (by simp)) (by simp)),aw,au s8,p2
    have hk8:=hk7.trans k8;clear s8;generalize upd H7 l2 (.lst [.str (Str.ofString "0"),.str (Str.ofString "10"),.str (Str.ofString "11")])=H8 at *;have hxl:(x++bK cd r).length<=13000:=by rw[IL];lia
    have ll:(bw (fF sp g i) (aS w0) []).length=aS w0:=by rw[dc];rfl
    rw[aO,aO];refine⟨IY (show _<=20000 by lia) (by decide),by decide,λl3 hl3=>?_⟩
    have k9:=KB.new (ex:=[]) (o:=.lst [.int 4,.int 8,.int 16]) hl3;have s9:upd H8 l3 (.lst [.int 4,.int 8,.int 16]) l3=_:=aa;exists au (k9 _ _ (hk8 _ _ gw6 (by simp)) (by simp)),aw,au s9,p3
    refine⟨_,aS w0,rfl,by lia,?_⟩
    rw[mq,dR];walk_at "rz";rw[dR,aO,aO];have hfin:=fin (upd H8 l3 (.lst [.int 4,.int 8,.int 16])) (some (.int (2^aS w0))) (some (.int ((((sp.getD g 0:Nat):Int)-((sp.getD (i+1) 0:Nat):Int)) % 2^aS w0))) (hk8.trans k9) (by show (dX w0 (fF sp g i)).length<=18;unfold dX;rw[IL,ll];lia)
    rw[show x++bK cd r++uM sp i w0 (some g)=x++bK cd r++cH w0++bw (((sp.getD g 0:Nat):Int)-((sp.getD (i+1) 0:Nat):Int)) (aS w0) [] by show x++bK cd r++(cH w0++bw (fF sp g i) (aS w0) [])=_;rw[Jl (x++bK cd r)];rfl] at hfin
    exact⟨IY (show _<=20000 by rw[IL];unfold fF at ll;lia) (by decide),hfin⟩
  ·rintro σ H' ⟨x,o9,o10,o11,hk,ex,hx,rfl⟩;show N _ _;rw[hN];clear hN N;rw[KZ] at ex;have ex':x=nS cd sp 0 rs w':=by rw[<- ex];unfold nS;exact (JE x).symm
   exists au (hk _ _ g6 (by simp))
   intro q1 hq1 l2 hl2;refine⟨by decide,λt ht=>?_⟩
   rw[<- ex'] at q;exact q t _ _ (k06.trans (hk.trans ((KB.new hq1).trans ((KB.new hl2).trans (KB.new ht))))) aa
theorem jI{B:kJ}(l:List Int):cX K H B (iV l) (l.map T.int):=by
 induction l with
 |nil=>exact .nil
 |cons x l ih=>exact .cons (.int x) ih
theorem BG(x:Int):Y.Cr (.int x) (.int x)=true:=by unfold Y.Cr;exact Jt rfl
theorem mN(n:Nat)(x:Int):nT n (.int x) (.int x) true:=by
 have:=nT.flat (n:=n) (t:=.int x) (u:=.int x) rfl rfl
 rwa [BG] at this
theorem rX(n:Nat)(x:Str):nT n (.str x) (.str x) true:=by
 have:=nT.flat (n:=n) (t:=.str x) (u:=.str x) rfl rfl
 rwa [show Y.Cr (.str x) (.str x)=true from by unfold Y.Cr;exact Jt rfl] at this
theorem all_true(n:Nat):jN n n (λ_=>true)=true:=iU rfl λ_ _=>rfl
theorem jY(n:Nat)(l:List Int):nT (n+1) (.tup (l.map T.int)) (.tup (l.map T.int)) true:=by
 have:=nT.tup (n:=n) (xs:=l.map T.int) (ys:=l.map T.int) (λ_=>true) λj x y h1 h2=>by
  rw[h1] at h2;cases h2;rw[I_] at h1;obtain⟨k,_,rfl⟩:=Jp.mp h1;exact mN n k
 rwa [all_true] at this
structure Tl where
 how:Str
 told:List Int
 rd:Int
 bs:List Int
noncomputable def cB(cd:List (List (List Nat)))(z:List Nat)(c:BS):Tl:=⟨fS cd z c,c.st.told,c.rd,c.st.bs⟩
noncomputable def qe(H:Hp)(v:V)(x:Tl):Prop:=∃t p1 p2,v=.ref t/\H t=some (.tup [.str x.how,.ref p1,.int x.rd,.ref p2])/\H p1=some (.tup (iV x.told))/\H p2=some (.tup (iV x.bs))
theorem EC.tl{v:V}{cd:List (List (List Nat))}{c:BS}(h:EC H v cd z c):qe H v (cB cd z c):=h
theorem qe.keep{v:V}{x:Tl}(h:qe H v x)(k:KB ex H H')(hx:NT ex H):qe H' v x:=by
 obtain⟨t,p1,p2,e,a1,a2,a3⟩:=h;exact⟨t,p1,p2,e,k _ _ a1 λz=>hx _ z _ a1,k _ _ a2 λz=>hx _ z _ a2,k _ _ a3 λz=>hx _ z _ a3⟩
theorem qe.kb{v:V}{x:Tl}(h:qe H v x)(k:KB [] H H'):qe H' v x:=h.keep k (NT.nil _)
noncomputable def no:kJ:=λ_=>False
theorem nL{b:Addr}{vs ws:List V}{xs:List T}(ha:H a=some (.tup vs))(hb:H b=some (.tup ws))(r1:cX K H no vs xs)(r2:cX K H no ws xs)(he:∀x∈xs,nT 4 x x true)(q:Q (.bl (!neg)) H):Y.qo K 4 neg (.ref a) (.ref b) H Q:=by
 refine⟨no,a,b,vs,ws,xs,xs,λ_=>true,rfl,rfl,.inl ⟨bu.of ha,bu.of hb⟩,r1,r2,λj x y h1 h2=>?_,?_⟩
 ·rw[h1] at h2;cases h2;exact he x (JF h1)
 ·rw[all_true]
  cases neg<;>exact q
theorem nr{b:Addr}{l:List Int}(ha:H a=some (.tup (iV l)))(hb:H b=some (.tup (iV l)))(q:Q (.bl (!neg)) H):Y.qo K 4 neg (.ref a) (.ref b) H Q:=nL ha hb (jI l) (jI l) (λx hx=>by
 obtain⟨k,_,rfl⟩:=JD.mp hx;exact mN 4 k) q
theorem gz{p:Addr}{l:List Int}(h:H p=some (.tup (iV l))):Rep K H no (.ref p) (.tup (l.map T.int)):=.tup (λz=>z) h (jI l)
theorem xU{v u:V}{x:Tl}(h1:qe H v x)(h2:qe H u x)(q:Q (.bl (!neg)) H):Y.qo K 4 neg v u H Q:=by
 obtain⟨t,p1,p2,rfl,a1,a2,a3⟩:=h1;obtain⟨t',p1',p2',rfl,b1,b2,b3⟩:=h2;refine nL a1 b1 (xs:=[.str x.how,.tup (x.told.map T.int),.int x.rd,.tup (x.bs.map T.int)]) (.cons (.str _) (.cons (gz a2) (.cons (.int _) (.cons (gz a3) .nil)))) (.cons (.str _) (.cons (gz b2) (.cons (.int _) (.cons (gz b3) .nil)))) (λy hy=>?_) q;simp only[IX,Js,JT] at hy;rcases hy with rfl|rfl|rfl|rfl
 ·exact rX _ _
 ·exact jY _ _
 ·exact mN _ _
 ·exact jY _ _
noncomputable def tH:Sp:=λvs H Q _=>∃(b ga:Addr) (bk:List (List Int)) (z:List Nat) (g:List Int) (most:Nat),vs=[.str (wd z),.ref b,.ref ga,.int (most:Nat)]/\qc H b bk/\Bk bk/\H ga=some (.tup (iV g))/\g.length<=100/\cY z/\z.length<=1000000/\most<=1000/\∀H',KB [] H H'->Q (.bl true) H'
theorem Cv(g:List Int)(m:Nat)(h:i<m):(g++List.replicate (max 0 ((m:Int)-(g.length:Int))).toNat 0++[5,6,7])[i]?=some (g[i]?.getD 0):=by
 have hl:(max 0 ((m:Int)-(g.length:Int))).toNat=m-g.length:=by lia
 rw[hl,Jl];rcases JL i g.length with c|c
 ·rw[Jx c,IJ c];rfl
 ·rw[Jk c,Jx (by rw[Je];lia),LX,IW (by lia),List.getElem?_eq_none c];rfl
theorem zp(T:Txt K mg)(F:HasFn K mg "_law_stays" dI ["bits","book","given","most"])(hrun_bits:aq P w K mg base bq 7 "run_bits" ["bits","book","given","most"] (ja K)):aq P w K mg base bq 8 "_law_stays" ["bits","book","given","most"] tH:=by
 refine F.gU gT (λvs H Q E h=>?_) (λf cdv A outer s H vs Q E hr h=>?_)
 ·obtain⟨b,ga,bk,z,g,most,rfl,_⟩:=h;rfl
 ·have hu:=bo hr;obtain⟨b,ga,bk,z,g,most,rfl,hb,hB,hg,hgl,hz,hzl,hm,q⟩:=h;refine⟨_,(Z.ai (Z.set (i:=4) gT.nd rfl (by right) (Z.op (Y.sj K rfl) (Z.v 2) (Z.op (AJ K rfl) (Z.tup (Z.cons Z.int Z.nil)) (Z.cb (uT rfl) rfl T.Fn (by decide +kernel) (Z.cons Z.int (Z.cons (Z.op bX (Z.v 3) (Z.cb (Z.cw K rfl) rfl T.cf (by decide +kernel) (Z.cons (Z.v 2) Z.nil))) Z.nil))))))
   (Z.aA (Z.ret (Z.cmp (Y.mS K rfl (gY hr)) (Z.fn hrun_bits (hr.mono (by decide)) rfl av (Z.cons (Z.v 0) (Z.cons (Z.v 1) (Z.cons (Z.op (Y.sj K rfl) (Z.v 4) (Z.tup (Z.consts rfl))) (Z.cons (Z.v 3) Z.nil))))) (Z.fn hrun_bits (hr.mono (by decide)) rfl av (Z.cons (Z.v 0) (Z.cons (Z.v 1) (Z.cons (Z.v 2) (Z.cons (Z.v 3) Z.nil))))))))),?_⟩
  refine ar λN hN=>?_;walk_at "rz";refine⟨by decide,λp1 hp1=>?_⟩
  have k1:=KB.new (ex:=[]) (o:=.tup [.int 0]) hp1;have s1:upd H p1 (.tup [.int 0]) p1=some (.tup [.int 0]):=aa;generalize upd H p1 (.tup [.int 0])=H1 at *;have hg1:=k1 _ _ hg (by simp)
  exists ax hg1,bA;obtain⟨d,ed⟩:∃d:Int,d=(if (most:Int)-(g.length:Int) > 0 then (most:Int)-(g.length:Int) else 0):=⟨_,rfl⟩
  rw[<- ed];have hd:d=max 0 ((most:Int)-(g.length:Int)):=by rw[ed];split<;>lia
  clear ed;have er:(List.replicate d.toNat [V.int 0]).flatten=iV (List.replicate d.toNat 0):=by
   unfold iV;rw[K8];generalize d.toNat=m
   induction m with
   |zero=>rfl
   |succ m ih=>rw[J9,Kl,ih];rfl
  have fin:∀(u:Addr) (G:Hp),KB [] H G->G u=some (.tup (iV (List.replicate d.toNat 0)))->Y.Ca K (.ref ga) (.ref u) G λx H1=>N [some (.str (wd z)),some (.ref b),some (.ref ga),some (.int (most:Nat)),some x] H1:=λu G kG gu=>by
   have hgG:=kG _ _ hg (by simp)
   have ig:∀(x:Addr) (G2:Hp),KB [] H G2->G2 x=some (.tup (iV (g++List.replicate d.toNat 0)))->N [some (.str (wd z)),some (.ref b),some (.ref ga),some (.int (most:Nat)),some (.ref x)] G2:=λx G2 kG2 gx=>by
    rw[hN];clear hN N;walk_at "rz";refine⟨by decide,λc hc=>?_⟩
    have k3:=KB.new (ex:=[]) (o:=.tup [.int 5,.int 6,.int 7]) hc;have s3:upd G2 c (.tup [.int 5,.int 6,.int 7]) c=some (.tup (iV [5,6,7])):=aa;have gx3:=k3 _ _ gx (by simp)
    have kG3:=kG2.trans k3;generalize upd G2 c (.tup [.int 5,.int 6,.int 7])=G3 at *;have lj:∀(y:Addr) (G4:Hp),KB [] H G4->G4 y=some (.tup (iV (g++List.replicate d.toNat 0++[5,6,7])))->ja K [.str (wd z),.ref b,.ref y,.int (most:Nat)] G4 (λy H2=>ja K [.str (wd z),.ref b,.ref ga,.int (most:Nat)] H2 (λy_1 H3=>Y.GC K y y_1 H3 Q) E0) E0:=λy G4 k4 gy=>by
     have hR:=(fZ hB).1;refine⟨b,y,bk,z,_,most,rfl,hb.kb k4,gy,hB,hR,hz,hzl,by lia,λv1 G5 k5 o1=>?_⟩
     refine⟨b,ga,bk,z,g,most,rfl,hb.kb (k4.trans k5),(k4.trans k5) _ _ hg (by simp),hB,hR,hz,hzl,by lia,λv2 G6 k6 o2=>.inr ?_⟩
     obtain⟨e1,e2,e3,e4⟩:=oO (cd:=a_ bk) (z:=z) (g:=g) (w:=g++List.replicate d.toNat 0++[5,6,7]) (most:=most) (λi hi=>by rw[hd];exact Cv g most hi)
     have t1:qe G6 v1 (cB (a_ bk) z (aH (a_ bk) z most (gQ g))):=by
      have t:qe G5 v1 (cB (a_ bk) z (aH (a_ bk) z most (gQ (g++List.replicate d.toNat 0++[5,6,7])))):=o1;have e:cB (a_ bk) z (aH (a_ bk) z most (gQ g))=cB (a_ bk) z (aH (a_ bk) z most (gQ (g++List.replicate d.toNat 0++[5,6,7]))):=by
       unfold cB;rw[e1,e2,e4,ED e3]
      rw[e];exact t.kb k6
     exact xU t1 o2.tl (q _ (k4.trans (k5.trans k6)))
    by_cases c0:g++List.replicate d.toNat 0=[]
    ·refine .inr (.inr (.inr ⟨x,c,_,_,rfl,rfl,bu.of gx3,bu.of s3,IY (show _<=2000 by rw[bA,bA,IL,Je];simp;lia) (by decide),λ_=>?_,λe=>absurd (by rw[c0];rfl) e,λe=>absurd (by rw[c0];rfl) e⟩))
     exact lj c G3 kG3 (by rw[c0];exact s3)
    ·refine .inr (.inr (.inr ⟨x,c,_,_,rfl,rfl,bu.of gx3,bu.of s3,IY (show _<=2000 by rw[bA,bA,IL,Je];simp;lia) (by decide),λe=>absurd (MO.mp e) c0,(λ_ e=>absurd e (by simp[iV])),λ_ _ y hy=>?_⟩))
     exact lj y _ (kG3.trans (KB.new hy)) (by rw[aa,<- fJ])
   refine .inr (.inr (.inr ⟨ga,u,_,_,rfl,rfl,bu.of hgG,bu.of gu,IY (show _<=2000 by rw[bA,bA,Je];lia) (by decide),λe=>?_,λ_ e=>?_,λ_ _ y hy=>?_⟩))
   ·exact ig u G kG (by rw[MO.mp e];exact gu)
   ·exact ig ga G kG (by rw[MO.mp e,JE];exact hgG)
   ·exact ig y _ (kG.trans (KB.new hy)) (by rw[aa,fJ])
  refine⟨p1,d,_,rfl,rfl,bu.of s1,by simp,(show 1<=1000 by decide),by lia,by lia,λe=>?_,λ_ u hu=>?_⟩
  ·exact fin p1 H1 k1 (by rw[e];exact s1)
  ·exact fin u _ (k1.trans (KB.new hu)) (by rw[aa,er])
noncomputable def pY:Sp:=λvs H Q _=>∃(b ga:Addr) (bk:List (List Int)) (z:List Nat) (g:List Int) (most more:Nat),vs=[.str (wd z),.ref b,.ref ga,.int (most:Nat),.int (more:Nat)]/\qc H b bk/\Bk bk/\H ga=some (.tup (iV g))/\cY z/\z.length<=1000000/\most<=1000/\more<=1000/\0<more/\∀H',KB [] H H'->Q (.bl true) H'
theorem m6{lo hi:Option Int}(h:H a=some (.tup xs))(q1:eW xs lo hi=xs->Q (.ref a) H)(q2:∀p,H p=none->Q (.ref p) (upd H p (.tup (eW xs lo hi)))):Y.Ei K (.ref a) lo hi H Q:=by
 by_cases z:HT.bP xs.length 0 lo=0/\HT.bP xs.length xs.length hi=xs.length
 ·exact .inr (.inr ⟨a,xs,rfl,bu.of h,z.1,z.2,q1 (by unfold eW;rw[z.1,z.2,M9,Kj,Ke])⟩)
 ·exact .inr (.inl ⟨a,xs,rfl,bu.of h,z,q2⟩)
theorem kC(xs:List V)(n:Nat):eW xs none (some (n:Int))=xs.take n:=by
 unfold eW;rw[HT.fU,HT.fo,Kj,M9];rcases Nat.le_total n xs.length with c|c
 ·rw[NC c]
 ·rw[Nat.min_eq_right c,Ke,JR c]
theorem zH{xs ys:List Int}(h:xs <+: ys):eW (iV ys) none (some (xs.length:Int))=iV xs:=by
 obtain⟨r,rfl⟩:=h;rw[kC,fJ];have:(iV xs).length=xs.length:=bA xs;rw[<- this,LW]
theorem uL(T:Txt K mg)(F:HasFn K mg "_law_goes_on" cR ["bits","book","given","most","more"])(hrun_bits:aq P w K mg base bq 7 "run_bits" ["bits","book","given","most"] (ja K)):aq P w K mg base bq 8 "_law_goes_on" ["bits","book","given","most","more"] pY:=by
 refine F.gU d6 (λvs H Q E h=>?_) (λf cdv A outer s H vs Q E hr h=>?_)
 ·obtain⟨b,ga,bk,z,g,most,more,rfl,_⟩:=h;rfl
 ·have hu:=bo hr;obtain⟨b,ga,bk,z,g,most,more,rfl,hb,hB,hg,hz,hzl,hm,hm2,hm0,q⟩:=h;have hR:=(fZ hB).1;refine⟨_,(Z.ai (Z.set (i:=5) d6.nd rfl (by right) (Z.fn hrun_bits (hr.mono (by decide)) rfl av (Z.cons (Z.v 0) (Z.cons (Z.v 1) (Z.cons (Z.v 2) (Z.cons (Z.v 3) Z.nil))))))
   (Z.ai (Z.set (i:=6) d6.nd rfl (by right) (Z.fn hrun_bits (hr.mono (by decide)) rfl av (Z.cons (Z.v 0) (Z.cons (Z.v 1) (Z.cons (Z.v 2) (Z.cons (Z.op (Z.aR K rfl) (Z.v 3) (Z.v 4)) Z.nil))))))
   (Z.ai (Z.d9 (Z.bf rg (Z.ix (Z.az K rfl hu) (Z.v 5) Z.int) Z.str) (Z.aA (Z.ret (Z.cmp (Y.mS K rfl (gY hr)) (Z.v 6) (Z.v 5)))) Z.bG)
   (Z.aA (Z.ret (Z.and (Z.cmp (Y.mS K rfl (gY hr)) (Z.slice (Y.Ai K rfl) (Z.ix (Z.az K rfl hu) (Z.v 6) Z.int) Z.yy (Z.qu (Z.cb (Z.cw K rfl) rfl T.cf (by decide +kernel) (Z.cons (Z.ix (Z.az K rfl hu) (Z.v 5) Z.int) Z.nil)))) (Z.ix (Z.az K rfl hu) (Z.v 5) Z.int)) (Z.one (Z.cmp wR (Z.ix (Z.az K rfl hu) (Z.v 6) Z.int) (Z.ix (Z.az K rfl hu) (Z.v 5) Z.int))))))))),?_⟩
  refine ar λN hN=>?_;walk_at "rz";refine⟨b,ga,bk,z,g,most,rfl,hb,hg,hB,hR,hz,hzl,by lia,λv1 H1 k1 o1=>?_⟩
  rw[hN];clear hN N;refine ar λN hN=>?_;walk_at "rz";refine⟨b,ga,bk,z,g,most+more,rfl,hb.kb k1,k1 _ _ hg (by simp),hB,hR,hz,hzl,by lia,λv2 H2 k2 o2=>?_⟩
  rw[hN];clear hN N;have t1:qe H2 v1 (cB (a_ bk) z (aH (a_ bk) z most (gQ g))):=o1.tl.kb k2;have t2:qe H2 v2 (cB (a_ bk) z (aH (a_ bk) z (most+more) (gQ g))):=o2;rw[lW] at t2;generalize aH (a_ bk) z most (gQ g)=c at *;clear o1 o2;have t1':=t1;obtain⟨t,p1,p2,rfl,a1,a2,a3⟩:=t1;refine ar λN hN=>?_;refine zC λA B hA hB'=>?_;exists ax a1,kD;by_cases hw:fS (a_ bk) z c="more"
  ·rw[IT (show ¬ ¬ (cB (a_ bk) z c).how="more" from λz=>z hw),hB'];show N _ _;rw[hN];clear hN N hA hB' A B;obtain⟨t',p1',p2',rfl,b1,b2,b3⟩:=t2;obtain⟨u1,_,u3⟩:=qa (z:=z) hR more c;have u3':=u3 hm0 (zq hw);generalize aH (a_ bk) z more c=c' at *;exists ax a1,ax b1,jt,BB,ax a2,ax b2,bA;have u3'':(cB (a_ bk) z c).rd<(cB (a_ bk) z c').rd:=u3';have ec:eW (iV (cB (a_ bk) z c').told) none (some ((cB (a_ bk) z c).told.length:Int))=iV (cB (a_ bk) z c).told:=zH u1;refine m6 b2 (λe=>?_) (λx hx=>?_)
   ·rw[ec] at e;rw[<- e] at b2;exists ax a1,jt;refine .inr (nr b2 a2 ⟨true,rfl,?_⟩);exists ax a1,ax b1,BB,Jt u3'';exact q _ (k1.trans k2)
   ·rw[ec];have k3:=KB.new (ex:=[]) (o:=.tup (iV (cB (a_ bk) z c).told)) hx;have s3:upd H2 x (.tup (iV (cB (a_ bk) z c).told)) x=_:=aa;generalize upd H2 x (.tup (iV (cB (a_ bk) z c).told))=H3 at *;have a1':=k3 _ _ a1 (by simp)
    exists ax a1',jt;refine .inr (nr s3 (k3 _ _ a2 (by simp)) ⟨true,rfl,?_⟩)
    exists ax a1',ax (k3 _ _ b1 (by simp)),BB,Jt u3''
    exact q _ (k1.trans (k2.trans k3))
  ·rw[IW (show ¬ (cB (a_ bk) z c).how="more" from hw),hA];clear hA hB' A B;rw[rD hR hw] at t2;walk_at "rz";exact .inr (xU t2 t1' (q _ (k1.trans k2)))
theorem CF{rs:List Row}(h1:∀r∈rs,aP r≠some rs.length)(h2:∃l r,rs=l++[r]/\(r=.halt\/∃g,r=.jump g)):Hl rs:=by
 obtain⟨l,r,rfl,hr⟩:=h2;refine⟨by simp,λi r' e hi=>?_,h1⟩
 rw[IL] at hi;have:i=l.length:=by simp at hi;exact hi
 subst this;rw[Jk (IU _),JP] at e
 cases e;exact hr
theorem qC{σ:L2.St}{tc:TT}{te:TE}(hn:xs.length<=sizeLine)(Pv:Addr->Nat->List V->Hp->Prop)(h0:∀D,H D=none->Pv D 0 [] (upd H D (.lst [])))(hD:∀D i ys H',Pv D i ys H'->H' D=some (.lst ys)/\ys.length<=i)
  (hl:∀D i ys H',Pv D i ys H'->bu K H' a xs)
  (hs:∀D i ys H' x (R:Bool->Hp->Prop),xs[i]?=some x->Pv D i ys H'->(∀H4,Pv D (i+1) ys H4->R false H4)->(∀H4,(te (some x::σ) H4 λv H5=>H5 D=some (.lst ys)/\Pv D (i+1) (ys++[v]) (upd H5 D (.lst (ys++[v]))))->R true H4)->tc (some x::σ) H' R) (hd:∀D ys H',Pv D xs.length ys H'->Q (.ref D) H')
  (mono:∀σ H (A B:VK),(∀v H,A v H->B v H)->te σ H A->te σ H B):mw (sP K a) 1 (bC 0) tc te Q σ H:=by
 intro D hD0;refine⟨λi m ys σ' H'=>m=xs.length-i/\i<=xs.length/\Pv D i ys H'/\∃o,σ'=o::σ,⟨xs.length,by simp,Jj _,h0 D hD0,none,rfl⟩,?_⟩
 rintro i m ys σ' H' ⟨rfl,hi,p,o,rfl⟩;obtain⟨hDi,hly⟩:=hD _ _ _ _ p;have q:=hl _ _ _ _ p;refine⟨hDi,?_⟩;by_cases hlt:i<xs.length
 ·refine .inr ⟨⟨xs,xs[i],q,by simp[hlt]⟩,by lia,λx H2 y=>?_⟩
  obtain⟨rfl,y⟩:=y;unfold bC;dsimp only;refine hs D i ys H2 x _ (y xs q) p (λH4 p4=>?_) (λH4 p4=>?_)
  ·rw[IT Jb];exact⟨xs.length-(i+1),by lia,rfl,hlt,p4,_,rfl⟩
  ·rw[IW rfl];exact mono _ _ _ _ (λv H5 h=>⟨h.1,xs.length-(i+1),by lia,rfl,hlt,h.2,_,rfl⟩) p4
 ·have e:i=xs.length:=by lia
  subst e;exact .inl ⟨⟨xs,q,IU _⟩,hd D ys H' p⟩
theorem oG(xs:List V)(v:V):bU (xs++[v]) (-1)=some v:=by
 have hl:(xs++[v]).length=xs.length+1:=by rw[IL];rfl
 unfold bU j0;rw[IT (by decide),hl,IW (by lia),show (-1+((xs.length+1:Nat):Int)).toNat=xs.length by lia]
 show (xs++[v])[xs.length]?=_;rw[Jk (IU _),JP];rfl
noncomputable def so:Sp:=λvs H Q _=>∃(a:Addr) (rs:List Row),vs=[.ref a]/\yI H a rs/\rs.length<=64/\∀(k:Bool) H',(k=true->Hl rs)->KB [] H H'->Q (.bl k) H'
theorem wg(T:Txt K mg)(F:HasFn K mg "_law_halts" cW ["program"]):aq P w K mg base bq 1 "_law_halts" ["program"] so:=by
 refine F.gU kR (λvs H Q E h=>?_) (λf cdv A outer s H vs Q E hr h=>?_)
 ·obtain⟨a,rs,rfl,_⟩:=h;rfl
 ·have hu:=bo hr;obtain⟨a,rs,rfl,⟨as,ha,hp⟩,hl,q⟩:=h;have hpl:=hp.1;refine⟨_,(Z.ai (Z.d9 (Z.tw (Z.Ht (Z.bf (Y.mS K rfl (gY hr)) (Z.v 0) (Z.tup Z.nil)) (Z.DU (Z.bf (Z.B9 K rfl hu) (Z.ix (Z.az K rfl hu) (Z.ix (Z.az K rfl hu) (Z.v 0) (Z.un fK Z.int)) Z.int) (Z.tup (Z.consts rfl)))))) (Z.aA (Z.ret Z.bl)) Z.bG)
   (Z.aA (Z.ret (Z.cmp (Y.Ep K rfl (Nat.lt_of_succ_lt hu)) (Z.comp (osc:=ae cW) (ON:=["program"]) (own:=["row"]) (N:=["row","program"]) ⟨rfl,by decide +kernel,rfl,by decide +kernel,by decide +kernel,by decide +kernel,by decide +kernel,by decide +kernel⟩ rfl rfl rfl (Z.any K rfl (Z.v 0)) (λ_ _ _ _=>(Z.bp (i:=0) (show List.Nodup (["row","program"]:List Str) by decide +kernel) rfl (by right))) (λ_ _ _ _=>(Z.Iy (Z.tw (Z.vk (Z.bf (Z.x_ K rfl hu) (Z.ix (Z.az K rfl hu) (Z.v 0) Z.int) (Z.tup (Z.consts rfl))) (Z.lU (Z.bf bB (Z.ix (Z.az K rfl hu) (Z.v 0) (Z.un fK Z.int)) (Z.cb (Z.cw K rfl) rfl T.cf (by decide +kernel) (Z.cons (Z.v 1) Z.nil)))))))) (λ_ _ _ _=>(Z.v 0))) (Z.lst Z.nil))))),?_⟩
  refine ar λN hN=>?_;refine zC λA B hA hB=>?_;walk_at "rz";refine⟨Jj _,λp1 hp1=>?_⟩;have k1:=KB.new (ex:=[]) (o:=.tup []) hp1;have s1:upd H p1 (.tup []) p1=some (.tup []):=aa;generalize upd H p1 (.tup [])=H1 at *;have ha1:=k1 _ _ ha (by simp)
  have hA':∀G:Hp,KB [] H G->A [some (.ref a)] G:=λG kG=>by
   rw[hA];walk_at "rz";exact q false G (λe=>nomatch e) kG
  have radr:∀l:List Addr,cX K H1 no (l.map V.ref) (l.map L2.T.adr):=λl=>by
   induction l with
   |nil=>exact .nil
   |cons x l ih=>exact .cons (.adr x) ih
  refine .inr ⟨no,a,p1,_,_,_,[],λ_=>true,rfl,rfl,.inl ⟨bu.of ha1,bu.of s1⟩,radr as,.nil,λj x y _ e=>(nomatch e),?_⟩;rcases L0 rs with rfl|⟨l,r,erl⟩
  ·have e0:as=[]:=Kk.mp hpl;subst e0;exact⟨true,rfl,by rw[IW rfl];exact hA' H1 k1⟩
  have ean:as≠[]:=λz=>by rw[z,erl] at hpl;simp at hpl
  obtain⟨as',x,eas⟩:∃l x,as=l++[x]:=by
   rcases L0 as with e|⟨l,x,e⟩
   ·exact absurd e ean
   ·exact⟨l,x,by rw[e,Mt]⟩
  rw[Mt] at erl;refine⟨false,by
   have:jN (as.map L2.T.adr).length ([]:List L2.T).length (λ_=>true)=false:=by
    unfold jN;rw[IP,eas];simp
   simp only[this];rfl,?_⟩
  rw[IT Jb];have hx:H x=some (.tup r.vs):=hp.2 as'.length x r (by rw[eas,Jk (IU _),JP];rfl) (by
   have:as'.length=l.length:=by rw[eas,erl,IL,IL] at hpl;simpa using hpl
   rw[erl,this,Jk (IU _),JP];rfl)
  have al:bU (as.map V.ref) (-1)=some (.ref x):=by rw[eas,Jm];exact oG _ _
  have hx1:=k1 _ _ hx (by simp)
  have a0:bU r.vs 0=some (.str r.wd):=by cases r<;>rfl
  exists ax ha1,al,ax hx1,a0;refine⟨by decide,λp2 hp2=>⟨rfl,rfl,?_⟩⟩
  have k2:=k1.trans (KB.new (o:=.tup [.str "halt",.str "jump"]) hp2)
  cases ci:hJ (.str r.wd) [.str "halt",.str "jump"] with
  |false=>rw[IW rfl];exact hA' _ k2
  |true =>
   rw[IT (by decide),hB];clear hA hB hA'
   show N _ _;rw[hN];clear hN N A B;generalize upd H1 p2 (.tup [.str "halt",.str "jump"])=H2 at *;have hr':r=.halt\/∃g,r=.jump g:=by
    cases r with
    |jump g=>exact .inr ⟨g,rfl⟩
    |halt=>exact .inl rfl
    |put b n=>exact absurd ci (show ¬ hJ (.str (Str.ofString "put")) [.str "halt",.str "jump"]=true from by decide +kernel)
    |zero b g=>exact absurd ci (show ¬ hJ (.str (Str.ofString "zero")) [.str "halt",.str "jump"]=true from by decide +kernel)
    |two u b c=>exact absurd ci ((show ∀u,¬ hJ (.str (w2 u)) [.str "halt",.str "jump"]=true by decide +kernel) u)
    |one u b=>exact absurd ci ((show ∀u,¬ hJ (.str (w1 u)) [.str "halt",.str "jump"]=true by decide +kernel) u)
   exists ax (k2 _ _ ha (by simp))
   refine qC (xs:=as.map V.ref) (IY (show _<=64 by rw[IP];lia) (by decide)) (λD i ys H'=>H2 D=none/\H' D=some (.lst ys)/\ys.length<=i/\KB [] H2 H'/\(ys=[]->∀(j:Nat) (r:Row),j<i->rs[j]?=some r->aP r≠some rs.length)) (λD hD=>⟨hD,aa,IU _,KB.new hD,λ_ j r hj=>absurd hj (LK _)⟩) (λD i ys H' h=>⟨h.2.1,h.2.2.1⟩) (λD i ys H' h=>bu.of (h.2.2.2.1 _ _ (k2 _ _ ha (by simp)) (by simp))) ?_ ?_ (λσ H A B hAB h=>?_)
   ·rintro D i ys H' x' R hx' ⟨g0,g1,g2,gk,gg⟩ kf kt;obtain⟨c,ec,rfl⟩:∃c,as[i]?=some c/\x'=.ref c:=by
     rw[I_] at hx';obtain⟨c,e,rfl⟩:=Jp.mp hx';exact⟨c,e,rfl⟩
    have hlt:i<rs.length:=by have:=(IQ.mp ec).1;lia
    have er:=IJ hlt;have hc:=gk _ _ (k2 _ _ (hp.2 i c _ ec er) (by simp)) (by simp)
    have haH:=gk _ _ (k2 _ _ ha (by simp)) (by simp)
    have no1:aP rs[i]≠some rs.length->∀G:Hp,KB [] H' G->R false G:=λhne G kG=>kf G ⟨g0,kG _ _ g1 (by simp),Kn g2,gk.trans kG,λe j r hj ej=>by
     rcases Nat.lt_succ_iff_lt_or_eq.mp hj with h|h
     ·exact gg e j r h ej
     ·subst h;rw[er] at ej;cases ej;exact hne⟩
    have yes:∀G:Hp,KB [] H' G->R true G:=λG kG=>kt G ⟨_,rfl,kG _ _ g1 (by simp),g0,aa,by rw[IL];exact Mm g2,λu o e _=>by rw[af (ao e g0)];exact kG _ _ (gk _ _ e (by simp)) (by simp),λe=>absurd e (by simp)⟩
    clear kf kt;generalize rs[i]=r' at *;obtain⟨z,e0,h⟩:∃z:Str,bU r'.vs 0=some (.str z)/\((hJ (.str z) [.str "jump",.str "zero"]=true/\∃g,aP r'=some g/\bU r'.vs (-1)=some (.int (g:Nat)))\/hJ (.str z) [.str "jump",.str "zero"]=false/\aP r'=none):=by
     cases r' with
     |jump g=>exact⟨_,rfl,.inl ⟨by decide +kernel,g,rfl,rfl⟩⟩
     |zero b g=>exact⟨_,rfl,.inl ⟨by decide +kernel,g,rfl,rfl⟩⟩
     |put b n=>exact⟨_,rfl,.inr ⟨by decide +kernel,rfl⟩⟩
     |two u b c=>exact⟨_,rfl,.inr ⟨(show ∀u,hJ (.str (w2 u)) [.str "jump",.str "zero"]=false by decide +kernel) u,rfl⟩⟩
     |one u b=>exact⟨_,rfl,.inr ⟨(show ∀u,hJ (.str (w1 u)) [.str "jump",.str "zero"]=false by decide +kernel) u,rfl⟩⟩
     |halt=>exact⟨_,rfl,.inr ⟨by decide +kernel,rfl⟩⟩
    exists ax hc,e0;refine⟨by decide,λt ht=>⟨rfl,rfl,?_⟩⟩
    have k6:=KB.new (ex:=[]) (o:=.tup [.str "jump",.str "zero"]) ht;rcases h with ⟨h1,g,h2,h3⟩|⟨h1,h2⟩
    ·exists h1,ax (k6 _ _ hc (by simp)),h3,ax (k6 _ _ haH (by simp)),IP,hpl
     by_cases cg:(g:Int)=(rs.length:Int)
     ·rw[Jt cg];exact yes _ k6
     ·rw[Jq cg];exact no1 (by rw[h2];intro z;exact cg (by have:=Option.some.inj z;lia)) _ k6
    ·exists h1;exact no1 (by rw[h2];exactλz=>nomatch z) _ k6
   ·rintro D ys H' ⟨g0,g1,g2,gk,gg⟩;refine⟨Jj _,λp3 hp3=>?_⟩;have k7:=KB.new (ex:=[]) (o:=.lst []) hp3;refine⟨D,p3,ys,rfl,rfl,ck.of (k7 _ _ g1 (by simp)),ck.of aa,?_⟩
    refine q _ _ (λe=>CF (λr' hr''=>?_) ⟨l,r,erl,hr'⟩) (k2.trans (gk.trans k7));obtain⟨j,hj,rfl⟩:=MH.mp hr'';exact gg (List.isEmpty_iff.mp e) j _ (by rw[IP];lia) (IJ hj)
   ·obtain⟨v,e,h⟩:=h;exact⟨v,e,hAB _ _ h⟩
theorem lM{bk:List (List Int)}{rs:List Row}{ws:List Nat}(hB:Bk bk)(h1:ws.length=rs.length)(h2:rs.length<=64)(h3:∀r∈rs,r.Ok rs.length)(h4:∀w∈ws,w<3):∃ws' sp,Laid (a_ bk) rs ws' sp (lY bk rs ws):=by
 have sl:(iJ (a_ bk) rs).length=rs.length:=IP ..;exact⟨_,_,(fZ hB).1,by rw[tO,h1],h2,h3,qj h4,rfl,AG (λs hs=>by
  obtain⟨r,hr,rfl⟩:=JD.mp hs;have:=eX hB.cd (h3 r hr)
  lia) (by rw[sl];exact h2) (by rw[sl];exact h1) h4,rfl⟩
theorem wH{cd:List (List (List Nat))}(h:∀ws∈cd,∀w∈ws,cY w)(sp:List Nat):∀(rs:List Row) (ws:List Nat) (k:Nat),cY (nS cd sp k rs ws)
 |[],_,_=>λc hc=>by unfold nS at hc;cases hc
 |_::_,[],_=>λc hc=>by unfold nS at hc;cases hc
 |r::rs,w::ws,k=>by
  rw[nS];refine cY.app (cY.app (oK h r) ?_) (wH h sp rs ws (k+1))
  cases aP r with
  |none=>exactλc hc=>by cases hc
  |some t =>
   refine cY.app ?_ (fv _ _ _ λc hc=>by cases hc)
   match w with
   |0=>exactλc hc=>.inl (Jg.mp hc)
   |1=>exactλc hc=>by simp[cH] at hc;exact hc.symm
   |_+2=>exactλc hc=>by simp[cH] at hc;exact .inr hc
theorem pK(bk:List (List Int))(rs:List Row)(ws:List Nat):cY (lY bk rs ws):=wH (yJ bk) _ _ _ _
structure Fc (G:Hp) (pa bl b1 b2 ga:Addr) (rs:List Row) (bk1 bk2:List (List Int)) (g:List Int):Prop where
 pr:yI G pa rs
 bl:G bl=some (.lst [.ref b1,.ref b2])
 h1:qc G b1 bk1
 h2:qc G b2 bk2
 ga:G ga=some (.tup (iV g))
theorem Fc.keep{G G':Hp}{pa bl b1 b2 ga:Addr}{rs:List Row}(h:Fc G pa bl b1 b2 ga rs bk1 bk2 g)(k:KB ex G G')(hx:NT ex G)(nb:bl∉ex):Fc G' pa bl b1 b2 ga rs bk1 bk2 g:=⟨h.pr.keep k hx,k _ _ h.bl nb,h.h1.keep k hx,h.h2.keep k hx,k _ _ h.ga λz=>hx _ z _ h.ga⟩
theorem Fc.kb{G G':Hp}{pa bl b1 b2 ga:Addr}{rs:List Row}(h:Fc G pa bl b1 b2 ga rs bk1 bk2 g)(k:KB [] G G'):Fc G' pa bl b1 b2 ga rs bk1 bk2 g:=h.keep k (NT.nil _) (by simp)
theorem E6{b p q:Addr}{how:Str}{l:List Int}(ha:H a=some (.tup [.str how,.ref p]))(hb:H b=some (.tup [.str how,.ref q]))(hp:H p=some (.tup (iV l)))(hq:H q=some (.tup (iV l)))(k:Q (.bl false) H):Y.FI K (.ref a) (.ref b) H Q:=.inr (nL (neg:=true) ha hb (xs:=[.str how,.tup (l.map T.int)]) (.cons (.str _) (.cons (gz hp) .nil)) (.cons (.str _) (.cons (gz hq) .nil)) (λy hy=>by
 simp only[IX,Js,JT] at hy;rcases hy with rfl|rfl
 ·exact rX _ _
 ·exact jY _ _) k)
theorem Bw{w x y z:V}(h:H a=some (.tup [w,x,y,z]))(q:∀p,H p=none->Q (.ref p) (upd H p (.tup [w,x]))):Y.Ei K (.ref a) none (some 2) H Q:=by
 have e:eW [w,x,y,z] none (some 2)=[w,x]:=kC _ 2;exact m6 h (λe2=>by rw[e] at e2;cases e2) (by rw[e];exact q)
theorem C8(T:Txt K mg)(F:jS K "law" "law" fN f fd)(h_law_deck:aq P w K mg base bq 1 "_law_deck" ["script"] (xS K))(h_law_program:aq P w K mg base bq 5 "_law_program" ["deck","most"] wM)(h_law_book:aq P w K mg base bq 4 "_law_book" ["deck"] (xc K))(h_law_given:aq P w K mg base bq 3 "_law_given" ["deck"] sk)(h_law_draw:aq P w K mg base bq 2 "_law_draw" ["deck","most"] dU)(h_law_packed:aq P w K mg base bq 3 "_law_packed" ["program","book","widths"] (pQ K))(hrun_bits:aq P w K mg base bq 7 "run_bits" ["bits","book","given","most"] (ja K))(h_law_stays:aq P w K mg base bq 8 "_law_stays" ["bits","book","given","most"] tH)(h_law_halts:aq P w K mg base bq 1 "_law_halts" ["program"] so)(h_law_raw_rows:aq P w K mg base bq 5 "_law_raw_rows" ["deck","book","most"] (BV K))(h_law_goes_on:aq P w K mg base bq 8 "_law_goes_on" ["bits","book","given","most","more"] pY):cG P w K mg base bq 9 f fd ["script"] (nV K):=by
 refine AD F cN (λvs H Q E h=>?_) (λcdv A outer s H vs Q E hr h=>?_)
 ·obtain⟨a,ns,rfl,_⟩:=h;rfl
 ·obtain⟨a,ns,rfl,hS,hl,q⟩:=h;have hu:=bo hr;refine⟨_,(Z.ai (Z.set (i:=1) cN.nd rfl (by right) (Z.fn h_law_deck (hr.mono (by decide)) rfl av (Z.cons (Z.v 0) Z.nil)))
   (Z.ai (Z.fQ J6 rfl (Z.k_ rfl T.cT (Z.cons Z.int Z.nil)) (Z.bp (i:=2) cN.nd rfl (by right)) (Z.ai (Z.set (i:=3) cN.nd rfl (by right) (Z.fn h_law_program (hr.mono (by decide)) rfl av (Z.cons (Z.v 1) (Z.cons (Z.ix (Z.az K rfl hu) (Z.lst (Z.consts rfl)) (Z.fn h_law_draw (hr.mono (by decide)) rfl av (Z.cons (Z.v 1) (Z.cons Z.int Z.nil)))) Z.nil))))
   (Z.ai (Z.set (i:=4) cN.nd rfl (by right) (Z.lst (Z.cons (Z.fn h_law_book (hr.mono (by decide)) rfl av (Z.cons (Z.v 1) Z.nil)) (Z.cons (Z.fn h_law_book (hr.mono (by decide)) rfl av (Z.cons (Z.v 1) Z.nil)) Z.nil))))
   (Z.ai (Z.set (i:=5) cN.nd rfl (by right) (Z.slice (Y.Ai K rfl) (Z.fn h_law_given (hr.mono (by decide)) rfl av (Z.cons (Z.v 1) Z.nil)) Z.yy (Z.qu Z.int)))
   (Z.ai (Z.set (i:=6) cN.nd rfl (by right) (Z.fn h_law_draw (hr.mono (by decide)) rfl av (Z.cons (Z.v 1) (Z.cons Z.int Z.nil))))
   (Z.ai (Z.set (i:=7) cN.nd rfl (by right) (Z.ix (Z.az K rfl hu) (Z.fn h_law_packed (hr.mono (by decide)) rfl av (Z.cons (Z.v 3) (Z.cons (Z.ix (Z.az K rfl hu) (Z.v 4) Z.int) (Z.cons (Z.op bR (Z.lst (Z.cons Z.int Z.nil)) (Z.cb (Z.cw K rfl) rfl T.cf (by decide +kernel) (Z.cons (Z.v 3) Z.nil))) Z.nil)))) Z.int))
   (Z.ai (Z.set (i:=8) cN.nd rfl (by right) (Z.ix (Z.az K rfl hu) (Z.fn h_law_packed (hr.mono (by decide)) rfl av (Z.cons (Z.v 3) (Z.cons (Z.ix (Z.az K rfl hu) (Z.v 4) Z.int) (Z.cons (Z.comp (osc:=ae fN) (ON:=["script","deck","turn","program","books","given","most","first","second","one","other","raw","more","bits","book"]) (own:=["row"]) (N:=["row","script","deck","turn","program","books","given","most","first","second","one","other","raw","more","bits","book"]) ⟨rfl,by decide +kernel,rfl,by decide +kernel,by decide +kernel,by decide +kernel,by decide +kernel,by decide +kernel⟩ rfl rfl rfl (Z.any K rfl (Z.v 3)) (λ_ _ _ _=>(Z.bp (i:=0) (show List.Nodup (["row","script","deck","turn","program","books","given","most","first","second","one","other","raw","more","bits","book"]:List Str) by decide +kernel) rfl (by right))) (λ_ _ _ _=>Z.sH) (λ_ _ _ _=>(Z.fn h_law_draw (hr.mono (by decide)) rfl av (Z.cons (Z.v 2) (Z.cons Z.int Z.nil))))) Z.nil)))) Z.int))
   (Z.ai (Z.set (i:=9) cN.nd rfl (by right) (Z.fn hrun_bits (hr.mono (by decide)) rfl av (Z.cons (Z.v 7) (Z.cons (Z.ix (Z.az K rfl hu) (Z.v 4) Z.int) (Z.cons (Z.v 5) (Z.cons (Z.v 6) Z.nil))))))
   (Z.ai (Z.set (i:=10) cN.nd rfl (by right) (Z.fn hrun_bits (hr.mono (by decide)) rfl av (Z.cons (Z.v 8) (Z.cons (Z.ix (Z.az K rfl hu) (Z.v 4) Z.int) (Z.cons (Z.v 5) (Z.cons (Z.v 6) Z.nil))))))
   (Z.ai (Z.d9 (Z.tw (Z.Ht (Z.bf (Y.rO K rfl (gY hr)) (Z.slice (Y.Ai K rfl) (Z.v 9) Z.yy (Z.qu Z.int)) (Z.slice (Y.Ai K rfl) (Z.v 10) Z.yy (Z.qu Z.int))) (Z.Ht (Z.bf (Y.rO K rfl (gY hr)) (Z.ix (Z.az K rfl hu) (Z.v 9) Z.int) (Z.ix (Z.az K rfl hu) (Z.v 10) Z.int)) (Z.DU (Z.zU (Z.qi K rfl (Z.fn h_law_stays (hr.mono (by decide)) rfl av (Z.cons (Z.v 7) (Z.cons (Z.ix (Z.az K rfl hu) (Z.v 4) Z.int) (Z.cons (Z.v 5) (Z.cons (Z.v 6) Z.nil))))))))))) (Z.aA (Z.ret Z.bl)) Z.bG)
   (Z.ai (Z.d9 (Z.tw (Z.vk (Z.bf bB (Z.ix (Z.az K rfl hu) (Z.v 9) Z.int) Z.str) (Z.lU (Z.qi K rfl (Z.fn h_law_halts (hr.mono (by decide)) rfl av (Z.cons (Z.v 3) Z.nil)))))) (Z.aA (Z.d9 (Z.bf (Y.rO K rfl (gY hr)) (Z.fn hrun_bits (hr.mono (by decide)) rfl av (Z.cons (Z.op (Z.aR K rfl) (Z.v 7) Z.str) (Z.cons (Z.ix (Z.az K rfl hu) (Z.v 4) Z.int) (Z.cons (Z.v 5) (Z.cons (Z.v 6) Z.nil))))) (Z.v 9)) (Z.aA (Z.ret Z.bl)) Z.bG)) Z.bG)
   (Z.ai (Z.set (i:=11) cN.nd rfl (by right) (Z.fn h_law_raw_rows (hr.mono (by decide)) rfl av (Z.cons (Z.v 1) (Z.cons (Z.ix (Z.az K rfl hu) (Z.v 4) Z.int) (Z.cons Z.int Z.nil)))))
   (Z.ai (Z.set (i:=12) cN.nd rfl (by right) (Z.op (Z.aR K rfl) Z.int (Z.fn h_law_draw (hr.mono (by decide)) rfl av (Z.cons (Z.v 1) (Z.cons Z.int Z.nil)))))
   (Z.aA (Z.fQ J6 rfl (Z.any K rfl (Z.lst (Z.cons (Z.tup (Z.cons (Z.v 7) (Z.cons (Z.ix (Z.az K rfl hu) (Z.v 4) Z.int) Z.nil))) (Z.cons (Z.tup (Z.cons (Z.v 11) (Z.cons (Z.ix (Z.az K rfl hu) (Z.v 4) Z.int) Z.nil))) Z.nil)))) (Z.zu (n:=2) K rfl rfl (Z.dW (Z.bp (i:=13) cN.nd rfl (by right)) (Z.dW (Z.bp (i:=14) cN.nd rfl (by right)) Z.pL))) (Z.aA (Z.d9 (Z.zU (Z.qi K rfl (Z.fn h_law_goes_on (hr.mono (by decide)) rfl av (Z.cons (Z.v 13) (Z.cons (Z.v 14) (Z.cons (Z.v 5) (Z.cons (Z.v 6) (Z.cons (Z.v 12) Z.nil)))))))) (Z.aA (Z.ret Z.bl)) Z.bG)))))))))))))))))
   (Z.aA (Z.ret Z.bl)))),?_⟩
  refine ar λN hN=>?_;walk_at "rz";refine⟨a,ns,rfl,hS,λp dq H1 D1 k1=>?_⟩;rw[hN];clear hN N;refine ar λN hN=>?_;walk_at "rz";refine⟨by decide,by decide,?_⟩
  refine bY (n:=3) (λi σ H'=>∃s2 s3 s4 s5 s6 s7 s8 s9 s10 s11 s12 s13 s14:Option V,bz H' p dq (2000*i)/\σ=[some (.ref a),some (.ref p),s2,s3,s4,s5,s6,s7,s8,s9,s10,s11,s12,s13,s14]) ⟨none,none,none,none,none,none,none,none,none,none,none,none,none,D1,rfl⟩ ?_ ?_
  ·rintro i σ H' hi ⟨s2,s3,s4,s5,s6,s7,s8,s9,s10,s11,s12,s13,s14,hD,rfl⟩;generalize (0:Int)+((i:Nat):Int)=kI;unfold bC;refine ar λM hM=>?_;walk_at "rz";refine⟨by decide,λl hl=>?_⟩
   have k3:KB [] H' (upd H' l (.lst [.int 10,.int 10,.int 10,.int 40])):=KB.new hl;have s3':upd H' l (.lst [.int 10,.int 10,.int 10,.int 40]) l=_:=aa;generalize upd H' l (.lst [.int 10,.int 10,.int 10,.int 40])=H3 at *;have nl:=hD.new hl;refine⟨p,dq,4,_,rfl,hD.kb k3,by lia,by decide,by decide,λv1 H4 hv1 D4 k4=>?_⟩
   obtain⟨m,hm,em⟩:∃m:Nat,m<=40/\bU [V.int 10,.int 10,.int 10,.int 40] (v1:Int)=some (.int (m:Nat)):=by
    rcases (show v1=0\/v1=1\/v1=2\/v1=3 by lia) with rfl|rfl|rfl|rfl
    ·exact⟨10,by decide,rfl⟩
    ·exact⟨10,by decide,rfl⟩
    ·exact⟨10,by decide,rfl⟩
    ·exact⟨40,by decide,rfl⟩
   exists au (k4 _ _ s3' nl),em;refine⟨p,dq,m,_,rfl,D4,by lia,by lia,λrs pa H5 hrl hrs hpa D5 k5=>?_⟩
   rw[hM];clear hM M;clear k3 k4 k5 s3' nl hl em D4 hD;refine ar λM hM=>?_;walk_at "rz";refine⟨p,dq,_,rfl,D5,by lia,λbk1 b1 H6 D6 k6 hb1 hB1=>?_⟩
   refine⟨p,dq,_,rfl,D6,by lia,λbk2 b2 H7 D7 k7 hb2 hB2=>?_⟩
   refine⟨by decide,λbl hbl=>?_⟩
   have hpa7:=(hpa.keep k6 D5.nt).keep k7 D6.nt;have hb17:=hb1.keep k7 D6.nt;have k8:KB [] H7 (upd H7 bl (.lst [.ref b1,.ref b2])):=KB.new hbl;have s8':upd H7 bl (.lst [.ref b1,.ref b2]) bl=_:=aa;generalize upd H7 bl (.lst [.ref b1,.ref b2])=H8 at *;have D8:=D7.kb k8;have nb:bl∉[p,dq]:=D7.new hbl;rw[hM];clear hM M;refine ar λM hM=>?_;walk_at "rz";refine⟨p,dq,_,rfl,D8,by lia,λg0 ga0 H9 hg0 hga0 D9 k9=>?_⟩
   have g3:∀(ga:Addr) (g:List Int) (G:Hp),g.length<=40->KB [] H9 G->G ga=some (.tup (iV g))->M [some (.ref a),some (.ref p),some (.int kI),some (.ref pa),some (.ref bl),some (.ref ga),s6,s7,s8,s9,s10,s11,s12,s13,s14] G:=λga g G hgl kG hga=>by
    rw[hM];clear hM M;have fc:Fc G pa bl b1 b2 ga rs bk1 bk2 g:=⟨((hpa7.kb k8).keep k9 D8.nt).kb kG,kG _ _ (k9 _ _ s8' nb) (by simp),((hb17.kb k8).keep k9 D8.nt).kb kG,((hb2.kb k8).keep k9 D8.nt).kb kG,hga⟩
    have DG:bz G p dq (2000*i+900):=(D9.kb kG).mono (by lia)
    clear kG hga k9 k8 s8' hbl hb17 hb2 hpa7 hb1 hpa D9 D8 D7 D6 D5 k6 k7 hga0;refine ar λM hM=>?_;walk_at "rz";refine⟨p,dq,30,_,rfl,DG,by lia,by decide,by decide,λmost G1 hmo D1 k1=>?_⟩
    rw[hM];clear hM M;have fc1:=fc.keep k1 DG.nt nb;clear fc k1 DG;refine ar λM hM=>?_;exists au fc1.bl,kD;refine⟨by decide,λz0 hz0=>?_⟩
    have k2:=KB.new (ex:=[]) (o:=.lst [.int 0]) hz0;have s2':upd G1 z0 (.lst [.int 0]) z0=some (.lst [.int 0]):=aa;generalize upd G1 z0 (.lst [.int 0])=G2 at *;have fc2:=fc1.kb k2;have D2:=D1.kb k2;obtain⟨as2,ha2,hpl2,_⟩:=fc2.pr;exists ax ha2,IP,hpl2;refine⟨z0,_,_,rfl,rfl,s2',by lia,by lia,IY (show _<=40 by simp;lia) (by decide),λz1 hz1=>?_⟩
    rw[Jw];have er:(List.replicate rs.length [V.int 0]).flatten=iV (nZ (List.replicate rs.length 0)):=by
     unfold iV nZ;rw[K8,K8];generalize rs.length=m
     induction m with
     |zero=>rfl
     |succ m ih=>rw[J9,Kl,ih];rfl
    rw[er];have k3:=KB.new (ex:=[]) (o:=.lst (iV (nZ (List.replicate rs.length 0)))) hz1;have s3':upd G2 z1 (.lst (iV (nZ (List.replicate rs.length 0)))) z1=_:=aa;generalize upd G2 z1 (.lst (iV (nZ (List.replicate rs.length 0))))=G3 at *;have fc3:=fc2.kb k3;have w01:(List.replicate rs.length 0).length=rs.length:=Je ..;have w02:∀w∈List.replicate rs.length 0,w<3:=λw hw=>by rw[(JV.mp hw).2];decide
    refine⟨pa,b1,z1,bk1,rs,_,rfl,fc3.pr,fc3.h1,hB1,s3',w01,by lia,hrs,w02,λt1 tv1 G4 k4 ht1=>?_⟩
    exists ax ht1,kD;obtain⟨ws1,sp1,L1⟩:=lM hB1 w01 (by lia) hrs w02
    have bn1:=pK bk1 rs (List.replicate rs.length 0);generalize lY bk1 rs (List.replicate rs.length 0)=y1 at *;have fc4:=fc3.kb k4;have D4:=(D2.kb k3).kb k4;rw[hM];clear hM M;clear fc1 fc2 fc3 k2 k3 k4 s2' s3' er w01 w02 ha2 ht1 hz0 hz1 D1 D2;refine ar λM hM=>?_;obtain⟨as4,ha4,hpl4,_⟩:=fc4.pr;exists au fc4.bl,jt,ax ha4;refine cm (xs:=as4.map V.ref) (IY (show _<=64 by rw[IP];lia) (by decide)) (λD i' ys H'=>G4 D=none/\H' D=some (.lst ys)/\bz H' p dq (2000*i+901+i')/\KB [p,dq] G4 H'/\∃ws:List Nat,ys=iV (nZ ws)/\ws.length=i'/\i'<=rs.length/\∀w∈ws,w<3) (λD hD=>⟨hD,aa,D4.kb (KB.new hD),KB.new hD,[],rfl,rfl,Jj _,λw hw=>absurd hw Js⟩) (λD i' ys H' h=>⟨h.2.1,by obtain⟨_,_,_,_,ws,rfl,e,_⟩:=h;rw[bM,e]⟩) (λD i' ys H' h=>bu.of (h.2.2.2.1 _ _ ha4 λz=>D4.nt _ z _ ha4)) ?_ ?_
    ·rintro D i' ys H' x R hx ⟨g0,g1,gD,gk,ws,rfl,e1,e2,e3⟩ kk;have hlt:i'<rs.length:=by have:=(IQ.mp hx).1;rw[IP] at this;lia
     have nD:=D4.new g0;have pD:p≠D:=λz=>nD (by simp[z])
     have qD:dq≠D:=λz=>nD (by simp[z])
     walk_at "rz";refine⟨p,dq,3,_,rfl,gD,by lia,by decide,by decide,λv G5 hv D5 k5=>?_⟩
     refine kk _ _ (k5 _ _ g1 nD) ⟨g0,aa,(D5.keep (KB.set (ex:=[D]) (by simp)) (by simpa using pD) (by simpa using qD)).mono (by lia),λu o e z=>by rw[af (ao e g0)];exact k5 _ _ (gk _ _ e z) z,ws++[v],by unfold nZ;rw[Jm,fJ];rfl,by rw[IL,e1];rfl,hlt,λw hw=>?_⟩
     rcases JG.mp hw with h|h
     ·exact e3 w h
     ·rw[Jg.mp h];lia
    rintro wa ys G5 ⟨_,gw,D5,k5,ws,rfl,e1,_,e3⟩;rw[IP,hpl4] at e1 D5;have fc5:=fc4.keep k5 D4.nt nb;refine⟨pa,b2,wa,bk2,rs,ws,rfl,fc5.pr,fc5.h2,hB2,gw,e1,by lia,hrs,e3,λt2 tv2 G6 k6 ht2=>?_⟩
    exists ax ht2,kD;obtain⟨ws2,sp2,L2'⟩:=lM hB2 e1 (by lia) hrs e3
    have bn2:=pK bk2 rs ws;generalize lY bk2 rs ws=y2 at *;have fc6:=fc5.kb k6;have D6:bz G6 p dq (2000*i+950):=(D5.kb k6).mono (by lia)
    show M _ _;rw[hM];clear hM M;clear fc4 fc5 k5 k6 gw ht2 ha4 e3 e1 D4 D5;have z1:=L1.Ia;have z2:=L2'.Ia;have hR1:=(fZ hB1).1;have hR2:=(fZ hB2).1;refine ar λM hM=>?_;exists au fc6.bl,kD;refine⟨b1,ga,bk1,y1,g,most,rfl,fc6.h1,fc6.ga,hB1,hR1,bn1,by lia,by lia,λv1 G7 k7 o1=>?_⟩
    rw[hM];clear hM M;have fc7:=fc6.kb k7;refine ar λM hM=>?_;exists au fc7.bl,jt;refine⟨b2,ga,bk2,y2,g,most,rfl,fc7.h2,fc7.ga,hB2,hR2,bn2,by lia,by lia,λv2 G8 k8 o2=>?_⟩
    rw[hM];clear hM M;have fc8:=fc7.kb k8;have D8:=(D6.kb k7).kb k8;have t1:qe G8 v1 _:=o1.tl.kb k8;have t2:qe G8 v2 _:=o2.tl;have al:=jH L1 L2' [] [] (.inl rfl) (.inl rfl) most g;rw[JE,JE] at al;clear fc6 fc7 o1 o2 k7 k8 D6;generalize hc1:aH (a_ bk1) y1 most (gQ g)=c1 at *;generalize aH (a_ bk2) y2 most (gQ g)=c2 at *;obtain⟨al1,al2,_⟩:=al;have t1':=t1;obtain⟨u1,p1,q1,rfl,a1,a2,a3⟩:=t1;obtain⟨u2,p2,q2,rfl,b1',b2',b3'⟩:=t2;rw[show (cB (a_ bk2) y2 c2).how=(cB (a_ bk1) y1 c1).how from al2.symm] at b1';rw[show (cB (a_ bk2) y2 c2).told=(cB (a_ bk1) y1 c1).told from by show c2.st.told=c1.st.told;rw[al1]] at b2'
    rw[show (cB (a_ bk2) y2 c2).bs=(cB (a_ bk1) y1 c1).bs from by show c2.st.bs=c1.st.bs;rw[al1]] at b3'
    refine ar λM hM=>?_;refine zC λA B hA hB'=>?_;walk_at "rz";refine Bw a1 λx1 hx1=>?_;have kx1:=KB.new (ex:=[]) (o:=.tup [.str (cB (a_ bk1) y1 c1).how,.ref p1]) hx1;have sx1:upd G8 x1 (.tup [.str (cB (a_ bk1) y1 c1).how,.ref p1]) x1=_:=aa;generalize upd G8 x1 (.tup [.str (cB (a_ bk1) y1 c1).how,.ref p1])=G9 at *;refine Bw (kx1 _ _ b1' (by simp)) λx2 hx2=>?_
    have kx2:=KB.new (ex:=[]) (o:=.tup [.str (cB (a_ bk1) y1 c1).how,.ref p2]) hx2;have sx2:upd G9 x2 (.tup [.str (cB (a_ bk1) y1 c1).how,.ref p2]) x2=_:=aa;generalize upd G9 x2 (.tup [.str (cB (a_ bk1) y1 c1).how,.ref p2])=G10 at *;have k12:=kx1.trans kx2;refine E6 (kx2 _ _ sx1 (by simp)) sx2 (k12 _ _ a2 (by simp)) (k12 _ _ b2' (by simp)) ⟨false,rfl,?_⟩
    rw[IT Jb];have a1':=k12 _ _ a1 (by simp)
    have e3:∀{w x y z:V},bU [w,x,y,z] 3=some z:=rfl;exists ax a1',ax (k12 _ _ b1' (by simp)),e3
    refine .inr (nr (neg:=true) (k12 _ _ a3 (by simp)) (k12 _ _ b3' (by simp)) ⟨false,rfl,?_⟩)
    rw[IT Jb];have fc10:=fc8.kb k12;have D10:=D8.kb k12;exists au fc10.bl,kD;refine⟨b1,ga,bk1,y1,g,most,rfl,fc10.h1,hB1,fc10.ga,by lia,bn1,by lia,by lia,λG11 k11=>?_⟩
    have t11:=t1'.kb (k12.trans k11);have fc11:=fc10.kb k11;have D11:=D10.kb k11;have a11:=k11 _ _ a1' (by simp)
    exists N_;rw[IT (by decide),hB']
    show M _ _;rw[hM];clear hM M hA hB' A B;clear fc8 fc10 D8 D10 k12 kx1 kx2 sx1 sx2 a1 a2 a3 b1' b2' b3' a1' hx1 hx2 k11 al1 al2;refine ar λM hM=>?_;have fin:∀G:Hp,Fc G pa bl b1 b2 ga rs bk1 bk2 g->bz G p dq (2000*i+950)->M [some (.ref a),some (.ref p),some (.int kI),some (.ref pa),some (.ref bl),some (.ref ga),some (.int (most:Nat)),some (.str (wd y1)),some (.str (wd y2)),some (.ref u1),some (.ref u2),s11,s12,s13,s14] G:=λG fcG DG=>by
     rw[hM];clear hM M;refine ar λM hM=>?_;exists au fcG.bl,jt;refine⟨p,dq,b2,bk2,8,_,rfl,DG,by lia,fcG.h2,hB2,by decide,by decide,λzr G1 hzb hzl D1 k1=>?_⟩
     have fc1:=fcG.keep k1 DG.nt nb;rw[hM];clear hM M;refine ar λM hM=>?_;walk_at "rz";refine⟨p,dq,9,_,rfl,D1,by lia,by decide,by decide,λv G2 hv D2 k2=>?_⟩
     have fc2:=fc1.keep k2 D1.nt nb;walk_at "rz";rw[hM];clear hM M;rw[show (1:Int)+(v:Int)=((1+v:Nat):Int) from rfl];dsimp only;refine pz λM hM=>?_;exists au fc2.bl,kD,jt;refine⟨by decide,λe1 he1=>?_⟩
     have ke1:=KB.new (ex:=[]) (o:=.tup [.str (wd y1),.ref b1]) he1;have se1:upd G2 e1 (.tup [.str (wd y1),.ref b1]) e1=_:=aa;generalize upd G2 e1 (.tup [.str (wd y1),.ref b1])=G3 at *;have fc3:=fc2.kb ke1;exists au fc3.bl,jt;refine⟨by decide,λe2 he2=>⟨by decide,λe3 he3=>?_⟩⟩
     have ke2:=KB.new (ex:=[]) (o:=.tup [.str (wd zr),.ref b2]) he2;have se2:upd G3 e2 (.tup [.str (wd zr),.ref b2]) e2=_:=aa;generalize upd G3 e2 (.tup [.str (wd zr),.ref b2])=G4 at *;have ke3:=KB.new (ex:=[]) (o:=.lst [.ref e1,.ref e2]) he3;have se3:upd G4 e3 (.lst [.ref e1,.ref e2]) e3=_:=aa;generalize upd G4 e3 (.lst [.ref e1,.ref e2])=G5 at *;have fc5:=(fc3.kb ke2).kb ke3;have D5:bz G5 p dq (2000*i+1500):=(((D2.kb ke1).kb ke2).kb ke3).mono (by lia)
     have prs:∀(j:Nat) (x:V),[V.ref e1,.ref e2][j]?=some x->∃(e b:Addr) (bk:List (List Int)) (y:List Nat),x=.ref e/\G5 e=some (.tup [.str (wd y),.ref b])/\qc G5 b bk/\Bk bk/\cY y/\y.length<=1000000:=λj x e=>by
      have hj:j<2:=(IQ.mp e).1;rcases (show j=0\/j=1 by lia) with rfl|rfl
      ·cases e;exact⟨e1,b1,bk1,y1,rfl,ke3 _ _ (ke2 _ _ se1 (by simp)) (by simp),fc5.h1,hB1,bn1,by lia⟩
      ·cases e;exact⟨e2,b2,bk2,zr,rfl,ke3 _ _ se2 (by simp),fc5.h2,hB2,hzb,by lia⟩
     refine gC (xs:=[V.ref e1,.ref e2]) (λj σ G=>∃s13 s14:Option V,KB [] G5 G/\σ=[some (.ref a),some (.ref p),some (.int kI),some (.ref pa),some (.ref bl),some (.ref ga),some (.int (most:Nat)),some (.str (wd y1)),some (.str (wd y2)),some (.ref u1),some (.ref u2),some (.str (wd zr)),some (.int ((1+v:Nat):Int)),s13,s14]) ⟨s13,s14,KB.refl _ _,rfl⟩ (λj σ G _ h=>by obtain⟨_,_,k,_⟩:=h;exact ck.of (k _ _ se3 (by simp))) ?_ ?_
     ·rintro j x σ G hx ⟨s13,s14,kG,rfl⟩;obtain⟨e,b,bk,y,rfl,he,hbe,hBe,hye,hyl⟩:=prs j x hx;refine⟨e,_,rfl,bu.of (kG _ _ he (by simp)),rfl,_,_,rfl,_,_,rfl,rfl,?_⟩
      dsimp only;refine pz λM2 hM2=>?_;refine zC λA B hA hB'=>?_;walk_at "rz";refine⟨b,ga,bk,y,g,most,1+v,rfl,hbe.kb kG,hBe,kG _ _ fc5.ga (by simp),hye,hyl,by lia,by lia,by lia,λG6 k6=>?_⟩
      exists N_;rw[IT (by decide),hB']
      show M2 _ _;rw[hM2];exact⟨_,_,kG.trans k6,rfl⟩
     ·rintro σ G ⟨s13,s14,kG,rfl⟩;show M _ _;rw[hM];exact⟨_,_,_,_,_,_,_,_,_,_,_,s13,s14,(D5.kb kG).mono (by lia),rfl⟩
    refine zC λA B hA hB'=>?_;exists ax a11,kD;have finB:∀G:Hp,KB [] G11 G->B [some (.ref a),some (.ref p),some (.int kI),some (.ref pa),some (.ref bl),some (.ref ga),some (.int (most:Nat)),some (.str (wd y1)),some (.str (wd y2)),some (.ref u1),some (.ref u2),s11,s12,s13,s14] G:=λG kG=>by
     rw[hB'];exact fin G (fc11.kb kG) (D11.kb kG)
    by_cases hh:(cB (a_ bk1) y1 c1).how=Str.ofString "halt"
    ·rw[IW hh];refine⟨pa,rs,rfl,fc11.pr,by lia,λkb G12 hHl k12=>?_⟩
     refine⟨kb,rfl,?_⟩
     cases kb with
     |false=>rw[IT Jb];exact finB G12 k12
     |true =>
      rw[IW rfl,hA];clear finB hA hB' A B;have hHl':=hHl rfl;have fc12:=fc11.kb k12;have D12:=D11.kb k12;refine zC λA B hA hB'=>?_;exists au fc12.bl,kD;rw[show Str.ofString "0110"=wd [48,49,49,48] from by decide +kernel,dR,aO,aO]
      have bn3:cY (y1++[48,49,49,48]):=bn1.app λc hc=>by simp at hc;lia
      refine⟨IY (show _<=30000 by simp;lia) (by decide),b1,ga,bk1,y1++[48,49,49,48],g,most,rfl,fc12.h1,fc12.ga,hB1,hR1,bn3,by rw[IL];simp;lia,by lia,λv3 G13 k13 o3=>.inr ?_⟩
      obtain⟨r1,r2,r3⟩:=jH L1 L1 [48,49,49,48] [] (.inr hHl') (.inl rfl) most g;rw[JE,hc1] at r1 r2 r3;have t3:qe G13 v3 (cB (a_ bk1) y1 c1):=by
       have e:cB (a_ bk1) y1 c1=cB (a_ bk1) (y1++[48,49,49,48]) (aH (a_ bk1) (y1++[48,49,49,48]) most (gQ g)):=by
        unfold cB;rw[r1,r2,r3 rfl]
       rw[e];exact o3.tl
      refine xU (neg:=true) t3 ((t11.kb k12).kb k13) ⟨false,rfl,?_⟩;rw[IT Jb,hB'];exact fin G13 (fc12.kb k13) (D12.kb k13)
    ·rw[IT hh];exact finB G11 (KB.refl _ _)
   exact m6 hga0 (λ_=>g3 ga0 g0 H9 hg0 (KB.refl _ _) hga0) (λx hx=>by
    rw[show (some (30:Int))=some ((30:Nat):Int) from rfl,kC];have e:(iV g0).take 30=iV (g0.take 30):=Nf.symm;rw[e];exact g3 x (g0.take 30) _ (by rw[Jn];lia) (KB.new hx) aa)
  ·rintro σ H' ⟨s2,s3,s4,s5,s6,s7,s8,s9,s10,s11,s12,s13,s14,_,rfl⟩;show N _ _;rw[hN];clear hN N;walk_at "rz";exact q _
theorem C_(T:Txt K mg)(f_goal_of:HasFn K mg "goal_of" gh ["row"])(f_can_be:HasFn K mg "can_be" iG ["lengths"])(f_code_of:HasFn K mg "code_of" cP ["lengths"])(f_word_behind:HasFn K mg "word_behind" dm ["ahead","length"])(f_thing_at:HasFn K mg "thing_at" ff ["code","bits","place"])(f_codes_of:HasFn K mg "codes_of" dP ["book"])(f_row_at:HasFn K mg "row_at" i6 ["codes","bits","place"])(f_coded_at:HasFn K mg "coded_at" fe ["code","bits","place"])(f_part_at:HasFn K mg "part_at" gn ["kind","codes","bits","place"])(f_number_at:HasFn K mg "number_at" eJ ["code","bits","place"])(f_goal_at:HasFn K mg "goal_at" gc ["bits","place"])(f_run_bits:HasFn K mg "run_bits" fA ["bits","book","given","most"])(l_deck:HasFn K mg "_law_deck" dn ["script"])(l_mix:HasFn K mg "_law_mix" fm ["number","turn"])(l_draw:HasFn K mg "_law_draw" eE ["deck","most"])(l_words:HasFn K mg "_law_words" dH [])(l_bits:HasFn K mg "_law_bits" eI ["number","many"])(l_code:HasFn K mg "_law_code" d5 ["lengths"])(l_lengths:HasFn K mg "_law_lengths" cS ["deck","many"])(l_book:HasFn K mg "_law_book" dy ["deck"])(l_number:HasFn K mg "_law_number" dk ["deck"])(l_row:HasFn K mg "_law_row" fi ["deck","goals"])(l_program:HasFn K mg "_law_program" cy ["deck","most"])(l_goals:HasFn K mg "_law_goals" cV ["program"])(l_plain:HasFn K mg "_law_plain" dJ ["row","codes"])(l_spots:HasFn K mg "_law_spots" dF ["sizes","goals","widths"])(l_least:HasFn K mg "_law_least" dB ["sizes","goals","widths"])(l_packed:HasFn K mg "_law_packed" bN ["program","book","widths"])(l_raw_rows:HasFn K mg "_law_raw_rows" b_ ["deck","book","most"])(l_given:HasFn K mg "_law_given" dE ["deck"])(l_goes_on:HasFn K mg "_law_goes_on" cR ["bits","book","given","most","more"])(l_halts:HasFn K mg "_law_halts" cW ["program"])(l_stays:HasFn K mg "_law_stays" dI ["bits","book","given","most"])(F:jS K "law" "law" fN f fd):cG P w K mg base bq 9 f fd ["script"] (nV K):=by
 have dr:=AM (P:=P) (w:=w) (base:=base) T l_draw (E7 l_mix);have lb:=zc (P:=P) (w:=w) (base:=base) T l_bits;have ca:=yb (P:=P) (w:=w) (base:=base) T f_coded_at (wz T f_thing_at);have lc:=wk (P:=P) (w:=w) (base:=base) T l_code lb;have wo:=uY (P:=P) (w:=w) (base:=base) l_words;have pl:=xA (P:=P) (w:=w) (base:=base) T l_plain wo lb;have lr:=EW (P:=P) (w:=w) (base:=base) T l_row dr (uW T l_number dr);have sp:=xb (P:=P) (w:=w) (base:=base) T l_spots;have co:=Ar (P:=P) (w:=w) (base:=base) T f_code_of (Dt T f_can_be) (vx T f_word_behind);have rb:=AR (P:=P) (w:=w) (base:=base) T (w6 T f_goal_of) (xB T f_codes_of co) (yr T f_row_at ca (vz T f_part_at ca (yX T f_number_at ca) (vp T f_goal_at ca))) f_run_bits;exact C8 T F (zS T l_deck) (BE T l_program dr lr) (zW T l_book dr (xv T l_lengths dr)) (vR T l_given dr) dr (uS T l_packed lc pl (wU T l_goals) (xZ T l_least sp) sp lb) rb (zp T l_stays rb) (wg T l_halts) (C3 T l_raw_rows lc pl lr dr lb) (uL T l_goes_on rb)
local macro_rules | `(tactic| walk_at "b1") => `(tactic| (intro _ _ _ _ _ _ us hl; obtain ⟨_, e⟩ := L2.Y.uG hl; subst e; rfl))
theorem gJ{x:Str}{st:Stmt}{ps:List Str}{oc:Value}{od an:Option Addr}{osl:Array (Option Value)}{kV doc pm cdv ct:Value}(X:K.In h)(G:h.Ns mainGlobals mg)(a:PySem.W.nsIn K mainGlobals x=some (some (.ref f)))
  (l:K.lookup f=some ⟨oc,od,.func (PySem.W.fnOf x x (bQ st) (aU st) (ae st) .none kV doc pm an cdv ct),osl⟩) (c:PySem.W.codeIn K cdv x=true) (k:PySem.W.keepIn K (.ref f)=true)
  (hb:∀(kV doc pm:Value) (an:Option Addr) (cdv ct:Value) (us:List Value),us.length=ps.length->bindArgs (PySem.W.fnOf x x (bQ st) (aU st) (ae st) .none kV doc pm an cdv ct) ⟨us,[]⟩=pure (ps.zip us)):HasFn K mg x st ps:=
 ⟨f,_,cz l c k,(cz l c k).binds hb,PySem.W.mg_of X G a⟩
theorem all_mk{l:PySem.W.OpenLaw}{w:World}{fa:Addr}(X:K.In h)(G:h.Ns mainGlobals mg)(hfa:mg "law"=some (.ref fa))
  {f2 f33:Addr} {od2 an2 od33 an33:Option Addr} {Bw sl33:Array (Option Value)} {oc2 kV2 dc2 pm2 cd2 ct2 oc33 kV33 dc33 pm33 cd33 ct33:Value}
  {q0:Addr} {qd0:Option Addr} {qn0:Nat} {qs0:Array (Option Value)} {w0_0 w0_1 w0_2 w0_3 w0_4 w0_5 w0_6 w0_7:Tok}
  {q1:Addr} {qd1:Option Addr} {qn1:Nat} {qs1:Array (Option Value)} {w1_0 w1_1 w1_2:Tok}
  {q2:Addr} {qd2:Option Addr} {qn2:Nat} {qs2:Array (Option Value)} {w2_0 w2_1 w2_2:Tok}
  {w3_0:Tok}
  {w4_0:Tok}
  {w5_0:Tok}
  {w6_0:Tok}
  {q7:Addr} {qd7:Option Addr} {qn7:Nat} {qs7:Array (Option Value)} {w7_0 w7_1 w7_2:Tok}
  {dd0:Addr} {dh0_ep:Nat} {dh0_0 dh0_1 dh0_2 dh0_3 dh0_4 dh0_5 dh0_6 dh0_7 dh0_8:Int} {dp0_0 dp0_1 dp0_2 dp0_3 dp0_4 dp0_5 dp0_6 dp0_7 dp0_8:Addr} {do0_0 do0_1 do0_2 do0_3 do0_4 do0_5 do0_6 do0_7 do0_8:Option Addr} {dn0_0 dn0_1 dn0_2 dn0_3 dn0_4 dn0_5 dn0_6 dn0_7 dn0_8:Nat} {ds0_0 ds0_1 ds0_2 ds0_3 ds0_4 ds0_5 ds0_6 ds0_7 ds0_8:Array (Option Value)} {dt0_0 dt0_1 dt0_2 dt0_3 dt0_4 dt0_5 dt0_6 dt0_7 dt0_8 dw0_0_0 dw0_0_1 dw0_1_0 dw0_1_1 dw0_2_0 dw0_2_1 dw0_3_0 dw0_3_1 dw0_4_0 dw0_5_0 dw0_6_0 dw0_7_0 dw0_7_1:Tok}
  {mC mf0 mf1 mf2 mf3 mf4 mf5 mf6:Addr} {mod0 man0 mod1 man1 mod2 man2 mod3 man3 mod4 man4 mod5 man5 mod6 man6:Option Addr} {msl0 msl1 msl2 msl3 msl4 msl5 msl6:Array (Option Value)} {moc0 mkV0 mdc0 mpm0 mcd0 mct0 moc1 mkV1 mdc1 mpm1 mcd1 mct1 moc2 mkV2 mdc2 mpm2 mcd2 mct2 moc3 mkV3 mdc3 mpm3 mcd3 mct3 moc4 mkV4 mdc4 mpm4 mcd4 mct4 moc5 mkV5 mdc5 mpm5 mcd5 mct5 moc6 mkV6 mdc6 mpm6 mcd6 mct6:Value}
      
  (F0:HasFn K mg "goal_of" gh ["row"])
  (F1:HasFn K mg "can_be" iG ["lengths"])
  (a2:PySem.W.nsIn K mainGlobals "code_of"=some (some (.ref f2))) (l2:K.lookup f2=some ⟨oc2,od2,.func (PySem.W.fnOf "code_of" "code_of" (bQ cP) (aU cP) (ae cP) .none kV2 dc2 pm2 an2 cd2 ct2),Bw⟩) (c2:PySem.W.codeIn K cd2 "code_of"=true) (k2:PySem.W.keepIn K (.ref f2)=true)
  (F3:HasFn K mg "word_behind" dm ["ahead","length"])
  (F4:HasFn K mg "thing_at" ff ["code","bits","place"])
  (F5:HasFn K mg "codes_of" dP ["book"])
  (F6:HasFn K mg "row_at" i6 ["codes","bits","place"])
  (F7:HasFn K mg "coded_at" fe ["code","bits","place"])
  (F8:HasFn K mg "part_at" gn ["kind","codes","bits","place"])
  (F9:HasFn K mg "number_at" eJ ["code","bits","place"])
  (F10:HasFn K mg "goal_at" gc ["bits","place"])
  (F11:HasFn K mg "run_bits" fA ["bits","book","given","most"])
  (F12:HasFn K mg "_law_deck" dn ["script"])
  (F13:HasFn K mg "_law_mix" fm ["number","turn"])
  (F14:HasFn K mg "_law_draw" eE ["deck","most"])
  (F15:HasFn K mg "_law_words" dH [])
  (F16:HasFn K mg "_law_bits" eI ["number","many"])
  (F17:HasFn K mg "_law_code" d5 ["lengths"])
  (F18:HasFn K mg "_law_lengths" cS ["deck","many"])
  (F19:HasFn K mg "_law_book" dy ["deck"])
  (F20:HasFn K mg "_law_number" dk ["deck"])
  (F21:HasFn K mg "_law_row" fi ["deck","goals"])
  (F22:HasFn K mg "_law_program" cy ["deck","most"])
  (F23:HasFn K mg "_law_goals" cV ["program"])
  (F24:HasFn K mg "_law_plain" dJ ["row","codes"])
  (F25:HasFn K mg "_law_spots" dF ["sizes","goals","widths"])
  (F26:HasFn K mg "_law_least" dB ["sizes","goals","widths"])
  (F27:HasFn K mg "_law_packed" bN ["program","book","widths"])
  (F28:HasFn K mg "_law_raw_rows" b_ ["deck","book","most"])
  (F29:HasFn K mg "_law_given" dE ["deck"])
  (F30:HasFn K mg "_law_goes_on" cR ["bits","book","given","most","more"])
  (F31:HasFn K mg "_law_halts" cW ["program"])
  (F32:HasFn K mg "_law_stays" dI ["bits","book","given","most"])
  (a33:PySem.W.nsIn K mainGlobals "law"=some (some (.ref f33))) (l33:K.lookup f33=some ⟨oc33,od33,.func (PySem.W.fnOf "law" "law" (bQ fN) (aU fN) (ae fN) .none kV33 dc33 pm33 an33 cd33 ct33),sl33⟩) (c33:PySem.W.codeIn K cd33 "law"=true) (k33:PySem.W.keepIn K (.ref f33)=true)
  (z0:PySem.W.nsIn K mainGlobals "abs"=some none)
  (z1:PySem.W.nsIn K mainGlobals "dict"=some none)
  (z2:PySem.W.nsIn K mainGlobals "enumerate"=some none)
  (z3:PySem.W.nsIn K mainGlobals "int"=some none)
  (z4:PySem.W.nsIn K mainGlobals "isinstance"=some none)
  (z5:PySem.W.nsIn K mainGlobals "len"=some none)
  (z6:PySem.W.nsIn K mainGlobals "list"=some none)
  (z7:PySem.W.nsIn K mainGlobals "max"=some none)
  (z8:PySem.W.nsIn K mainGlobals "min"=some none)
  (z9:PySem.W.nsIn K mainGlobals "range"=some none)
  (z10:PySem.W.nsIn K mainGlobals "sorted"=some none)
  (z11:PySem.W.nsIn K mainGlobals "str"=some none)
  (z12:PySem.W.nsIn K mainGlobals "sum"=some none)
  (z13:PySem.W.nsIn K mainGlobals "tuple"=some none)
  (z14:PySem.W.nsIn K mainGlobals "zip"=some none)
  (g0:PySem.W.nsIn K mainGlobals "BOXES"=some (some (.ref q0))) (m0:K.lookup q0=some ⟨.type "tuple",qd0,.seq #[.str "a" w0_0,.str "b" w0_1,.str "c" w0_2,.str "d" w0_3,.str "e" w0_4,.str "f" w0_5,.str "g" w0_6,.str "h" w0_7] qn0,qs0⟩)
  (g1:PySem.W.nsIn K mainGlobals "HALVES"=some (some (.ref q1))) (m1:K.lookup q1=some ⟨.type "tuple",qd1,.seq #[.int 8 w1_0,.int 128 w1_1,.int 32768 w1_2] qn1,qs1⟩)
  (g2:PySem.W.nsIn K mainGlobals "HEADS"=some (some (.ref q2))) (m2:K.lookup q2=some ⟨.type "tuple",qd2,.seq #[.str "0" w2_0,.str "10" w2_1,.str "11" w2_2] qn2,qs2⟩)
  (g3:PySem.W.nsIn K mainGlobals "OF_BOXES"=some (some (.int 2 w3_0)))
  (g4:PySem.W.nsIn K mainGlobals "OF_CLASSES"=some (some (.int 1 w4_0)))
  (g5:PySem.W.nsIn K mainGlobals "OF_WORDS"=some (some (.int 0 w5_0)))
  (g6:PySem.W.nsIn K mainGlobals "WHOLE"=some (some (.int 65536 w6_0)))
  (g7:PySem.W.nsIn K mainGlobals "WIDTHS"=some (some (.ref q7))) (m7:K.lookup q7=some ⟨.type "tuple",qd7,.seq #[.int 4 w7_0,.int 8 w7_1,.int 16 w7_2] qn7,qs7⟩)
  (dg0:PySem.W.nsIn K mainGlobals "SHAPES"=some (some (.ref dd0))) (dz0:(dd0 == sysModules)=false) (dl0:K.lookup dd0=some ⟨.type "dict",none,.dict #[⟨dh0_0,.str "put" dt0_0,.ref dp0_0⟩,⟨dh0_1,.str "add" dt0_1,.ref dp0_1⟩,⟨dh0_2,.str "sub" dt0_2,.ref dp0_2⟩,⟨dh0_3,.str "copy" dt0_3,.ref dp0_3⟩,⟨dh0_4,.str "tell" dt0_4,.ref dp0_4⟩,⟨dh0_5,.str "hear" dt0_5,.ref dp0_5⟩,⟨dh0_6,.str "jump" dt0_6,.ref dp0_6⟩,⟨dh0_7,.str "zero" dt0_7,.ref dp0_7⟩,⟨dh0_8,.str "halt" dt0_8,.ref dp0_8⟩] dh0_ep,#[]⟩)
  (dm0_0:K.lookup dp0_0=some ⟨.type "tuple",do0_0,.seq #[.str "box" dw0_0_0,.str "number" dw0_0_1] dn0_0,ds0_0⟩)
  (dm0_1:K.lookup dp0_1=some ⟨.type "tuple",do0_1,.seq #[.str "box" dw0_1_0,.str "box" dw0_1_1] dn0_1,ds0_1⟩)
  (dm0_2:K.lookup dp0_2=some ⟨.type "tuple",do0_2,.seq #[.str "box" dw0_2_0,.str "box" dw0_2_1] dn0_2,ds0_2⟩)
  (dm0_3:K.lookup dp0_3=some ⟨.type "tuple",do0_3,.seq #[.str "box" dw0_3_0,.str "box" dw0_3_1] dn0_3,ds0_3⟩)
  (dm0_4:K.lookup dp0_4=some ⟨.type "tuple",do0_4,.seq #[.str "box" dw0_4_0] dn0_4,ds0_4⟩)
  (dm0_5:K.lookup dp0_5=some ⟨.type "tuple",do0_5,.seq #[.str "box" dw0_5_0] dn0_5,ds0_5⟩)
  (dm0_6:K.lookup dp0_6=some ⟨.type "tuple",do0_6,.seq #[.str "goal" dw0_6_0] dn0_6,ds0_6⟩)
  (dm0_7:K.lookup dp0_7=some ⟨.type "tuple",do0_7,.seq #[.str "box" dw0_7_0,.str "goal" dw0_7_1] dn0_7,ds0_7⟩)
  (dm0_8:K.lookup dp0_8=some ⟨.type "tuple",do0_8,.seq #[] dn0_8,ds0_8⟩)
  (mq0:PySem.W.nsIn K mainGlobals "Machine"=some (some (.ref mC)))
  (mq1:PySem.W.plainGet K mC Str.empty=true)
  (mq2:PySem.W.hasDictIn K mC=true)
  (mq3:PySem.W.plainOver K mC=true)
  (mq4:PySem.W.findIn K (.ref mC) "__setattr__"=some (some (.builtin "object.__setattr__")))
  (mq5:PySem.W.findIn K (.ref mC) "given"=some none)
  (mq6:PySem.W.findIn K (.ref mC) "heard"=some none)
  (mq7:PySem.W.findIn K (.ref mC) "told"=some none)
  (mq8:PySem.W.findIn K (.ref mC) "boxes"=some none)
  (mq9:PySem.W.findIn K (.ref mC) "__init__"=some (some (.ref mf0)))
  (mq10:PySem.W.isFn K (.ref mf0)=true)
  (mq11:PySem.W.keepIn K (.ref mf0)=true)
  (mq12:K.lookup mf0=some ⟨moc0,mod0,.func (PySem.W.fnOf "__init__" "Machine.__init__" (bQ aM) (aU aM) (ae aM) .none mkV0 mdc0 mpm0 man0 mcd0 mct0),msl0⟩)
  (mq13:PySem.W.codeIn K mcd0 "Machine.__init__"=true)
  (mq14:PySem.W.makesIn K mC=true)
  (mq15:PySem.W.keepIn K (.ref mC)=true)
  (mq16:PySem.W.findIn K (.ref mC) "place_next"=some (some (.ref mf1)))
  (mq17:PySem.W.isFn K (.ref mf1)=true)
  (mq18:PySem.W.keepIn K (.ref mf1)=true)
  (mq19:K.lookup mf1=some ⟨moc1,mod1,.func (PySem.W.fnOf "place_next" "Machine.place_next" (bQ aJ) (aU aJ) (ae aJ) .none mkV1 mdc1 mpm1 man1 mcd1 mct1),msl1⟩)
  (mq20:PySem.W.codeIn K mcd1 "Machine.place_next"=true)
  (mq21:PySem.W.findIn K (.ref mC) "carry_out"=some (some (.ref mf2)))
  (mq22:PySem.W.isFn K (.ref mf2)=true)
  (mq23:PySem.W.keepIn K (.ref mf2)=true)
  (mq24:K.lookup mf2=some ⟨moc2,mod2,.func (PySem.W.fnOf "carry_out" "Machine.carry_out" (bQ aN) (aU aN) (ae aN) .none mkV2 mdc2 mpm2 man2 mcd2 mct2),msl2⟩)
  (mq25:PySem.W.codeIn K mcd2 "Machine.carry_out"=true)
  (mq26:PySem.W.findIn K (.ref mC) "number_for"=some (some (.ref mf3)))
  (mq27:PySem.W.isFn K (.ref mf3)=true)
  (mq28:PySem.W.keepIn K (.ref mf3)=true)
  (mq29:K.lookup mf3=some ⟨moc3,mod3,.func (PySem.W.fnOf "number_for" "Machine.number_for" (bQ aK) (aU aK) (ae aK) .none mkV3 mdc3 mpm3 man3 mcd3 mct3),msl3⟩)
  (mq30:PySem.W.codeIn K mcd3 "Machine.number_for"=true)
  (mq31:PySem.W.findIn K (.ref mC) "heard_number"=some (some (.ref mf4)))
  (mq32:PySem.W.isFn K (.ref mf4)=true)
  (mq33:PySem.W.keepIn K (.ref mf4)=true)
  (mq34:K.lookup mf4=some ⟨moc4,mod4,.func (PySem.W.fnOf "heard_number" "Machine.heard_number" (bQ aF) (aU aF) (ae aF) .none mkV4 mdc4 mpm4 man4 mcd4 mct4),msl4⟩)
  (mq35:PySem.W.codeIn K mcd4 "Machine.heard_number"=true)
  (mq36:PySem.W.findIn K (.ref mC) "told_numbers"=some (some (.ref mf5)))
  (mq37:PySem.W.isFn K (.ref mf5)=true)
  (mq38:PySem.W.keepIn K (.ref mf5)=true)
  (mq39:K.lookup mf5=some ⟨moc5,mod5,.func (PySem.W.fnOf "told_numbers" "Machine.told_numbers" (bQ aG) (aU aG) (ae aG) .none mkV5 mdc5 mpm5 man5 mcd5 mct5),msl5⟩)
  (mq40:PySem.W.codeIn K mcd5 "Machine.told_numbers"=true)
  (mq41:PySem.W.findIn K (.ref mC) "box_numbers"=some (some (.ref mf6)))
  (mq42:PySem.W.isFn K (.ref mf6)=true)
  (mq43:PySem.W.keepIn K (.ref mf6)=true)
  (mq44:K.lookup mf6=some ⟨moc6,mod6,.func (PySem.W.fnOf "box_numbers" "Machine.box_numbers" (bQ aC) (aU aC) (ae aC) .none mkV6 mdc6 mpm6 man6 mcd6 mct6),msl6⟩)
  (mq45:PySem.W.codeIn K mcd6 "Machine.box_numbers"=true)
  (le_code_of:cd2=.ref lc_code_of) (lk_code_of:K.lookup lc_code_of=some ⟨lO_code_of,lD_code_of,.fields lv_code_of,lS_code_of⟩) (lw_code_of:lv_code_of[11]?=some (.ref lp_code_of))
  : ∃fd:FuncData,(∀(s:Shared) (v:Value),BindsTo s fd ⟨[v],[]⟩ [("script",v)])/\∀base:Heap,K.In base->base.Ns mainGlobals mg->cG l.prog w K mg base bq 30 fa fd ["script"] (nV K):=by
 have e:=hfa.symm.trans (PySem.W.mg_of X G a33);cases e
 have T:Txt K mg:=⟨PySem.W.mg_none_of X G z0,PySem.W.mg_none_of X G z1,PySem.W.mg_none_of X G z2,PySem.W.mg_none_of X G z3,PySem.W.mg_none_of X G z4,PySem.W.mg_none_of X G z5,PySem.W.mg_none_of X G z6,PySem.W.mg_none_of X G z7,PySem.W.mg_none_of X G z8,PySem.W.mg_none_of X G z9,PySem.W.mg_none_of X G z10,PySem.W.mg_none_of X G z11,PySem.W.mg_none_of X G z12,PySem.W.mg_none_of X G z13,PySem.W.mg_none_of X G z14,⟨q0,PySem.W.mg_of X G g0,λH=>.inr ⟨_,_,_,m0,rfl,rfl,(by show 8<=sizeLine;decide),(.cons ⟨w0_0,rfl⟩ (.cons ⟨w0_1,rfl⟩ (.cons ⟨w0_2,rfl⟩ (.cons ⟨w0_3,rfl⟩ (.cons ⟨w0_4,rfl⟩ (.cons ⟨w0_5,rfl⟩ (.cons ⟨w0_6,rfl⟩ (.cons ⟨w0_7,rfl⟩ .nil))))))))⟩⟩,⟨q1,PySem.W.mg_of X G g1,λH=>.inr ⟨_,_,_,m1,rfl,rfl,(by show 3<=sizeLine;decide),(.cons ⟨w1_0,rfl⟩ (.cons ⟨w1_1,rfl⟩ (.cons ⟨w1_2,rfl⟩ .nil)))⟩⟩,⟨q2,PySem.W.mg_of X G g2,λH=>.inr ⟨_,_,_,m2,rfl,rfl,(by show 3<=sizeLine;decide),(.cons ⟨w2_0,rfl⟩ (.cons ⟨w2_1,rfl⟩ (.cons ⟨w2_2,rfl⟩ .nil)))⟩⟩,⟨_,PySem.W.mg_of X G g3,⟨_,rfl⟩⟩,⟨_,PySem.W.mg_of X G g4,⟨_,rfl⟩⟩,⟨_,PySem.W.mg_of X G g5,⟨_,rfl⟩⟩,⟨_,PySem.W.mg_of X G g6,⟨_,rfl⟩⟩,⟨q7,PySem.W.mg_of X G g7,λH=>.inr ⟨_,_,_,m7,rfl,rfl,(by show 3<=sizeLine;decide),(.cons ⟨w7_0,rfl⟩ (.cons ⟨w7_1,rfl⟩ (.cons ⟨w7_2,rfl⟩ .nil)))⟩⟩,⟨dd0,PySem.W.mg_of X G dg0,dz0,_,_,_,dl0,⟨rfl,rfl,rfl⟩,rfl,(.cons rfl ⟨dp0_0,rfl,⟨_,_,_,dm0_0,rfl,rfl,(by show 2<=sizeLine;decide),(.cons ⟨dw0_0_0,rfl⟩ (.cons ⟨dw0_0_1,rfl⟩ .nil))⟩⟩ (.cons rfl ⟨dp0_1,rfl,⟨_,_,_,dm0_1,rfl,rfl,(by show 2<=sizeLine;decide),(.cons ⟨dw0_1_0,rfl⟩ (.cons ⟨dw0_1_1,rfl⟩ .nil))⟩⟩ (.cons rfl ⟨dp0_2,rfl,⟨_,_,_,dm0_2,rfl,rfl,(by show 2<=sizeLine;decide),(.cons ⟨dw0_2_0,rfl⟩ (.cons ⟨dw0_2_1,rfl⟩ .nil))⟩⟩ (.cons rfl ⟨dp0_3,rfl,⟨_,_,_,dm0_3,rfl,rfl,(by show 2<=sizeLine;decide),(.cons ⟨dw0_3_0,rfl⟩ (.cons ⟨dw0_3_1,rfl⟩ .nil))⟩⟩ (.cons rfl ⟨dp0_4,rfl,⟨_,_,_,dm0_4,rfl,rfl,(by show 1<=sizeLine;decide),(.cons ⟨dw0_4_0,rfl⟩ .nil)⟩⟩ (.cons rfl ⟨dp0_5,rfl,⟨_,_,_,dm0_5,rfl,rfl,(by show 1<=sizeLine;decide),(.cons ⟨dw0_5_0,rfl⟩ .nil)⟩⟩ (.cons rfl ⟨dp0_6,rfl,⟨_,_,_,dm0_6,rfl,rfl,(by show 1<=sizeLine;decide),(.cons ⟨dw0_6_0,rfl⟩ .nil)⟩⟩ (.cons rfl ⟨dp0_7,rfl,⟨_,_,_,dm0_7,rfl,rfl,(by show 2<=sizeLine;decide),(.cons ⟨dw0_7_0,rfl⟩ (.cons ⟨dw0_7_1,rfl⟩ .nil))⟩⟩ (.cons rfl ⟨dp0_8,rfl,⟨_,_,_,dm0_8,rfl,rfl,(by show 0<=sizeLine;decide),.nil⟩⟩ .nil)))))))))⟩,⟨_,_,_,_,_,_,_,_,_,_,_,_,_,_,_,PySem.W.mg_of X G mq0,⟨mq1,mq2,mq3,mq4⟩,mq5,mq6,mq7,mq8,⟨mq14,mq9,mq10,mq15⟩,cz (st:=aM) mq12 mq13 mq11,(cz (st:=aM) mq12 mq13 mq11).binds (ps:=["self","given"]) (λ_ _ _ _ _ _ us hl=>by obtain⟨_,_,rfl⟩:=Y.xX hl;rfl),⟨mq16,mq17,mq18⟩,cz (st:=aJ) mq19 mq20 mq18,(cz (st:=aJ) mq19 mq20 mq18).binds (ps:=["self","row","behind","end"]) (λ_ _ _ _ _ _ us hl=>by obtain⟨_,_,_,_,rfl⟩:=Y.CM hl;rfl),⟨mq21,mq22,mq23⟩,cz (st:=aN) mq24 mq25 mq23,(cz (st:=aN) mq24 mq25 mq23).binds (ps:=["self","row"]) (λ_ _ _ _ _ _ us hl=>by obtain⟨_,_,rfl⟩:=Y.xX hl;rfl),⟨mq26,mq27,mq28⟩,cz (st:=aK) mq29 mq30 mq28,(cz (st:=aK) mq29 mq30 mq28).binds (ps:=["self","row"]) (λ_ _ _ _ _ _ us hl=>by obtain⟨_,_,rfl⟩:=Y.xX hl;rfl),⟨mq31,mq32,mq33⟩,cz (st:=aF) mq34 mq35 mq33,(cz (st:=aF) mq34 mq35 mq33).binds (ps:=["self"]) (λ_ _ _ _ _ _ us hl=>by obtain⟨_,rfl⟩:=Y.uG hl;rfl),⟨mq36,mq37,mq38⟩,cz (st:=aG) mq39 mq40 mq38,(cz (st:=aG) mq39 mq40 mq38).binds (ps:=["self"]) (λ_ _ _ _ _ _ us hl=>by obtain⟨_,rfl⟩:=Y.uG hl;rfl),⟨mq41,mq42,mq43⟩,cz (st:=aC) mq44 mq45 mq43,(cz (st:=aC) mq44 mq45 mq43).binds (ps:=["self"]) (λ_ _ _ _ _ _ us hl=>by obtain⟨_,rfl⟩:=Y.uG hl;rfl)⟩,sA.mk' X G (oi a2 l2 le_code_of lk_code_of lw_code_of)⟩
 have F2:HasFn K mg "code_of" cP ["lengths"]:=gJ X G a2 l2 c2 k2 (by walk_at "b1")
 exact⟨PySem.W.fnOf "law" "law" (bQ fN) (aU fN) (ae fN) .none kV33 dc33 pm33 an33 cd33 ct33,λs v=>.of_eq rfl,λbase _ _=>(C_ T F0 F1 F2 F3 F4 F5 F6 F7 F8 F9 F10 F11 F12 F13 F14 F15 F16 F17 F18 F19 F20 F21 F22 F23 F24 F25 F26 F27 F28 F29 F30 F31 F32 (cz (st:=fN) l33 c33 k33)).mono (by decide)⟩
theorem walk{l:PySem.W.OpenLaw}{loose:List Str}{XP:(Str->Option Value)->Heap->Prop}{YP:World->Heap->Prop}{d:DefRec}{K:Params->Og}(hn:l.most=some 63)(hdf:d.params.defaults=[])
  (hY:∀(w:World) (h:Heap),YP w h->(K w.params).In h)
  (F:∀(w:World) (mg:Str->Option Value) (fa:Addr) (h:Heap),(K w.params).In h->h.Ns mainGlobals mg->mg d.name=some (.ref fa)->∃fd:FuncData,(∀(s:Shared) (u:Value),BindsTo s fd ⟨[u],[]⟩ [("script",u)])/\∀base:Heap,(K w.params).In base->base.Ns mainGlobals mg->cG l.prog w (K w.params) mg base bq 30 fa fd ["script"] (nV (K w.params))) (hL:∀(w:World) (h:Heap),(K w.params).In h->iI q (K w.params)) :
  PySem.W.WalkO q loose XP YP l.row.toRowW d [] (λf vs=>PySem.call f vs):=
 L2.Bi (n:=63) (k:=30) (x:="script") (CX:=λ_=>bq) (sp:=λw=>nV (K w.params)) hn (by decide) hdf ⟨rfl,by decide,by decide,rfl⟩ hY F (λ_ _ a ns hl _ hS=>⟨a,ns,rfl,hS,hl,λ_=>rfl⟩) (λ_ _ _ _ _ z=>z) hL
theorem Eg(_:K.In h){la_code_of:Addr}{lo_code_of:Value}{ld_code_of:Option Addr}{lfd_code_of:FuncData}{ls_code_of:Array (Option Value)}(nt:PySem.W.noTabs K=true)
  (ma_by_worth:PySem.W.nsIn K mainGlobals "by_worth"=some none)
  (ma_by_weight:PySem.W.nsIn K mainGlobals "by_weight"=some none)
  (ma_code_of:PySem.W.nsIn K mainGlobals "code_of"=some (some (.ref la_code_of))) (ml_code_of:K.lookup la_code_of=some ⟨lo_code_of,ld_code_of,.func lfd_code_of,ls_code_of⟩) (mc_code_of:lfd_code_of.code=.ref lc_code_of) (mk_code_of:K.lookup lc_code_of=some ⟨lO_code_of,lD_code_of,.fields lv_code_of,lS_code_of⟩) (mw_code_of:lv_code_of[11]?=some (.ref lp_code_of)) (mr_code_of:((recsOf q).find? (λe=>e.name ==("code_of":Str))).isSome=true)
  : iI q K:=iI.of nt (jP ma_by_worth) (jP ma_by_weight) (oi ma_code_of ml_code_of mc_code_of mk_code_of mw_code_of) (by first|exact mn|simp) (.inl rfl) (.inl rfl) (.inr mr_code_of)
end
end G
open PySem PySem.W PyProof.Rows
local macro_rules | `(tactic| walk_at "b0") => `(tactic| (intro _ _ _ _ _ _ us hl; match us, hl with | [], _ => rfl))
local macro_rules | `(tactic| walk_at "b1") => `(tactic| (intro _ _ _ _ _ _ us hl; obtain ⟨_, e⟩ := L2.Y.uG hl; subst e; rfl))
local macro_rules | `(tactic| walk_at "b2") => `(tactic| (intro _ _ _ _ _ _ us hl; obtain ⟨_, _, e⟩ := L2.Y.xX hl; subst e; rfl))
local macro_rules | `(tactic| walk_at "b3") => `(tactic| (intro _ _ _ _ _ _ us hl; obtain ⟨_, _, _, e⟩ := L2.Y.pZ hl; subst e; rfl))
local macro_rules | `(tactic| walk_at "b4") => `(tactic| (intro _ _ _ _ _ _ us hl; obtain ⟨_, _, _, _, e⟩ := L2.Y.CM hl; subst e; rfl))
local macro_rules | `(tactic| walk_at "b5") => `(tactic| (intro _ _ _ _ _ _ us hl; obtain ⟨_, _, _, _, _, e⟩ := L2.Y.HS hl; subst e; rfl))
set_option maxRecDepth 100000 in
set_option maxHeartbeats 0 in
theorem PySem.Challenge.cw_shortrows_k37_whole_longer_runs_holds : PySem.Challenge.rw_shortrows_k37_whole_longer_runs.Holds := by
 w_on;o_law;k_head;(case hw=>w_witness2)
 k_fill
 refine G.walk (l:=PySem.Challenge.rw_shortrows_k37_whole_longer_runs) rfl rfl (λw h Y=>by first|exact PySem.W.kIn_of Y|exact PySem.W.km_in_of Y) ?F ?L
 case F =>
  intro w mg fa h KX GN hmg
  refine' G.all_mk KX GN hmg (G.gJ KX GN ?a0 ?l0 ?c0 ?k0 (by walk_at "b1")) (G.gJ KX GN ?a1 ?l1 ?c1 ?k1 (by walk_at "b1")) ?a2 ?l2 ?c2 ?k2 (G.gJ KX GN ?a3 ?l3 ?c3 ?k3 (by walk_at "b2")) (G.gJ KX GN ?a4 ?l4 ?c4 ?k4 (by walk_at "b3")) (G.gJ KX GN ?a5 ?l5 ?c5 ?k5 (by walk_at "b1")) (G.gJ KX GN ?a6 ?l6 ?c6 ?k6 (by walk_at "b3")) (G.gJ KX GN ?a7 ?l7 ?c7 ?k7 (by walk_at "b3")) (G.gJ KX GN ?a8 ?l8 ?c8 ?k8 (by walk_at "b4")) (G.gJ KX GN ?a9 ?l9 ?c9 ?k9 (by walk_at "b3")) (G.gJ KX GN ?a10 ?l10 ?c10 ?k10 (by walk_at "b2")) (G.gJ KX GN ?a11 ?l11 ?c11 ?k11 (by walk_at "b4")) (G.gJ KX GN ?a12 ?l12 ?c12 ?k12 (by walk_at "b1")) (G.gJ KX GN ?a13 ?l13 ?c13 ?k13 (by walk_at "b2")) (G.gJ KX GN ?a14 ?l14 ?c14 ?k14 (by walk_at "b2")) (G.gJ KX GN ?a15 ?l15 ?c15 ?k15 (by walk_at "b0")) (G.gJ KX GN ?a16 ?l16 ?c16 ?k16 (by walk_at "b2")) (G.gJ KX GN ?a17 ?l17 ?c17 ?k17 (by walk_at "b1")) (G.gJ KX GN ?a18 ?l18 ?c18 ?k18 (by walk_at "b2")) (G.gJ KX GN ?a19 ?l19 ?c19 ?k19 (by walk_at "b1")) (G.gJ KX GN ?a20 ?l20 ?c20 ?k20 (by walk_at "b1")) (G.gJ KX GN ?a21 ?l21 ?c21 ?k21 (by walk_at "b2")) (G.gJ KX GN ?a22 ?l22 ?c22 ?k22 (by walk_at "b2")) (G.gJ KX GN ?a23 ?l23 ?c23 ?k23 (by walk_at "b1")) (G.gJ KX GN ?a24 ?l24 ?c24 ?k24 (by walk_at "b2")) (G.gJ KX GN ?a25 ?l25 ?c25 ?k25 (by walk_at "b3")) (G.gJ KX GN ?a26 ?l26 ?c26 ?k26 (by walk_at "b3")) (G.gJ KX GN ?a27 ?l27 ?c27 ?k27 (by walk_at "b3")) (G.gJ KX GN ?a28 ?l28 ?c28 ?k28 (by walk_at "b3")) (G.gJ KX GN ?a29 ?l29 ?c29 ?k29 (by walk_at "b1")) (G.gJ KX GN ?a30 ?l30 ?c30 ?k30 (by walk_at "b5")) (G.gJ KX GN ?a31 ?l31 ?c31 ?k31 (by walk_at "b1")) (G.gJ KX GN ?a32 ?l32 ?c32 ?k32 (by walk_at "b4")) ?a33 ?l33 ?c33 ?k33 ?z0 ?z1 ?z2 ?z3 ?z4 ?z5 ?z6 ?z7 ?z8 ?z9 ?z10 ?z11 ?z12 ?z13 ?z14 ?gq0 ?mq0 ?gq1 ?mq1 ?gq2 ?mq2 ?gq3 ?gq4 ?gq5 ?gq6 ?gq7 ?mq7 ?dg0 ?dz0 ?dl0 ?dm0_0 ?dm0_1 ?dm0_2 ?dm0_3 ?dm0_4 ?dm0_5 ?dm0_6 ?dm0_7 ?dm0_8 ?mq_0 ?mq_1 ?mq_2 ?mq_3 ?mq_4 ?mq_5 ?mq_6 ?mq_7 ?mq_8 ?mq_9 ?mq_10 ?mq_11 ?mq_12 ?mq_13 ?mq_14 ?mq_15 ?mq_16 ?mq_17 ?mq_18 ?mq_19 ?mq_20 ?mq_21 ?mq_22 ?mq_23 ?mq_24 ?mq_25 ?mq_26 ?mq_27 ?mq_28 ?mq_29 ?mq_30 ?mq_31 ?mq_32 ?mq_33 ?mq_34 ?mq_35 ?mq_36 ?mq_37 ?mq_38 ?mq_39 ?mq_40 ?mq_41 ?mq_42 ?mq_43 ?mq_44 ?mq_45 ?le_code_of ?lk_code_of ?lw_code_of
  (case a0|l0|c0|k0|a1|l1|c1|k1|a2|l2|c2|k2|a3|l3|c3|k3|a4|l4|c4|k4|a5|l5|c5|k5|a6|l6|c6|k6|a7|l7|c7|k7|a8|l8|c8|k8|a9|l9|c9|k9|a10|l10|c10|k10|a11|l11|c11|k11|a12|l12|c12|k12|a13|l13|c13|k13|a14|l14|c14|k14|a15|l15|c15|k15|a16|l16|c16|k16|a17|l17|c17|k17|a18|l18|c18|k18|a19|l19|c19|k19|a20|l20|c20|k20|a21|l21|c21|k21|a22|l22|c22|k22|a23|l23|c23|k23|a24|l24|c24|k24|a25|l25|c25|k25|a26|l26|c26|k26|a27|l27|c27|k27|a28|l28|c28|k28|a29|l29|c29|k29|a30|l30|c30|k30|a31|l31|c31|k31|a32|l32|c32|k32|a33|l33|c33|k33=>k_is)
  (case z0=>k_is)
  (case z1=>k_is)
  (case z2=>k_is)
  (case z3=>k_is)
  (case z4=>k_is)
  (case z5=>k_is)
  (case z6=>k_is)
  (case z7=>k_is)
  (case z8=>k_is)
  (case z9=>k_is)
  (case z10=>k_is)
  (case z11=>k_is)
  (case z12=>k_is)
  (case z13=>k_is)
  (case z14=>k_is)
  (case gq0=>k_is)
  (case mq0=>k_is)
  (case gq1=>k_is)
  (case mq1=>k_is)
  (case gq2=>k_is)
  (case mq2=>k_is)
  (case gq3=>k_is)
  (case gq4=>k_is)
  (case gq5=>k_is)
  (case gq6=>k_is)
  (case gq7=>k_is)
  (case mq7=>k_is)
  (case dg0=>k_is)
  (case dl0=>k_is)
  (case dm0_0=>k_is)
  (case dm0_1=>k_is)
  (case dm0_2=>k_is)
  (case dm0_3=>k_is)
  (case dm0_4=>k_is)
  (case dm0_5=>k_is)
  (case dm0_6=>k_is)
  (case dm0_7=>k_is)
  (case dm0_8=>k_is)
  (case dz0=>rfl)
  (case mq_0=>k_is)
  (case mq_1=>k_is)
  (case mq_2=>k_is)
  (case mq_3=>k_is)
  (case mq_4=>k_is)
  (case mq_5=>k_is)
  (case mq_6=>k_is)
  (case mq_7=>k_is)
  (case mq_8=>k_is)
  (case mq_9=>k_is)
  (case mq_10=>k_is)
  (case mq_11=>k_is)
  (case mq_12=>k_is)
  (case mq_13=>k_is)
  (case mq_14=>k_is)
  (case mq_15=>k_is)
  (case mq_16=>k_is)
  (case mq_17=>k_is)
  (case mq_18=>k_is)
  (case mq_19=>k_is)
  (case mq_20=>k_is)
  (case mq_21=>k_is)
  (case mq_22=>k_is)
  (case mq_23=>k_is)
  (case mq_24=>k_is)
  (case mq_25=>k_is)
  (case mq_26=>k_is)
  (case mq_27=>k_is)
  (case mq_28=>k_is)
  (case mq_29=>k_is)
  (case mq_30=>k_is)
  (case mq_31=>k_is)
  (case mq_32=>k_is)
  (case mq_33=>k_is)
  (case mq_34=>k_is)
  (case mq_35=>k_is)
  (case mq_36=>k_is)
  (case mq_37=>k_is)
  (case mq_38=>k_is)
  (case mq_39=>k_is)
  (case mq_40=>k_is)
  (case mq_41=>k_is)
  (case mq_42=>k_is)
  (case mq_43=>k_is)
  (case mq_44=>k_is)
  (case mq_45=>k_is)
  (case le_code_of=>exact rfl)
  (case lk_code_of=>k_is)
  (case lw_code_of=>exact rfl)
 case L =>
  intro w h KX
  refine' G.Eg KX (by kernel_rfl) ?ma_by_worth ?ma_by_weight ?ma_code_of ?ml_code_of ?mc_code_of ?mk_code_of ?mw_code_of ?mr_code_of
  (case ma_by_worth=>k_is)
  (case ma_by_weight=>k_is)
  (case ma_code_of=>k_is)
  (case ml_code_of=>k_is)
  (case mc_code_of=>exact rfl)
  (case mk_code_of=>k_is)
  (case mw_code_of=>exact rfl)
  (case mr_code_of=>exact rfl)
end
