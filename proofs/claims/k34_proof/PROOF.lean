import PyProof.Rows.All
import Wide.All
import OpenK.AllK
import Wide.FinOn
import Lean
import PyProof.EqAt
import PyProof.EqKinds
import PyProof.TupleCall
import KE.KSortKey
import KE.KLam
import PySem.Challenge.RW_shortrows_k34_bits_run
namespace PySem.W.Fast
noncomputable def tw1219117127159106030:=0
noncomputable def tw292662473291697387:=0
noncomputable def tw7323235857153722340:=0
noncomputable def tw421843470767984334:=0
noncomputable def tw13716908210989045141:=0
noncomputable def tw11625308858318145009:=0
noncomputable def tw910263787097542527:=0
noncomputable def tw6143053785982756011:=0
noncomputable def tw9007615916303288121:=0
noncomputable def tw3064091133732977517:=0
noncomputable def tw10022843475033133101:=0
noncomputable def tw5258566278740756336:=0
noncomputable def tw98046208815177501:=0
noncomputable def tw10490947312633892715:=0
noncomputable def tw17355495437707687672:=0
noncomputable def tw15468981511377540050:=0
noncomputable def tw14693249055497721303:=0
noncomputable def tw519527337935887397:=0
noncomputable def tw9623302804397692524:=0
noncomputable def tw6882804184878271510:=0
noncomputable def tw1853417374510990482:=0
noncomputable def tw5865733760395511432:=0
noncomputable def tw1464004709786365892:=0
noncomputable def tw15711913288380171854:=0
noncomputable def tw6717814536934901017:=0
noncomputable def tw2642877820977700100:=0
noncomputable def tw15157367254288332573:=0
noncomputable def tw13778101771011538995:=0
noncomputable def tw1282245345444305844:=0
noncomputable def tw687666544208510613:=0
noncomputable def tw14692708925641343719:=0
noncomputable def tw12553547594805666756:=0
noncomputable def tw10588710395595983069:=0
noncomputable def tw14374563310877879381:=0
noncomputable def tw1307762264913777626:=0
noncomputable def tw9712428518087305608:=0
noncomputable def tw15359361317650753622:=0
noncomputable def tw14615750833758327557:=0
noncomputable def tw9826928769444682227:=0
noncomputable def tw12504902163304809162:=0
noncomputable def tw14187408850393263347:=0
noncomputable def tw7539956372065765292:=0
noncomputable def tw16529380248643008639:=0
noncomputable def tw3263911900287092112:=0
noncomputable def tw10823213669349947953:=0
noncomputable def tw8874314145889700604:=0
noncomputable def tw17215828626583514108:=0
noncomputable def tw16615054557152901592:=0
noncomputable def tw558298718874126260:=0
noncomputable def tw2713935854030932475:=0
noncomputable def tw13195411698968083777:=0
noncomputable def tw11748967101189438247:=0
noncomputable def tw6970843462548195806:=0
noncomputable def tw11698007939473481531:=0
noncomputable def tw131200984045913406:=0
noncomputable def tw14994582817065781561:=0
noncomputable def tw17475501028900791638:=0
noncomputable def tw17119886507016056891:=0
noncomputable def tw18053510447793656123:=0
noncomputable def tw15258670201032424311:=0
noncomputable def tw15571723158227183098:=0
noncomputable def tw6367484062211357410:=0
noncomputable def tw11116294575189357276:=0
noncomputable def tw12510908515464312645:=0
noncomputable def tw5002724835195912740:=0
noncomputable def tw1809320583882651324:=0
noncomputable def tw2020209749890445749:=0
noncomputable def tw16276945752974404976:=0
noncomputable def tw8758818881702524394:=0
noncomputable def tw34888685809936984:=0
noncomputable def tw12103594500637359233:=0
noncomputable def tw15424489708548770508:=0
noncomputable def tw12362096920564765019:=0
noncomputable def tw3904400374881916883:=0
noncomputable def tw4755472794862131845:=0
noncomputable def tw13993122882320387628:=0
noncomputable def tw545272179106547464:=0
noncomputable def tw6550301755160956212:=0
noncomputable def tw4320841863621221866:=0
noncomputable def tw14417274561403008921:=0
noncomputable def tw16959886141193449615:=0
noncomputable def tw14111180687906433689:=0
noncomputable def tw12693951210299503438:=0
noncomputable def tw5212050447534335648:=0
noncomputable def tw12439013575369196122:=0
noncomputable def tw17599926596049140981:=0
noncomputable def tw370762781211652040:=0
noncomputable def tw1856178608613380093:=0
noncomputable def tw15096867226053767879:=0
noncomputable def tw10572903779696051709:=0
noncomputable def tw3272251121954397596:=0
noncomputable def tw1350705897109540485:=0
noncomputable def tw4927519839974522175:=0
noncomputable def tw5302369596394496116:=0
noncomputable def tw3772900822755726171:=0
noncomputable def tw5477800045570874607:=0
noncomputable def tw15751204446989364167:=0
noncomputable def tw12678645390444029117:=0
noncomputable def tw6557128730692762405:=0
noncomputable def tw12741710564295795699:=0
noncomputable def tw15238714254345438634:=0
noncomputable def tw14537911094780026417:=0
noncomputable def tw5027751659079214133:=0
noncomputable def tw3856633000895737124:=0
noncomputable def tw5556752312078965453:=0
noncomputable def tw15320451892751803839:=0
noncomputable def tw5118344108756432693:=0
noncomputable def tw6422322808037234036:=0
noncomputable def tw2640798911338123363:=0
noncomputable def tw10490403312851063005:=0
noncomputable def tw3287018635708121250:=0
noncomputable def tw7957759183589463801:=0
noncomputable def tw13546067518993570940:=0
noncomputable def tw14871739936287941013:=0
noncomputable def tw755563027247275392:=0
noncomputable def tw10863139206754585625:=0
noncomputable def tw7961170998392994931:=0
noncomputable def tw16731684373098525278:=0
noncomputable def tw4855476478329792528:=0
noncomputable def tw12959655701211819304:=0
noncomputable def tw2579741710857236735:=0
noncomputable def tw5449703938657740595:=0
noncomputable def tw3970807745648847653:=0
noncomputable def tw6079611896990053849:=0
noncomputable def tw16788876669858774921:=0
noncomputable def tw993470098273794002:=0
noncomputable def tw10630266807282974006:=0
noncomputable def tw9407690914657997165:=0
noncomputable def tw8811829322911138596:=0
noncomputable def tw16319153162844682323:=0
noncomputable def tw11204362889295215621:=0
noncomputable def tw343228910884035143:=0
noncomputable def tw17127939163119758149:=0
noncomputable def tw17010816857683739087:=0
noncomputable def tw5986397674450504963:=0
noncomputable def tw4540468370251299734:=0
noncomputable def tw6466255695884593239:=0
noncomputable def tw7676201127154407000:=0
noncomputable def tw11213438376474621829:=0
noncomputable def tw9224455716975611901:=0
noncomputable def tw6910654043973268713:=0
noncomputable def tw14273457145126991274:=0
noncomputable def tw10395769237882528304:=0
noncomputable def tw11260407434153182949:=0
noncomputable def tw5385630458275612532:=0
noncomputable def tw17500125121413906851:=0
noncomputable def tw11762609496159458478:=0
noncomputable def tw15381899390643660931:=0
noncomputable def tw3906875761681434885:=0
noncomputable def tw7264378096523721127:=0
noncomputable def tw17718251821098271896:=0
noncomputable def tw8691740536087857204:=0
noncomputable def tw11217750094957576023:=0
noncomputable def tw6445890998496605448:=0
noncomputable def tw13198658747343416548:=0
noncomputable def tw9377925006838470392:=0
noncomputable def tw17150665744411496774:=0
noncomputable def tw18393885020456539252:=0
noncomputable def tw15073159607153219930:=0
noncomputable def tw6798586901740561054:=0
noncomputable def tw11818839653141240942:=0
noncomputable def tw9721386088865579521:=0
noncomputable def tw1220914162521996867:=0
noncomputable def tw9070895052168971093:=0
noncomputable def tw14872387884412343801:=0
noncomputable def tw9128956094883932735:=0
noncomputable def tw11190924297372339761:=0
noncomputable def tw3536259200597354536:=0
noncomputable def tw11955924772139163728:=0
noncomputable def tw15530828580945837731:=0
noncomputable def tw10063837445656675159:=0
noncomputable def tw8733103133521174933:=0
noncomputable def tw10236802726487762395:=0
noncomputable def tw13849945466821100472:=0
noncomputable def tw15855461468569942937:=0
noncomputable def tw14413804333890171719:=0
noncomputable def tw5634095762016323981:=0
noncomputable def tw8915439603931388571:=0
end PySem.W.Fast
set_option Elab.async false
set_option linter.all false
set_option maxRecDepth 100000
set_option maxHeartbeats 4000000
noncomputable section
set_option compiler.extract_closed false
theorem ℜz0(_:True:=by rfl):True:=⟨⟩
def ℜ0:Lean.Syntax:=ℜz0._auto_1
theorem ℜz1(_:True:=by decide):True:=⟨⟩
def ℜ1:Lean.Syntax:=ℜz1._auto_1
theorem ℜz2(_:True:=by first|exact .inl rfl|exact .inr rfl|assumption):True:=⟨⟩
def ℜ2:Lean.Syntax:=ℜz2._auto_1
theorem ℜz3(_:True:=by intro _;rfl):True:=⟨⟩
def ℜ3:Lean.Syntax:=ℜz3._auto_1
theorem ℜz4(_:True:=by first|exact Or.inl rfl|exact Or.inr (Or.inl rfl)|exact Or.inr (Or.inr rfl)):True:=⟨⟩
def ℜ4:Lean.Syntax:=ℜz4._auto_1
theorem ℜz5(_:True:=by with_unfolding_all rfl):True:=⟨⟩
def ℜ5:Lean.Syntax:=ℜz5._auto_1
theorem ℜz6(_:True:=by decide +kernel):True:=⟨⟩
def ℜ6:Lean.Syntax:=ℜz6._auto_1
namespace L2
open PySem PySem.Spec PyProof.Rows
variable{us:List Value}{x:Str}{u:Value}{C a b:Addr}{base h:Heap}{items:Array Value}{P:Program}{w:World}{g':Array GenState}{ch fp:List Addr}{e tg:Expr}{N:List Str}{i j:Nat}{M:Model}{E Q:Value->Shared->Prop}{s':Shared}{pins:List (Addr×Obj)}{f:Value->Value->Sem Value}{es:List Expr}{g:Int->Int->Int}{body:List Stmt}{pl:Sem Bool}{mA mg:Str->Option Value}{kw:List (Str×Value)}{fd:FuncData}{outer:List Env}{kindOf:Str->Option NameKind}{scope:Scope}
noncomputable def Gj:=@PySem.wpAny_bind
noncomputable def Gk:=@PySem.Heap.get?_push_of_some
noncomputable def Gm:=@List.getElem?_eq_getElem
noncomputable def Gn:=@if_neg
noncomputable def Gp:=@if_pos
noncomputable def Gq:=@List.getElem?_eq_some_iff
noncomputable def Gr:=@List.length_append
noncomputable def Gs:=@Nat.le_refl
noncomputable def Gu:=@PySem.wpAny_pure
noncomputable def Gv:=@List.mem_cons
noncomputable def Gw:=@Nat.le_trans
noncomputable def Gx:=@List.length_map
noncomputable def Gy:=@List.getD_eq_getElem?_getD
noncomputable def Gz:=@Bool.false_ne_true
noncomputable def G0:=@PySem.Heap.get?_push_size
noncomputable def G4:=@List.size_toArray
noncomputable def G5:=@PySem.Heap.lt_size
noncomputable def G6:=@List.mem_singleton
noncomputable def G8:=@List.getElem?_map
noncomputable def G9:=@List.length_replicate
noncomputable def GA:=@List.mem_cons_of_mem
noncomputable def GB:=@List.mem_cons_self
noncomputable def GC:=@List.length_cons
noncomputable def GD:=@Nat.ne_of_lt
noncomputable def GF:=@Nat.zero_le
noncomputable def GG:=@List.not_mem_nil
noncomputable def GH:=@decide_eq_false
noncomputable def GI:=@Nat.lt_of_lt_of_le
noncomputable def GJ:=@List.mem_append_right
noncomputable def GK:=@Option.map_eq_some_iff
noncomputable def GL:=@List.getElem_mem
noncomputable def GO:=@List.map_append
noncomputable def GP:=@List.length_take
noncomputable def GQ:=@PySem.PassesOwn.never
noncomputable def GS:=@List.append_assoc
noncomputable def GU:=@List.getElem?_eq_none_iff
noncomputable def GV:=@List.map_cons
noncomputable def GW:=@Array.getElem?_toList
noncomputable def GX:=@decide_eq_true
noncomputable def GY:=@List.pairwise_cons
noncomputable def GZ:=@List.getElem?_append_right
noncomputable def G_:=@beq_eq_false_iff_ne
noncomputable def Ha:=@Array.length_toList
noncomputable def Hb:=@Int.toNat_natCast
noncomputable def Hc:=@List.length_range
noncomputable def Hd:=@List.length_drop
noncomputable def He:=@PySem.wpAny_holding
noncomputable def Hf:=@List.replicate_succ
noncomputable def Hg:=@List.getElem?_append_left
noncomputable def Hh:=@List.mem_append
noncomputable def Hi:=@List.lookup_cons
noncomputable def Hj:=@or_false
noncomputable def Hk:=@PyProof.Rows.boot_isinstance
noncomputable def Hl:=@List.getElem?_toArray
noncomputable def Hm:=@congrArg
noncomputable def Hn:=@PySem.wpAny_mono
noncomputable def Ho:=@Nat.lt_or_ge
noncomputable def Hq:=@List.take_of_length_le
noncomputable def Hr:=@of_decide_eq_true
noncomputable def Hs:=@List.length_nil
noncomputable def Ht:=@PyProof.Rows.callWith_type1
noncomputable def Hu:=@PySem.wpAny_callSpecial?_slot
noncomputable def Hv:=@Bool.and_eq_true
noncomputable def Hw:=@PySem.wpAny_call_entry
noncomputable def Hx:=@List.pairwise_append
noncomputable def Hy:=@Ne.symm
noncomputable def Hz:=@PySem.sizeLine_eq
noncomputable def HA:=@Nat.le_succ
noncomputable def HB:=@List.length_set
noncomputable def HC:=@List.nil_append
noncomputable def HD:=@List.mem_or_eq_of_mem_set
noncomputable def HE:=@Bool.false_eq_true
noncomputable def HF:=@PySem.wpAny_pyIter_tuple
noncomputable def HG:=@List.mem_replicate
noncomputable def HH:=@List.mem_range
noncomputable def HI:=@Nat.add_sub_cancel_left
noncomputable def HJ:=@PySem.wpAny_newObj_type
noncomputable def HK:=@PySem.wpAny_pyIter_list
noncomputable def HL:=@List.append_nil
noncomputable def HM:=@PySem.Heap.SameBut.update
noncomputable def HN:=@Nat.ne_of_gt
noncomputable def HP:=@List.mem_map
noncomputable def HQ:=@PySem.wpAny_field
noncomputable def HR:=@Array.getElem?_eq_some_iff
noncomputable def HS:=@PySem.Heap.size_push
noncomputable def HU:=@Nat.lt_of_le_of_lt
noncomputable def HV:=@List.getElem?_drop
noncomputable def HW:=@PySem.wpAny_seqItems
noncomputable def HX:=@List.drop_zero
noncomputable def HY:=@List.drop_eq_getElem_cons
noncomputable def HZ:=@List.pairwise_iff_getElem
noncomputable def H_:=@List.mem_of_getElem?
noncomputable def Ia:=@List.find?_cons
noncomputable def Ib:=@List.flatten_cons
noncomputable def Ic:=@Nat.lt_irrefl
noncomputable def Ie:=@List.all_cons
noncomputable def Ig:=@PySem.wpAny_typeNameOfWhole_keyiter
noncomputable def Ih:=@if_false
noncomputable def Ii:=@List.cons_append
noncomputable def Ij:=@decide_eq_decide
noncomputable def Ik:=@List.mem_reverse
noncomputable def Il:=@PySem.wpAny_Call_Name_kw
noncomputable def Im:=@PySem.wpAny_setField_rec
noncomputable def Io:=@Nat.sub_self
noncomputable def Ip:=@PySem.wpAny_passesOwn
noncomputable def Iq:=@PySem.F.slot_tuple_iterator_next
noncomputable def Ir:=@PySem.wpAny_truthy_bool
noncomputable def Iu:=@List.ext_getElem?
noncomputable def Iv:=@List.pairwise_map
noncomputable def Iw:=@Nat.le_of_lt
noncomputable def Iy:=@List.range'_succ
noncomputable def Iz:=@List.take_length
noncomputable def IA:=@PySem.F.slot_list_getattribute
noncomputable def IB:=@List.ext_getElem
noncomputable def IC:=@PySem.wpAny_typeNameOf_keyiter
noncomputable def ID:=@List.getElem?_range
noncomputable def IE:=@List.length_reverse
noncomputable def IF:=@Array.toList_append
noncomputable def IG:=@List.prefix_of_prefix_length_le
noncomputable def IH:=@PySem.wpAny_getItem_str_slice
noncomputable def II:=@Option.bind_eq_some_iff
noncomputable def IJ:=@Bool.eq_iff_iff
noncomputable def IK:=@List.nodup_cons
noncomputable def IL:=@PySem.codeAny_builtin
noncomputable def IM:=@List.getElem?_take
noncomputable def IP:=@List.getElem?_set_self
noncomputable def IQ:=@Nat.lt_succ_of_lt
noncomputable def IS:=@decide_eq_true_eq
noncomputable def IT:=@List.length_singleton
noncomputable def IU:=@List.take_append_drop
noncomputable def IV:=@List.mem_append_left
noncomputable def IW:=@beq_iff_eq
noncomputable def IX:=@PySem.call_meets
noncomputable def IY:=@PySem.Around.under_plainId
noncomputable def IZ:=@List.getElem?_append
noncomputable def I_:=@List.reverse_reverse
noncomputable def Ja:=@List.range_eq_range'
noncomputable def Jb:=@Array.toArray_toList
noncomputable def Jc:=@List.drop_length
noncomputable def Jd:=@List.mem_iff_getElem
noncomputable def Je:=@PySem.wpAny_newList
noncomputable def Jf:=@List.dropWhile_cons
noncomputable def Jg:=@Option.map_some
noncomputable def Jh:=@PyProof.Rows.get?_update_seq
noncomputable def Ji:=@PySem.W.KasT.kasWp_bind
noncomputable def Jj:=@List.mem_filterMap
noncomputable def Jk:=@Option.isSome_iff_exists
noncomputable def Jl:=@Nat.succ_mul
noncomputable def Jm:=@PySem.Obj.data_mapFields
noncomputable def Jn:=@if_true
noncomputable def Jo:=@List.prefix_iff_eq_take
noncomputable def Jp:=@PySem.wpAny_pyIter_enum
noncomputable def Jq:=@PySem.wpAny_dictEntries
noncomputable def Jr:=@List.flatMap_cons
noncomputable def Js:=@PySem.wpAny_pyNext_list_item
noncomputable def Jt:=@PySem.Heap.get?_update_other
noncomputable def Ju:=@List.pairwise_lt_range
noncomputable def Jv:=@List.dropWhile_sublist
noncomputable def Jw:=@List.getElem_cons_zero
noncomputable def Jx:=@PySem.wpAny_standAt
noncomputable def Jy:=@List.any_cons
noncomputable def Jz:=@PySem.wpAny_attempt
noncomputable def J5:=@PyProof.Rows.listUpdate_at
noncomputable def J6:=@Nat.mul_assoc
noncomputable def J7:=@Nat.lt_succ_self
noncomputable def J8:=@beq_self_eq_true
noncomputable def J9:=@Nat.le_add_right
noncomputable def JA:=@List.take_succ_eq_append_getElem
noncomputable def JC:=@PySem.wpAny_pyNext_list_end
noncomputable def JD:=@PySem.Heap.get?_update_self
noncomputable def JE:=@List.pairwise_reverse
noncomputable def JF:=@List.mem_iff_getElem?
noncomputable def JG:=@PySem.wpAny_isOneOf_keyiter
noncomputable def JH:=@List.eraseIdx_eq_take_drop_succ
noncomputable def JI:=@List.getElem?_set_ne
noncomputable def JJ:=@PySem.wpAny_execs_nil
noncomputable def JK:=@List.map_nil
noncomputable def JL:=@Nat.lt_trans
noncomputable def JM:=@PySem.wpAny_updateSeq_pair
noncomputable def JN:=@PyProof.Rows.listItems_at
noncomputable def JO:=@List.range_succ
noncomputable def JP:=@PySem.post_val_or_str
noncomputable def JQ:=@Nat.not_lt_zero
noncomputable def JR:=@List.length_zip
noncomputable def JS:=@List.map_map
noncomputable def JT:=@Nat.pow_le_pow_right
noncomputable def JU:=@List.map_set
noncomputable def JV:=@Nat.min_eq_left
noncomputable def JW:=@List.filterMap_cons
noncomputable def JX:=@List.takeWhile_cons
noncomputable def JY:=@List.reverse_append
noncomputable def JZ:=@List.toList_toArray
noncomputable def J_:=@List.length_pos_iff
noncomputable def Ka:=@PySem.F.args_tuple_iterator_next_1
noncomputable def Kb:=@PySem.wpAny_setField
noncomputable def Kc:=@PySem.wpAny_fieldsOf
noncomputable def Ke:=@PySem.wpAny_ite_true
noncomputable def Kf:=@List.take_succ
noncomputable def Kg:=@PySem.tupleKind_room_in1
noncomputable def Kh:=@Array.append_empty
noncomputable def Ki:=@PySem.F.entry_tuple_iterator_next
noncomputable def Kj:=@Array.getD_eq_getD_getElem?
noncomputable def Kk:=@Nat.add_sub_cancel
noncomputable def Kl:=@List.map_replicate
noncomputable def Km:=@List.prefix_append
noncomputable def Kn:=@Int.emod_lt_of_pos
noncomputable def Ko:=@PySem.Calls.Name_function_global
noncomputable def Kp:=@PySem.wpAny_letOwnedTupleGo_enum
noncomputable def Kq:=@PySem.wpAny_onRaise
noncomputable def Ks:=@bne_self_eq_false
noncomputable def Kt:=@PySem.typeIs_int
noncomputable def Ku:=@PySem.wpAny_binaryOp_repeat_ref
noncomputable def Kv:=@PySem.wpAny_rule
noncomputable def Kw:=@PySem.Calls.call_function_entry
noncomputable def Kx:=@List.extract_eq_take_drop
noncomputable def Ky:=@List.exists_mem_of_ne_nil
noncomputable def Kz:=@Nat.not_lt
noncomputable def K0:=@Array.getElem?_eq_getElem
noncomputable def K1:=@PySem.wpAny_eqBool_int
noncomputable def K2:=@Nat.le_of_eq
noncomputable def K4:=@List.all_eq_true
noncomputable def K6:=@PySem.wpAny_comprehension_free
noncomputable def K7:=@PySem.Heap.size_update
noncomputable def K8:=@Array.toList_inj
noncomputable def K9:=@List.Pairwise.imp_of_mem
noncomputable def KA:=@List.perm_middle
noncomputable def KC:=@Nat.min_self
noncomputable def KD:=@List.map_snd_zip
noncomputable def KG:=@List.Perm.eq_of_pairwise
noncomputable def KH:=@Nat.min_eq_right
noncomputable def KI:=@List.getElem?_replicate
noncomputable def KJ:=@PySem.wpAny_pyNext_enum_itemD
noncomputable def KL:=@List.length_eq_zero_iff
noncomputable def KN:=@List.pairwise_singleton
noncomputable def KO:=@List.of_mem_zip
noncomputable def KP:=@List.foldl_cons
noncomputable def KQ:=@List.forIn_cons
noncomputable def KR:=@PySem.wpAny_loadPart'
noncomputable def KW:=@PySem.wpAny_dictEpoch
noncomputable def KY:=@Int.emod_nonneg
noncomputable def K_:=@PySem.Calls.callWith_builtin
noncomputable def La:=@PySem.wpAny_pyNext_enum_endD
noncomputable def Lb:=@Int.le_refl
noncomputable def Lc:=@List.length_eq_one_iff
noncomputable def Ld:=@Int.le_ediv_iff_mul_le
noncomputable def Le:=@Array.getElem?_eq_none
noncomputable def Lf:=@Int.sub_mul
noncomputable def Lg:=@Nat.pow_add
noncomputable def Lh:=@PySem.fitsIndex_both
noncomputable def Lj:=@PySem.wpAny_newTuple
noncomputable def Lm:=@List.eq_nil_or_concat
noncomputable def Ln:=@List.countP_mono_left
noncomputable def Lo:=@PySem.typeIs_str
noncomputable def Lp:=@PySem.plainId_quiet
noncomputable def Lq:=@List.map_take
noncomputable def Lr:=@PySem.codeAny_mono
noncomputable def Ls:=@PySem.seqIndex_neg
noncomputable def Lu:=@PySem.callType_new
noncomputable def Lv:=@PySem.wpAny_typeOf
noncomputable def Lz:=@Nat.sub_zero
noncomputable def L0:=@Nat.zero_add
noncomputable def L8:=@Nat.pow_succ
abbrev LA:=PySem.W.Frag
variable{K:LA}
abbrev Key:=Sum Int Str
noncomputable def hG:Key->Value->Bool
 |.inl k,v=>Value.isInt k v
 |.inr x,v=>Value.isStrOf x v
noncomputable def Fh(w:World):Key->Int
 |.inl k=>hashInt k
 |.inr x=>hashStr w x
theorem bJ:∀{k:Key} {v:Value},hG k v=true->(∃i t,k=Sum.inl i/\v=Value.int i t)\/(∃x t,k=Sum.inr x/\v=Value.str x t)
 |.inl i,v,h=>by
  obtain⟨t,e⟩:=Value.isInt_shape (k:=i) (v:=v) h;exact .inl ⟨i,t,rfl,e⟩
 |.inr x,v,h=>by
  obtain⟨t,e⟩:=Value.isStrOf_shape (x:=x) (v:=v) h;exact .inr ⟨x,t,rfl,e⟩
theorem tU(i:Int)(t:Tok):hG (.inl i) (.int i t)=true:=by simp[hG,Value.isInt]
theorem s_(x:Str)(t:Tok):hG (.inr x) (.str x t)=true:=by simp[hG,Value.isStrOf]
theorem AY(a b:Int):decide ((Sum.inl a:Key)=Sum.inl b)=(a == b):=by
 by_cases e:a=b
 ·subst e;simp
 ·have h:¬ (Sum.inl a:Key)=Sum.inl b:=λq=>e (Sum.inl.inj q);rw[GH h];exact (G_.mpr e).symm
theorem AM(a b:Str):decide ((Sum.inr a:Key)=Sum.inr b)=decide (a=b):=by
 by_cases e:a=b
 ·subst e;simp
 ·have h:¬ (Sum.inr a:Key)=Sum.inr b:=λq=>e (Sum.inr.inj q);rw[GH h,GH e]
theorem BJ(a:Int)(b:Str):decide ((Sum.inl a:Key)=Sum.inr b)=false:=GH (λq=>nomatch q)
theorem AA(a:Str)(b:Int):decide ((Sum.inr a:Key)=Sum.inl b)=false:=GH (λq=>nomatch q)
noncomputable def bG(prog:Program)(w:World):PySem.KeyKind prog w Key where
 is:=hG
 hash:=Fh w
 inj:=λv a b ha hb=>by
  rcases bJ ha with ⟨i,t,rfl,rfl⟩|⟨x,t,rfl,rfl⟩
  ·rcases bJ hb with ⟨j,u,rfl,e⟩|⟨y,u,rfl,e⟩
   ·injection e with e1 _;rw[e1]
   ·exact nomatch e
  ·rcases bJ hb with ⟨j,u,rfl,e⟩|⟨y,u,rfl,e⟩
   ·exact nomatch e
   ·injection e with e1 _;rw[e1]
 byValue:=λk v h=>by
  rcases bJ h with ⟨i,t,rfl,rfl⟩|⟨x,t,rfl,rfl⟩<;>rfl
 pyHash:=λhv h=>by
  rcases bJ hv with ⟨i,t,rfl,rfl⟩|⟨x,t,rfl,rfl⟩
  ·exact wpAny_pyHash_int h
  ·exact wpAny_pyHash_str h
 eqBool:=λhu hv h=>by
  rcases bJ hu with ⟨i,t,rfl,rfl⟩|⟨x,t,rfl,rfl⟩
  ·rcases bJ hv with ⟨j,u,rfl,rfl⟩|⟨y,u,rfl,rfl⟩
   ·rw[AY] at h;exact K1 h
   ·rw[BJ] at h;exact SeqAt.EqAt.int_str i t y u _ _ _ _ h
  ·rcases bJ hv with ⟨j,u,rfl,rfl⟩|⟨y,u,rfl,rfl⟩
   ·rw[AA] at h;exact SeqAt.EqAt.str_int x t j u _ _ _ _ h
   ·rw[AM] at h;exact wpAny_eqBool_str h
 «strs»:=λk x t v h=>by
  rcases bJ h with ⟨i,u,rfl,e⟩|⟨y,u,rfl,e⟩
  ·exact nomatch e
  ·injection e with e1 _
   subst e1
   cases v<;>rfl
theorem oC(prog:Program)(w:World)(i:Int)(t:Tok):(bG prog w).is (.inl i) (.int i t)=true:=tU i t
theorem oi(prog:Program)(w:World)(x:Str)(t:Tok):(bG prog w).is (.inr x) (.str x t)=true:=s_ x t
inductive V where
 |aQ|bl (b:Bool)|int (i:Int)|str (x:Str)|oI (b:Array UInt8)|Cf (b:UInt64)|ref (a:Addr)|ty (n:String)
 deriving DecidableEq
variable{xs:List V}
noncomputable def RelV:V->Value->Prop
 |.aQ,u=>u=Value.none
 |.bl b,u=>u=Value.bool b
 |.int i,u=>∃t,u=Value.int i t
 |.str x,u=>∃t,u=Value.str x t
 |.oI b,u=>∃t,u=Value.bytes b t
 |.Cf b,u=>∃t,u=Value.float b t
 |.ref a,u=>u=Value.ref a
 |.ty n,u=>u=Value.type n
abbrev Vals:List V->List Value->Prop:=Paired RelV
theorem Vals.length(r:Vals xs us):xs.length=us.length:=Paired.length r
theorem Vals.get:∀{xs:List V} {us:List Value} {i:Nat} {x:V},Vals xs us->xs[i]?=some x->∃u,us[i]?=some u/\RelV x u
 |_,_,_,_,.nil,e=>by simp at e
 |_,_,0,_,.cons r _,e=>by simp at e;subst e;exact⟨_,rfl,r⟩
 |_,_,i+1,x,.cons _ t,e=>by
  obtain⟨u,h1,h2⟩:=Vals.get (i:=i) (x:=x) t (by simpa using e)
  exact⟨u,by simpa using h1,h2⟩
theorem Vals.set{x:V}(r:RelV x u):∀{xs:List V} {us:List Value} (i:Nat),Vals xs us->Vals (xs.set i x) (us.set i u)
 |_,_,_,.nil=>.nil
 |_,_,0,.cons _ t=>.cons r t
 |_,_,i+1,.cons q t=>.cons q (Vals.set r i t)
theorem Vals.append:∀{xs ys:List V} {us ws:List Value},Vals xs us->Vals ys ws->Vals (xs++ys) (us++ws)
 |_,_,_,_,.nil,s=>s
 |_,_,_,_,.cons r t,s=>.cons r (Vals.append t s)
theorem Vals.take:∀{xs:List V} {us:List Value} (n:Nat),Vals xs us->Vals (xs.take n) (us.take n)
 |_,_,0,_=>.nil
 |_,_,_+1,.nil=>.nil
 |_,_,n+1,.cons r t=>.cons r (Vals.take n t)
theorem Vals.drop:∀{xs:List V} {us:List Value} (n:Nat),Vals xs us->Vals (xs.drop n) (us.drop n)
 |_,_,0,r=>r
 |_,_,_+1,.nil=>.nil
 |_,_,n+1,.cons _ t=>Vals.drop n t
noncomputable def gc:Option V->Option Value->Prop
 |some v,some u=>RelV v u
 |none,none=>True
 |_,_=>False
noncomputable def KV{κ:Type}:List (κ×V)->List (κ×Value)->Prop:=Paired λ(p:κ×V) (q:κ×Value)=>p.1=q.1/\RelV p.2 q.2
noncomputable def kV:Key->V
 |.inl i=>.int i
 |.inr x=>.str x
inductive HO where
 |lst (xs:List V)
 |tup (xs:List V)
 |dK (kvs:List (Key×V))|dT (kvs:List (List Key×V))
 |set (S:Int->Bool) (n:Nat)
 |ins (C dx:Addr) (fs:List (Str×V))
 |own (x:Addr)
 |xd (fs:List (Str×V))
 |met (f x:Addr)
 |mN (lo hi:Int)
 |hZ (o:Obj) (u:HO)
 |uF (ps:Array Value)
 |ext (φ:Heap->Prop)
variable{o:HO}
abbrev Hp:=Addr->Option HO
variable{H:Hp}
noncomputable def upd(H:Hp)(a:Addr)(o:HO):Hp:=λb=>if b=a then some o else H b
theorem aa:upd H a o a=some o:=by unfold upd;rw[Gp rfl]
theorem ae(h:b≠a):upd H a o b=H b:=by unfold upd;rw[Gn h]
theorem my{u:HO}:upd (upd H a o) a u=upd H a u:=by
 funext b;unfold upd;split<;>rfl
theorem CZ{u:HO}(h:H a=some o)(h':H b=some u)(d:o≠u):a≠b:=by
 intro e;subst e;rw[h] at h';exact d (Option.some.inj h')
theorem ai(h:H a=some o)(h':H b=none):a≠b:=by
 intro e;subst e;rw[h] at h';cases h'
noncomputable def Fp:List Value->Str
 |.str q _::_=>q
 |_=>Str.ofString ""
noncomputable def vp(ps:Array Value):Str:=Fp ps.toList
noncomputable def Ah(H:Hp)(q:Str)(cv:Value):Prop:=∃(c:Addr) (oc:Obj) (vs:Array Value) (t:Tok),cv=.ref c/\H c=some (.hZ oc (.own c))/\oc.data=.fields vs/\vs[1]?=some (.str q t)
noncomputable def dI(h:Heap)(a:Addr)(items:Array Value):Prop:=∃o:Obj,h.get? a=some o/\o.cls=.type "tuple"/\∃n,o.data=.seq items n/\o.dict=none
theorem dI.to(x:dI h a items):IsTup h a items:=let ⟨o,e,c,n,d,_⟩:=x;⟨o,e,c,n,d⟩
theorem dI.new(h:Heap)(items:Array Value):dI (h.push {cls:=.type "tuple",data:=.seq items}) h.objs.size items:=⟨_,G0 h rfl,rfl,_,rfl,rfl⟩
theorem dI.lt(x:dI h a items):a<h.objs.size:=x.to.lt
section
variable (P:Program) (w:World)
noncomputable def bp(H:Hp)(h:Heap)(a:Addr):HO->Prop
 |.lst xs=>xs.length<=sizeLine/\∃(its:List Value) (n:Nat),Vals xs its/\h.get? a=some {cls:=.type "list",data:=.seq its.toArray n}
 |.tup xs=>xs.length<=sizeLine/\∃its:List Value,Vals xs its/\dI h a its.toArray
 |.dK kvs=>kvs.length<=sizeLine/\(a == sysModules)=false/\∃vs,KV kvs vs/\h.DictOf (bG P w) a vs
 |.dT kvs=>kvs.length<=sizeLine/\(a == sysModules)=false/\∃xs:List (List Key×Addr×Value),
   Paired (λ(p:List Key×V) (q:List Key×Addr×Value)=>p.1=q.1/\H q.2.1=some (.tup (p.1.map kV))/\RelV p.2 q.2.2) kvs xs /\
   ∃o es ep,h.get? a=some o/\o.ExactDict/\o.data=.dict es ep/\es.toList=xs.map (entryOfKey (tupleKind (bG P w)))/\(xs.map (·.1)).Nodup
 |.set S n=>h.SetOf (intKind P w) a S n
 |.ins C dx fs=>H dx=some (.own a)/\fs.length<=1000/\dx≠a/\h.get? a=some (PySem.W.instObj C dx) /\
   ∃mA,h.Ns1 dx mA/\(∀f,gc (fs.lookup f) (mA f))/\PySem.Within mA (fs.map (·.1))
 |.own _=>∃o,h.get? a=some o
 |.xd fs=>∃mA,h.Ns1 a mA/\∀f,gc (fs.lookup f) (mA f)
 |.mN lo hi=>∃t u v,h.get? a=some {cls:=.type "range",data:=.fields #[.int lo t,.int hi u,.int 1 v]}
 |.hZ o u=>h.get? a=some o/\bp H h a u
 |.uF ps=>∃qs:Array Value,h.get? a=some {cls:=.none,data:=.fields qs}/\TriplesOk qs.toList/\∀pos cv,codeAmong pos qs.toList=some cv->Ah H (vp ps) cv
 |.met f x=>h.get? a=some (PySem.W.methodObj (.ref f) (.ref x))
 |.ext φ=>φ h/\(∃o,h.get? a=some o)/\∀h1 h2:Heap,φ h1->(∀o,h1.get? a=some o->h2.get? a=some o)->φ h2
noncomputable def gy(H:Hp)(h:Heap):Prop:=∀a o,H a=some o->bp P w H h a o
end
section
variable {P:Program} {w:World} {H H':Hp} {h h':Heap} {a:Addr} {o:HO}
theorem bp.lt(x:bp P w H h a o):a<h.objs.size:=by
 cases o with
 |lst xs=>obtain⟨_,_,_,_,e⟩:=x;exact G5 e
 |tup xs=>obtain⟨_,_,_,p⟩:=x;exact p.lt
 |dK kvs=>obtain⟨_,_,_,_,o,_,_,e,_⟩:=x;exact G5 e
 |dT kvs=>obtain⟨_,_,_,_,o,_,_,e,_⟩:=x;exact G5 e
 |set S n=>obtain⟨o,_,_,_,e,_⟩:=x;exact G5 e
 |ins C dx fs=>obtain⟨_,_,_,e,_⟩:=x;exact G5 e
 |own y=>obtain⟨_,e⟩:=x;exact G5 e
 |xd fs=>obtain⟨_,⟨_,_,_,e,_⟩,_⟩:=x;exact G5 e
 |mN lo hi=>obtain⟨_,_,_,e⟩:=x;exact G5 e
 |hZ ob u=>obtain⟨e,_⟩:=x;exact G5 e
 |uF ps=>obtain⟨_,e,_⟩:=x;exact G5 e
 |met f y=>exact G5 (show h.get? a=some _ from x)
 |ext φ=>obtain⟨_,⟨_,e⟩,_⟩:=x;exact G5 e
theorem Paired.vv{α β:Type}{F G:α->β->Prop}:∀{l₁:List α} {l₂:List β},Paired F l₁ l₂->(∀a b,F a b->G a b)->Paired G l₁ l₂
 |_,_,.nil,_=>.nil
 |_,_,.cons r t,f=>.cons (f _ _ r) (Paired.vv t f)
theorem bp.mw(x:bp P w H h a o)(k:∀b u,(b=a\/H b=some (.own a))->h.get? b=some u->h'.get? b=some u)
  (ho:∀b,H b=some (.own a)->H' b=some (.own a)) (ht:∀b xs,H b=some (.tup xs)->H' b=some (.tup xs)) (hz:∀b o u,H b=some (.hZ o u)->H' b=some (.hZ o u)):bp P w H' h' a o:=by
 induction o with
 |lst xs=>obtain⟨z,its,n,r,e⟩:=x;exact⟨z,its,n,r,k _ _ (.inl rfl) e⟩
 |tup xs=>obtain⟨z,its,r,ob,e,c⟩:=x;exact⟨z,its,r,ob,k _ _ (.inl rfl) e,c⟩
 |dK kvs=>obtain⟨z,y,vs,r,ob,es,ep,e,c⟩:=x;exact⟨z,y,vs,r,ob,es,ep,k _ _ (.inl rfl) e,c⟩
 |dT kvs =>
  obtain⟨z,y,xs,r,ob,es,ep,e,c⟩:=x;exact⟨z,y,xs,Paired.vv r λp q z=>⟨z.1,ht _ _ z.2.1,z.2.2⟩,ob,es,ep,k _ _ (.inl rfl) e,c⟩
 |set S n=>obtain⟨ob,es,ep,t,e,c⟩:=x;exact⟨ob,es,ep,t,k _ _ (.inl rfl) e,c⟩
 |ins C dx fs =>
  obtain⟨d,z,ne,e,mA,⟨od,es,ep,e2,c⟩,r⟩:=x;exact⟨ho _ d,z,ne,k _ _ (.inl rfl) e,mA,⟨od,es,ep,k _ _ (.inr d) e2,c⟩,r⟩
 |own y=>obtain⟨ob,e⟩:=x;exact⟨ob,k _ _ (.inl rfl) e⟩
 |xd fs=>obtain⟨mA,⟨od,es,ep,e,c⟩,r⟩:=x;exact⟨mA,⟨od,es,ep,k _ _ (.inl rfl) e,c⟩,r⟩
 |mN lo hi=>obtain⟨t,u,v,e⟩:=x;exact⟨t,u,v,k _ _ (.inl rfl) e⟩
 |hZ ob u ih=>obtain⟨e,q⟩:=x;exact⟨k _ _ (.inl rfl) e,ih q⟩
 |uF ps =>
  obtain⟨qs,e,t,f⟩:=x;exact⟨qs,k a _ (.inl rfl) e,t,λpos cv q=>let ⟨c,oc,vs,t',e1,e2,e3⟩:=f pos cv q;⟨c,oc,vs,t',e1,hz _ _ _ e2,e3⟩⟩
 |met f y =>
  have e:h.get? a=some (PySem.W.methodObj (.ref f) (.ref y)):=x;show h'.get? a=some (PySem.W.methodObj (.ref f) (.ref y));exact k a _ (.inl rfl) e
 |ext φ=>obtain⟨p,⟨o,e⟩,st⟩:=x;exact⟨st _ _ p λo q=>k _ _ (.inl rfl) q,⟨o,k _ _ (.inl rfl) e⟩,st⟩
theorem gy.lt(x:gy P w H h)(e:H a=some o):a<h.objs.size:=(x a o e).lt
theorem gy.fresh(x:gy P w H h)(e:h.objs.size<=a):H a=none:=by
 cases q:H a with
 |none=>rfl
 |some u=>exact absurd (GI (x.lt q) e) (Ic _)
theorem gy.kept(x:gy P w H h)(k:∀b u,h.get? b=some u->h'.get? b=some u):gy P w H h':=λa o e =>
 (x a o e).mw (λb u _ q=>k b u q) (λ_ q=>q) (λ_ _ q=>q) λ_ _ _ q=>q
theorem gy.laid(x:gy P w H h)(k:∀b u,h.get? b=some u->h'.get? b=some u)(hp:h.objs.size<=a)(new:bp P w (upd H a o) h' a o):gy P w (upd H a o) h':=λb u e=>by
 have hn:=x.fresh hp;by_cases hb:b=a
 ·subst hb;rw[aa] at e;cases e;exact new
 ·rw[ae hb] at e;exact (x b u e).mw (λc v _ q=>k c v q) (λc q=>by rw[ae (ai q hn)];exact q) (λc xs q=>by rw[ae (ai q hn)];exact q) λc _ _ q=>by rw[ae (ai q hn)];exact q
end
noncomputable def Rd(H:Hp)(a:Addr)(u:HO):Prop:=H a=some u\/∃o,H a=some (.hZ o u)
theorem Rd.ok{u:HO}(r:Rd H a u)(x:gy P w H h):bp P w H h a u:=by
 rcases r with r|⟨o,r⟩
 ·exact x a u r
 ·obtain⟨_,q⟩:=x a _ r;exact q
noncomputable def DX:Option HO->Prop
 |some (.lst _)=>True
 |some (.dK _)=>True
 |some (.dT _)=>True
 |some (.set _ _)=>True
 |some (.ins _ _ _)=>True
 |some (.ext _)=>True
 |_=>False
section
variable {P:Program} {w:World} {H:Hp} {h h':Heap} {x e:Addr} {o':HO}
theorem gy.write(ok:gy P w H h)(mu:DX (H x))(he:e=x\/H e=some (.own x))(k:∀b u,b≠e->h.get? b=some u->h'.get? b=some u)(heo:∃u,h'.get? e=some u)
  (new:bp P w (upd H x o') h' x o'):gy P w (upd H x o') h':=λb u q=>by
 have nown:∀c y,H c=some (.own y)->c≠x:=λc y r z=>by subst z;rw[r] at mu;exact mu
 have ntup:∀c xs,H c=some (.tup xs)->c≠x:=λc xs r z=>by subst z;rw[r] at mu;exact mu
 have nfrz:∀c o1 u1,H c=some (.hZ o1 u1)->c≠x:=λc _ _ r z=>by subst z;rw[r] at mu;exact mu
 by_cases hb:b=x
 ·subst hb;rw[aa] at q;cases q;exact new
 ·rw[ae hb] at q;by_cases hbe:b=e
  ·have q':H b=some (.own x):=by
    rcases he with z|z
    ·exact absurd (hbe.trans z) hb
    ·rw[hbe];exact z
   rw[q] at q';cases q';obtain⟨v,hv⟩:=heo;exact⟨v,by rw[hbe];exact hv⟩
  ·refine (ok b u q).mw (λc v hc r=>k c v ?_ r) (λc r=>by rw[ae (nown c b r)];exact r) (λc xs r=>by rw[ae (ntup c xs r)];exact r) λc _ _ r=>by rw[ae (nfrz c _ _ r)];exact r
   rcases hc with rfl|hc
   ·exact hbe
   ·rintro rfl;rcases he with z|z
    ·exact nown c b hc z
    ·rw[hc] at z;cases z;exact hb rfl
end
structure Un (fs ex:List Addr) (H H':Hp) (h h':Heap):Prop where
 keep:∀b o,h.get? b=some o->H b=none->b∉fs->b∉ex->h'.get? b=some o
 slot:∀b o,h.get? b=some o->H b=none->b∈fs->b∉ex->∃sl,h'.get? b=some {o with slots:=sl}
 free:∀b o,h.get? b=some o->H b=none->b∉ex->H' b=none
 there:∀b o,h.get? b=some o->b∉ex->∃o',h'.get? b=some o'
 mT:∀b xs,H b=some (.tup xs)->H' b=some (.tup xs)
 lX:∀b o u,H b=some (.hZ o u)->H' b=some (.hZ o u)
 jT:∀b ps,H b=some (.uF ps)->∃more,H' b=some (.uF (ps++more))
section
variable {fs fs' ex ex':List Addr} {H H1 H2:Hp} {h h1 h2 h':Heap} {a x e:Addr} {o:HO}
theorem Un.any(u:Un fs ex H H1 h h1){ob:Obj}(q:h.get? b=some ob)(n:H b=none)(hx:b∉ex):∃sl,h1.get? b=some {ob with slots:=sl}:=by
 by_cases hb:b∈fs
 ·exact u.slot b ob q n hb hx
 ·exact⟨ob.slots,u.keep b ob q n hb hx⟩
theorem Un.kept(k:∀b u,h.get? b=some u->h'.get? b=some u):Un fs ex H H h h':=
 ⟨λb ob q _ _ _=>k b ob q,λb ob q _ _ _=>⟨ob.slots,k b ob q⟩,λ_ _ _ n _=>n,λb ob q _=>⟨ob,k b ob q⟩,λ_ _ q=>q,λ_ _ _ q=>q,λ_ ps q=>⟨#[],by rw[q];simp⟩⟩
theorem Un.refl:Un fs ex H H h h:=Un.kept λ_ _ q=>q
theorem Un.laid(k:∀b u,h.get? b=some u->h'.get? b=some u)(hp:h.objs.size<=a)(hn:H a=none):Un fs ex H (upd H a o) h h' where
 keep:=λb u q _ _ _=>k b u q
 slot:=λb u q _ _ _=>⟨u.slots,k b u q⟩
 free:=λb u q n _=>by rw[ae (GD (GI (G5 q) hp))];exact n
 there:=λb u q _=>⟨u,k b u q⟩
 mT:=λb xs q=>by rw[ae (ai q hn)];exact q
 lX:=λb u xs q=>by rw[ae (ai q hn)];exact q
 jT:=λb ps q=>⟨#[],by rw[ae (ai q hn),q];simp⟩
theorem Un.write(mu:DX (H x))(he:e=x\/H e=some (.own x))(k:∀b u,b≠e->h.get? b=some u->h'.get? b=some u)(heo:∃u,h'.get? e=some u):Un fs ex H (upd H x o) h h':=by
 have hx:∀b,H b=none->b≠x:=λb n z=>by subst z;rw[n] at mu;exact mu
 have hb:∀b,H b=none->b≠e:=λb n z=>by
  subst z;rcases he with r|r
  ·exact hx b n r
  ·rw[n] at r;cases r
 have hm:∀b u,H b=some u->¬ DX (some u)->b≠x:=λb u q nm z=>by subst z;rw[q] at mu;exact nm mu
 refine⟨λb u q n _ _=>k b u (hb b n) q,λb u q n _ _=>⟨u.slots,k b u (hb b n) q⟩,λb u q n _=>by rw[ae (hx b n)];exact n,λb u q _=>?_,
  λb xs q=>by rw[ae (hm b _ q λz=>z)];exact q,λb u xs q=>by rw[ae (hm b _ q λz=>z)];exact q,λb ps q=>⟨#[],by rw[ae (hm b _ q λz=>z),q];simp⟩⟩
 by_cases hbe:b=e
 ·subst hbe;exact heo
 ·exact⟨u,k b u hbe q⟩
end
noncomputable def Dt(h:Heap)(H:Hp):List Addr:=(List.range h.objs.size).filter λa=>(H a).isSome
noncomputable def jW(h:Heap)(H:Hp):Heap:=PySem.W.hideAll h (Dt h H)
theorem tR(h:Heap)(H:Hp):(jW h H).objs.size=h.objs.size:=PySem.W.hideAll_size _ _
theorem gW{o:Obj}(e:h.get? b=some o)(n:H b=none):(jW h H).get? b=some o:=
 PySem.W.hideAll_get _ e λhm=>by
  have q:(H b).isSome=true:=(List.mem_filter.mp hm).2;rw[n] at q;simp at q
theorem yv{o:Obj}(e:(jW h H).get? b=some o):h.get? b=some o/\H b=none:=by
 have e':h.get? b=some o:=PySem.W.of_hideAll (Dt h H) e;refine⟨e',?_⟩
 cases q:H b with
 |none=>rfl
 |some x =>
  have hm:b∈Dt h H:=List.mem_filter.mpr ⟨HH.mpr (G5 e'),by simp[q]⟩
  have z:(jW h H).get? b=none:=PySem.W.hideAll_none (Dt h H) hm;rw[z] at e;cases e
noncomputable def xF(g h:Heap)(L:Addr):List (Addr×Obj):=(List.range h.objs.size).filterMap λa=>if a=L\/(g.get? a).isSome=true then none else (h.get? a).map λo=>(a,o)
noncomputable def rest(g h:Heap)(L d:Addr):List (Addr×Obj):=(xF g h L).filter λp=>decide (p.1≠d)
noncomputable def dJ:List Str:=["by_worth","by_weight","code_of"]
noncomputable def bV(K:LA):List (Addr×Addr×Str):=dJ.filterMap λx=>(PySem.W.tabIn K x).map λp=>(p.1,p.2,(x++".<locals>.")++"<lambda>")
noncomputable def TabsOk(K:LA)(H:Hp):Prop:=∀t∈bV K,∃more,H t.2.1=some (.uF (#[.str t.2.2 0]++more))
theorem TabsOk.un{fs ex:List Addr}{H1:Hp}{h1:Heap}(x:TabsOk K H)(u:Un fs ex H H1 h h1):TabsOk K H1:=λt ht=>by
 obtain⟨m,e⟩:=x t ht;obtain⟨m2,e2⟩:=u.jT _ _ e;exact⟨m++m2,by rw[e2,Array.append_assoc]⟩
noncomputable def BR(mg:Str->Option Value)(h:Heap):Prop:=∃bm ob,mg "__builtins__"=some (.ref bm)/\bm≠builtinsNs/\h.get? bm=some ob/\ob.cls=.type "module"/\ob.dict=some builtinsNs/\ob.data=.plain
structure Mod (K:LA) (mg:Str->Option Value) (base:Heap):Prop where
 Dz:K.In base
 glob:base.Ns mainGlobals mg
 blt:∃mb,base.Ns builtinsNs mb/\∀x:Str,x≠"__name__"->mb x=bootBuiltins x
 nolimit:base.NoLimit
 codes:∀t∈bV K,PySem.W.CodeHd base t.1 t.2.1
 bm:BR mg base
structure Cx where
 prog:Program
 w:World
 K:LA
 mg:Str->Option Value
 base:Heap
 A:Around
 N:List Str
 s₀:Shared
 H₀:Hp
 env:Env
 outer:List Env
 stack:List Env
 ex:List Addr
 fn:Str->Bool
 calm:Bool
 pn:List (Addr×Obj)
 xe:Value->Shared->Prop
variable{X:Cx}
noncomputable def t_(l:List Env):List Addr:=l.filterMap (·.frame)
abbrev Cx.fs(X:Cx):List Addr:=t_ X.outer
noncomputable def DG(sc:Scope)(x:Str):Prop:=sc.names.lookup x=some .local\/sc.names.lookup x=some .cell\/sc.names.lookup x=some .free
noncomputable def Loc(sc:Scope)(x:Str):Prop:=sc.names.lookup x=some .local\/sc.names.lookup x=some .cell
noncomputable def Look(env:Env)(h:Heap)(m:Str->Option Value)(x:Str)(u:Value):Prop:=
 (env.kindOf x=some .local/\m x=some u)\/((env.kindOf x=some .cell\/env.kindOf x=some .free)/\∃c,env.cells.lookup x=some c/\h.IsCell c (some u))
structure Cx.Ok (X:Cx):Prop where
 mod:Mod X.K X.mg X.base
 kind:X.env.scope.kind=.function
 glob:X.env.globals=mainGlobals
 blt:X.env.builtins=builtinsNs
 above:X.s₀.heap.objs.size<=X.env.locals
 inj:∀x y c,X.env.cells.lookup x=some c->X.env.cells.lookup y=some c->x=y
 has:∀x,(X.env.kindOf x=some .cell\/X.env.kindOf x=some .free)->∃c,X.env.cells.lookup x=some c
 Ec:∀x c,X.fn x=true->X.env.cells.lookup x=some c->X.s₀.heap.objs.size<=c
 hd:X.calm=true->X.A.handled=none
 frames:X.A.frames=some X.stack
 EE:X.stack=X.outer\/(X.stack=X.env::X.outer/\X.env.frame=some X.env.locals)
 FP:∀b∈X.ex,b≠X.env.locals/\∀x c,X.env.cells.lookup x=some c->c≠b
 bs:∀b o,X.base.get? b=some o->X.s₀.heap.get? b=some o/\X.H₀ b=none
 xB:X.base.objs.size<=X.s₀.heap.objs.size
 xp:∀b o,X.base.get? b=some o->b∉X.ex
 yo:∀b∈X.ex,b∉X.fs
 iL:X.s₀.heap.FunFrames X.base X.outer
 Ba:∀b∈X.fs,X.H₀ b=none
 tabs:TabsOk X.K X.H₀
structure Inv (X:Cx) (pins:List (Addr×Obj)) (σ:List (Option V)) (H:Hp) (s:Shared):Prop where
 ok:X.Ok
 os:s.os=X.s₀.os
 bare:AllBare s.gens
 base:Un X.fs X.ex X.H₀ H X.s₀.heap s.heap
 loc:∃m,s.heap.Ns X.env.locals m/\∀(i:Nat) (x:Str) (v:V),X.N[i]?=some x->σ[i]?=some (some v)->DG X.env.scope x->∃u,RelV v u/\Look X.env s.heap m x u
 cell:∀x c,X.env.cells.lookup x=some c->∃v,s.heap.IsCell c v
 free:H X.env.locals=none
 fv:∀x c,X.env.cells.lookup x=some c->H c=none
 pin:∀p∈X.pn++pins,s.heap.get? p.1=some p.2/\H p.1=none/\p.1≠X.env.locals/\p.1∉X.fs/\∀v,p.2.data≠.cell v
 aX:gy X.prog X.w H s.heap
 len:σ.length=X.N.length
section
variable {X:Cx} {pins:List (Addr×Obj)} {σ:List (Option V)} {H H':Hp} {s:Shared} {h':Heap}
theorem Cx.Ok.Fb(ok:X.Ok){o:Obj}(e:X.base.get? b=some o):b∉X.fs:=λhb=>by
 have:=(ok.iL.mem hb).1;rw[e] at this;cases this
theorem Inv.bs(I:Inv X pins σ H s):∀b o,X.base.get? b=some o->s.heap.get? b=some o/\H b=none:=λb o e =>
 ⟨I.base.keep b o (I.ok.bs b o e).1 (I.ok.bs b o e).2 (I.ok.Fb e) (I.ok.xp b o e),I.base.free b o (I.ok.bs b o e).1 (I.ok.bs b o e).2 (I.ok.xp b o e)⟩
theorem Inv.bk(I:Inv X pins σ H s):∀b o,X.base.get? b=some o->s.heap.get? b=some o:=λb o e=>(I.bs b o e).1
theorem Inv.mod(I:Inv X pins σ H s):Mod X.K X.mg X.base:=I.ok.mod
theorem Inv.gO(I:Inv X pins σ H s):X.K.In s.heap:=I.ok.mod.Dz.keeps I.bk
theorem Inv.nolimit(I:Inv X pins σ H s):s.heap.NoLimit:=I.ok.mod.nolimit.keeps I.bk
theorem Inv.lt(I:Inv X pins σ H s):X.env.locals<s.heap.objs.size:=let ⟨_,hn,_⟩:=I.loc;hn.lt
theorem Inv.sz(I:Inv X pins σ H s):X.s₀.heap.objs.size<=s.heap.objs.size:=Gw I.ok.above (Iw I.lt)
theorem Inv.E5(I:Inv X pins σ H s)(h:s.heap.objs.size<=a):a∉X.fs:=λhb=>by
 obtain⟨_,o,ho,_⟩:=I.ok.iL.mem hb;exact absurd (GI (G5 ho) (Gw I.sz h)) (Ic _)
theorem Inv.Ck(I:Inv X pins σ H s):∀x c,X.env.cells.lookup x=some c->c≠X.env.locals:=λx c e z=>by
 obtain⟨v,o,ho,hd⟩:=I.cell x c e;obtain⟨m,⟨o',es,ep,ho',hd',_⟩,_⟩:=I.loc;rw[z,ho'] at ho;cases ho;rw[hd'] at hd;cases hd
theorem Inv.iL(I:Inv X pins σ H s):s.heap.FunFrames X.base X.outer:=by
 have all:∀(l:List Env),(∀b∈t_ l,b∈X.fs)->X.s₀.heap.FunFrames X.base l->s.heap.FunFrames X.base l:=by
  intro l
  induction l with
  |nil=>intro _ _;trivial
  |cons env r ih =>
   intro hs hl;obtain⟨hk,⟨L,o,hf,hn,ho,hd⟩,hr⟩:=hl;have hL:L∈X.fs:=hs L (by unfold t_;rw[JW,hf];exact GB)
   obtain⟨sl,e⟩:=I.base.slot L o ho (I.ok.Ba L hL) hL λz=>I.ok.yo L z hL;exact⟨hk,⟨L,_,hf,hn,e,hd⟩,ih (λb hb=>hs b (by unfold t_;rw[JW,hf];exact GA _ hb)) hr⟩
 exact all X.outer (λ_ hb=>hb) I.ok.iL
theorem Inv.stack(I:Inv X pins σ H s):s.heap.FunFrames X.base X.stack:=by
 rcases I.ok.EE with e|⟨e,hf⟩
 ·rw[e];exact I.iL
 ·rw[e];obtain⟨m,hn,_⟩:=I.loc;refine .cons (by rw[I.ok.kind];decide) hf hn ?_ I.iL
  exact Heap.get?_none_of_le (Gw I.ok.xB I.ok.above)
theorem Inv.kW(I:Inv X pins σ H s):∀b∈t_ X.stack,b∈X.env.locals::X.fs:=λb hb=>by
 rcases I.ok.EE with e|⟨e,hf⟩
 ·rw[e] at hb;exact GA _ hb
 ·rw[e] at hb;unfold t_ at hb;rw[JW,hf] at hb;exact hb
theorem Inv.mf(I:Inv X pins σ H s):∀b∈t_ X.stack,H b=none:=λb hb=>by
 rcases Gv.mp (I.kW b hb) with e|hb
 ·rw[e];exact I.free
 ·obtain⟨_,o,ho,_⟩:=I.ok.iL.mem hb;exact I.base.free b o ho (I.ok.Ba b hb) λz=>I.ok.yo b z hb
theorem Inv.step{t':Nat}{d':Drawn}(I:Inv X pins σ H s)
  (hch:∀b∈ch,(b∈X.ex\/X.s₀.heap.objs.size<=b)/\b≠X.env.locals/\(∀x c,X.env.cells.lookup x=some c->c≠b)/\∀p∈X.pn++pins,p.1≠b)
  (keep:∀b o,b≠X.env.locals->b∉X.fs->b∉ch->s.heap.get? b=some o->H b=none->h'.get? b=some o)
  (slot:∀b o,b≠X.env.locals->b∈X.fs->b∉ch->s.heap.get? b=some o->H b=none->∃sl,h'.get? b=some {o with slots:=sl}) (free:∀b o,b∉ch->s.heap.get? b=some o->H b=none->H' b=none)
  (there:∀b o,b∉ch->s.heap.get? b=some o->∃o',h'.get? b=some o')
  (mT:∀b xs,H b=some (.tup xs)->H' b=some (.tup xs)) (lX:∀b o u,H b=some (.hZ o u)->H' b=some (.hZ o u)) (jT:∀b ps,H b=some (.uF ps)->∃more,H' b=some (.uF (ps++more)))
  (ns:∀m,s.heap.Ns X.env.locals m->h'.Ns X.env.locals m) (aX:gy X.prog X.w H' h') (hg:AllBare g') :
  Inv X pins σ H' {s with heap:=h',gens:=g',drawn:=d',toks:=t'}:=by
 have neL:∀b o,X.s₀.heap.get? b=some o->b≠X.env.locals:=λb o e=>GD (GI (G5 e) I.ok.above);have neC:∀b o,X.s₀.heap.get? b=some o->b∉X.ex->b∉ch:=λb o e hx hb=>by
  rcases (hch b hb).1 with z|z
  ·exact hx z
  ·exact absurd (GI (G5 e) z) (Ic _)
 have cellK:∀x c,X.env.cells.lookup x=some c->∀v,s.heap.IsCell c v->h'.IsCell c v:=λx c e v ⟨o,ho,hd⟩=>by
  have nch:c∉ch:=λz=>(hch c z).2.2.1 x c e rfl;by_cases hc:c∈X.fs
  ·obtain⟨sl,q⟩:=slot c o (I.Ck x c e) hc nch ho (I.fv x c e);exact⟨_,q,hd⟩
  ·exact⟨o,keep c o (I.Ck x c e) hc nch ho (I.fv x c e),hd⟩
 refine⟨I.ok,I.os,hg,⟨λb o e n hb hx=>?_,λb o e n hb hx=>?_,λb o e n hx=>?_,λb o e hx=>?_,λb xs e=>mT b xs (I.base.mT b xs e),λb o xs e=>lX b o xs (I.base.lX b o xs e),λb ps e=>?_⟩,?_,λx c e=>?_,?_,λx c e=>?_,λp hp=>?_,aX,I.len⟩
 ·exact keep b o (neL b o e) hb (neC b o e hx) (I.base.keep b o e n hb hx) (I.base.free b o e n hx)
 ·obtain⟨sl,e1⟩:=I.base.slot b o e n hb hx;obtain⟨sl',e2⟩:=slot b _ (neL b o e) hb (neC b o e hx) e1 (I.base.free b o e n hx);exact⟨sl',e2⟩
 ·obtain⟨o',e1⟩:=I.base.there b o e hx;exact free b o' (neC b o e hx) e1 (I.base.free b o e n hx)
 ·obtain⟨o',e1⟩:=I.base.there b o e hx;exact there b o' (neC b o e hx) e1
 ·obtain⟨m1,e1⟩:=I.base.jT b ps e;obtain⟨m2,e2⟩:=jT b _ e1;exact⟨m1++m2,by rw[e2,Array.append_assoc]⟩
 ·obtain⟨m,hn,hl⟩:=I.loc;refine⟨m,ns m hn,λi x v e1 e2 e3=>?_⟩;obtain⟨u,r,l⟩:=hl i x v e1 e2 e3;refine⟨u,r,?_⟩;rcases l with l|⟨k,c,e,z⟩
  ·exact .inl l
  ·exact .inr ⟨k,c,e,cellK x c e _ z⟩
 ·obtain⟨v,z⟩:=I.cell x c e;exact⟨v,cellK x c e v z⟩
 ·obtain⟨m,⟨o,_,_,ho,_⟩,_⟩:=I.loc;exact free _ o (λz=>(hch _ z).2.1 rfl) ho I.free
 ·obtain⟨v,o,ho,hd⟩:=I.cell x c e;exact free c o (λz=>(hch c z).2.2.1 x c e rfl) ho (I.fv x c e)
 ·obtain⟨e,n,ne,nf,d⟩:=I.pin p hp;have nch:p.1∉ch:=λz=>(hch p.1 z).2.2.2 p hp rfl;exact⟨keep p.1 p.2 ne nf nch e n,free p.1 p.2 nch e n,ne,nf,d⟩
theorem Inv.un{t':Nat}(I:Inv X pins σ H s)(u:Un X.fs [] H H' s.heap h')(aX:gy X.prog X.w H' h'):Inv X pins σ H' {s with heap:=h',toks:=t'}:=by
 obtain⟨m,⟨o,es,ep,ho,r⟩,_⟩:=id I.loc;obtain⟨sl,hL⟩:=u.any ho I.free (by simp)
 exact I.step (g':=s.gens) (d':=s.drawn) (ch:=[]) (λ_ z=>nomatch z) (λb o _ hb _ e n=>u.keep b o e n hb (by simp)) (λb o _ hb _ e n=>u.slot b o e n hb (by simp)) (λb o _ e n=>u.free b o e n (by simp)) (λb o _ e=>u.there b o e (by simp)) u.mT u.lX u.jT (λm' hm=>by
  obtain⟨o',es',ep',ho',r'⟩:=hm;rw[ho] at ho';cases ho';exact⟨_,es',ep',hL,r'⟩) aX I.bare
theorem Inv.call{t':Nat}{d':Drawn}{ch:List Addr}(I:Inv X pins σ H s)(u:Un (t_ X.stack) ch H H' s.heap h')(aX:gy X.prog X.w H' h')(hg:AllBare g')
  (hch:∀b∈ch,(b∈X.ex\/X.s₀.heap.objs.size<=b)/\b≠X.env.locals/\(∀x c,X.env.cells.lookup x=some c->c≠b)/\∀p∈X.pn++pins,p.1≠b) :
  Inv X pins σ H' {s with heap:=h',gens:=g',drawn:=d',toks:=t'}:=by
 obtain⟨m,⟨o,es,ep,ho,r⟩,_⟩:=id I.loc;obtain⟨sl,hL⟩:=u.any ho I.free λz=>(hch _ z).2.1 rfl;exact I.step (ch:=ch) hch (λb o hL hb hc e n=>u.keep b o e n (λz=>(Gv.mp (I.kW b z)).elim hL hb) hc) (λb o _ _ hc e n=>u.any e n hc) (λb o hc e n=>u.free b o e n hc) (λb o hc e=>u.there b o e hc) u.mT u.lX u.jT (λm' hm=>by
  obtain⟨o',es',ep',ho',r'⟩:=hm;rw[ho] at ho';cases ho';exact⟨_,es',ep',hL,r'⟩) aX hg
theorem Inv.turned{t':Nat}{it:Addr}(I:Inv X pins σ H s)(k:∀b o,b≠it->s.heap.get? b=some o->h'.get? b=some o)(hn:H it=none)(hL:it≠X.env.locals)
  (h1:it∈X.ex\/X.s₀.heap.objs.size<=it) (h2:∀x c,X.env.cells.lookup x=some c->c≠it) (h3:∀p∈X.pn++pins,p.1≠it):Inv X pins σ H {s with heap:=h',toks:=t'}:=by
 have nit:∀b u,H b=some u->b≠it:=λb u e z=>by rw[z,hn] at e;cases e
 refine I.step (g':=s.gens) (d':=s.drawn) (ch:=[it]) (λb hb=>?_) (λb o _ _ hc e _=>k b o (λz=>hc (by simp[z])) e) (λb o _ _ hc e _=>⟨o.slots,k b o (λz=>hc (by simp[z])) e⟩) (λ_ _ _ _ n=>n)
  (λb o hc e=>⟨o,k b o (λz=>hc (by simp[z])) e⟩) (λ_ _ e=>e) (λ_ _ _ e=>e) (λb ps e=>⟨#[],by rw[e];simp⟩) (λm hm=>?_) (λb u e=>?_) I.bare
 ·have e:b=it:=by simpa using hb
  subst e;exact⟨h1,hL,h2,h3⟩
 ·obtain⟨o,es,ep,ho,r⟩:=hm;exact⟨o,es,ep,k _ o (Hy hL) ho,r⟩
 ·refine (I.aX b u e).mw (λc v hc q=>k c v ?_ q) (λ_ q=>q) (λ_ _ q=>q) λ_ _ _ q=>q;rcases hc with z|z
  ·rw[z];exact nit b u e
  ·exact nit c _ z
theorem Inv.tok(I:Inv X pins σ H s)(t:Nat):Inv X pins σ H {s with toks:=t}:=I.un (h':=s.heap) (t':=t) Un.refl I.aX
theorem Inv.kept{t':Nat}(I:Inv X pins σ H s)(k:∀b u,s.heap.get? b=some u->h'.get? b=some u):Inv X pins σ H {s with heap:=h',toks:=t'}:=I.un (Un.kept k) (I.aX.kept k)
theorem Inv.laid{t':Nat}(I:Inv X pins σ H s)(k:∀b u,s.heap.get? b=some u->h'.get? b=some u)(hp:s.heap.objs.size<=a)(new:bp X.prog X.w (upd H a o) h' a o):
  Inv X pins σ (upd H a o) {s with heap:=h',toks:=t'}:=I.un (Un.laid k hp (I.aX.fresh hp)) (I.aX.laid k hp new)
theorem Inv.write{x e:Addr}{t':Nat}(I:Inv X pins σ H s)(mu:DX (H x))(he:e=x\/H e=some (.own x))(k:∀b u,b≠e->s.heap.get? b=some u->h'.get? b=some u)(heo:∃u,h'.get? e=some u)
  (new:bp X.prog X.w (upd H x o) h' x o):Inv X pins σ (upd H x o) {s with heap:=h',toks:=t'}:=I.un (Un.write mu he k heo) (I.aX.write mu he k heo new)
theorem Inv.lL{pins':List (Addr×Obj)}(I:Inv X pins σ H s)(h:∀p∈pins',s.heap.get? p.1=some p.2/\H p.1=none/\p.1≠X.env.locals/\p.1∉X.fs/\∀v,p.2.data≠.cell v):Inv X pins' σ H s:=
 ⟨I.ok,I.os,I.bare,I.base,I.loc,I.cell,I.free,I.fv,λp hp=>(Hh.mp hp).elim (λz=>I.pin p (IV _ z)) (h p),I.aX,I.len⟩
theorem nU(hN:N.Nodup)(a:N[i]?=some x)(b:N[j]?=some x):i=j:=by
 obtain⟨h1,e1⟩:=Gq.mp a;obtain⟨h2,e2⟩:=Gq.mp b;exact (List.getElem_inj hN).mp (e1.trans e2.symm)
theorem kA{A:Around}{v:V}{Q:Unit->Shared->Prop}(I:Inv X pins σ H s)(hN:X.N.Nodup)(hi:X.N[i]?=some x)(hx:Loc X.env.scope x)(r:RelV v u)
  (h:∀s',Inv X pins (σ.set i (some v)) H s'->(∃a,Heap.SameBut a s.heap s'.heap/\(a=X.env.locals\/X.env.cells.lookup x=some a))->Q () s') (hf:autoParam (X.fn x=true\/X.env.scope.names.lookup x=some .local) ℜ2):wpAny M A (storeName X.env x u) Q E s:=by
 obtain⟨m,hn,hl⟩:=id I.loc;have hcls:(X.env.scope.kind == .class || (X.env.scope.kind == .module && X.env.locals != X.env.globals))=false:=by rw[I.ok.kind];rfl
 have hiσ:i<σ.length:=by rw[I.len];exact (Gq.mp hi).1
 have Ck:=I.Ck;have tracked:∀{a:Addr} {h':Heap},(∃o,s.heap.get? a=some o/\H a=none)->Heap.SameBut a s.heap h'->gy X.prog X.w H h':=λ{a h'} ha hs b ob e=>by
  obtain⟨_,_,hfree⟩:=ha;refine (I.aX b ob e).mw (λc w' hc q=>(hs.2 c ?_).trans q) (λ_ q=>q) (λ_ _ q=>q) λ_ _ _ q=>q;rintro rfl;rcases hc with rfl|hc
  ·rw[hfree] at e;cases e
  ·rw[hfree] at hc;cases hc
 rcases hx with hk|hk
 ·refine wpAny_storeName_local hk hn (λh' hn' hs=>?_) hcls;obtain⟨oL,_,_,hoL,_⟩:=id hn;refine h _ ⟨I.ok,I.os,I.bare,⟨λb o e n hb hx=>?_,λb o e n hb hx=>?_,I.base.free,λb o e hx=>?_,I.base.mT,I.base.lX,I.base.jT⟩,⟨_,hn',λj y v' e1 e2 e3=>?_⟩,λy c e=>?_,I.free,I.fv,λp hp=>?_,tracked ⟨oL,hoL,I.free⟩ hs,by simpa using I.len⟩ ⟨_,hs,.inl rfl⟩
  ·exact (hs.2 b (GD (GI (G5 e) I.ok.above))).trans (I.base.keep b o e n hb hx)
  ·obtain⟨sl,e1⟩:=I.base.slot b o e n hb hx;exact⟨sl,(hs.2 b (GD (GI (G5 e) I.ok.above))).trans e1⟩
  ·obtain⟨o',e1⟩:=I.base.there b o e hx;exact⟨o',(hs.2 b (GD (GI (G5 e) I.ok.above))).trans e1⟩
  ·by_cases hj:j=i
   ·subst hj;rw[hi] at e1;cases e1;rw[IP hiσ] at e2;cases e2;exact⟨u,r,.inl ⟨hk,by simp⟩⟩
   ·rw[JI (Hy hj)] at e2;obtain⟨u',r',q⟩:=hl j y v' e1 e2 e3;refine⟨u',r',?_⟩;rcases q with ⟨k,e⟩|⟨k,c,e,z⟩
    ·refine .inl ⟨k,?_⟩;have:y≠x:=λe=>hj (nU hN e1 (e ▸ hi));simp[this,e]
    ·exact .inr ⟨k,c,e,z.sameBut hs (Ck y c e)⟩
  ·obtain⟨w',z⟩:=I.cell y c e;exact⟨w',z.sameBut hs (Ck y c e)⟩
  ·obtain⟨e,n,ne,nf,d⟩:=I.pin p hp;exact⟨(hs.2 p.1 ne).trans e,n,ne,nf,d⟩
 ·have hfn:X.fn x=true:=by
   rcases hf with z|z
   ·exact z
   ·rw[z] at hk;cases hk
  obtain⟨c,hc⟩:=I.ok.has x (.inl hk);obtain⟨w',z⟩:=I.cell x c hc;refine wpAny_storeName_cell I.ok.kind hk hc z (λh' hc' hs=>?_);obtain⟨oc,hoc,hocd⟩:=id z;refine h {s with heap:=h'} ⟨I.ok,I.os,I.bare,⟨λb o e n hb hx=>?_,λb o e n hb hx=>?_,I.base.free,λb o e hx=>?_,I.base.mT,I.base.lX,I.base.jT⟩,⟨m,hn.sameBut hs (Hy (Ck x c hc)),λj y v' e1 e2 e3=>?_⟩,λy c' e=>?_,I.free,I.fv,λp hp=>?_,tracked ⟨oc,hoc,I.fv x c hc⟩ hs,by simpa using I.len⟩ ⟨c,hs,.inr hc⟩
  ·exact (hs.2 b (GD (GI (G5 e) (I.ok.Ec x c hfn hc)))).trans (I.base.keep b o e n hb hx)
  ·obtain⟨sl,e1⟩:=I.base.slot b o e n hb hx;exact⟨sl,(hs.2 b (GD (GI (G5 e) (I.ok.Ec x c hfn hc)))).trans e1⟩
  ·obtain⟨o',e1⟩:=I.base.there b o e hx;exact⟨o',(hs.2 b (GD (GI (G5 e) (I.ok.Ec x c hfn hc)))).trans e1⟩
  ·by_cases hj:j=i
   ·subst hj;rw[hi] at e1;cases e1;rw[IP hiσ] at e2;cases e2;exact⟨u,r,.inr ⟨.inl hk,c,hc,hc'⟩⟩
   ·rw[JI (Hy hj)] at e2;obtain⟨u',r',q⟩:=hl j y v' e1 e2 e3;refine⟨u',r',?_⟩;rcases q with q|⟨k,c',e,z'⟩
    ·exact .inl q
    ·refine .inr ⟨k,c',e,z'.sameBut hs ?_⟩;rintro rfl;exact hj (nU hN e1 (I.ok.inj _ _ _ e hc ▸ hi))
  ·by_cases hcc:c'=c
   ·subst hcc;exact⟨_,hc'⟩
   ·obtain⟨w2,z2⟩:=I.cell y c' e;exact⟨w2,z2.sameBut hs hcc⟩
  ·obtain⟨e,n,ne,nf,d⟩:=I.pin p hp;refine⟨(hs.2 p.1 ?_).trans e,n,ne,nf,d⟩;intro q;rw[q,hoc] at e;have q':oc=p.2:=Option.some.inj e;exact d w' (by rw[<- q'];exact hocd)
theorem nS{A:Around}{v:V}{Q:Unit->Shared->Prop}(I:Inv X pins σ H s)(hN:X.N.Nodup)(hi:X.N[i]?=some x)(hx:Loc X.env.scope x)(r:RelV v u)
  (h:∀s',Inv X pins (σ.set i (some v)) H s'->Q () s') (hf:autoParam (X.fn x=true\/X.env.scope.names.lookup x=some .local) ℜ2):wpAny M A (storeName X.env x u) Q E s:=
 kA I hN hi hx r (λs' I' _=>h s' I') hf
theorem Inv.DD(I:Inv X pins σ H s)(ho:s'.os=s.os)(u:Un (t_ X.stack) ch H H' s.heap s'.heap)(aX:gy X.prog X.w H' s'.heap)(hg:AllBare s'.gens)
  (hch:∀b∈ch,(b∈X.ex\/X.s₀.heap.objs.size<=b)/\b≠X.env.locals/\(∀x c,X.env.cells.lookup x=some c->c≠b)/\∀p∈X.pn++pins,p.1≠b):Inv X pins σ H' s':=by
 obtain⟨h',g',d',t',o'⟩:=s';have e:o'=s.os:=ho;subst e;exact I.call (g':=g') (t':=t') (d':=d') u aX hg hch
end
abbrev XK:=Value->Option Addr->Hp->Prop
abbrev St:=List (Option V)
variable{σ:St}
abbrev VK:=V->Hp->Prop
abbrev TE:=St->Hp->VK->Prop
abbrev TT:=St->Hp->(Bool->Hp->Prop)->Prop
abbrev TA:=St->Hp->(List V->Hp->Prop)->Prop
structure Ends where
 nx:St->Hp->Prop
 rt:VK
 bk:St->Hp->Prop:=λ_ _=>False
 ct:St->Hp->Prop:=λ_ _=>False
variable{D:Ends}
abbrev TS:=Ends->St->Hp->Prop
variable{tb:TS}
noncomputable def EP(X:Cx)(pins:List (Addr×Obj))(σ:St)(Q:VK)(u:Value)(s':Shared):Prop:=∃v H',Inv X pins σ H' s'/\RelV v u/\Q v H'
noncomputable def TP(X:Cx)(pins:List (Addr×Obj))(σ:St)(Q:Bool->Hp->Prop)(b:Bool)(s':Shared):Prop:=∃H',Inv X pins σ H' s'/\Q b H'
noncomputable def AP(X:Cx)(pins:List (Addr×Obj))(σ:St)(Q:List V->Hp->Prop)(us:List Value)(s':Shared):Prop:=∃vs H',Inv X pins σ H' s'/\Vals vs us/\Q vs H'
noncomputable def SP(X:Cx)(pins:List (Addr×Obj))(D:Ends)(f:Flow)(s':Shared):Prop:=
 match f with
 |.next=>∃σ' H',Inv X pins σ' H' s'/\D.nx σ' H'
 |.brk=>∃σ' H',Inv X pins σ' H' s'/\D.bk σ' H'
 |.cont=>∃σ' H',Inv X pins σ' H' s'/\D.ct σ' H'
 |.ret u=>∃v σ' H',Inv X pins σ' H' s'/\RelV v u/\D.rt v H'
noncomputable def PE(X:Cx)(e:Expr)(t:TE):Prop:=
 ∀(pins:List (Addr×Obj)) (s:Shared) (σ:St) (H:Hp) (Q:VK),Inv X pins σ H s->t σ H Q->wpAny (model X.prog X.w) X.A (eval e X.env) (EP X pins σ Q) X.xe s
noncomputable def PT(X:Cx)(e:Expr)(t:TT):Prop:=
 ∀(pins:List (Addr×Obj)) (s:Shared) (σ:St) (H:Hp) (Q:Bool->Hp->Prop),Inv X pins σ H s->t σ H Q->wpAny (model X.prog X.w) X.A (isTrue e X.env (eval e X.env)) (TP X pins σ Q) X.xe s
noncomputable def PW(X:Cx)(e:Expr)(t:TT):Prop:=
 ∀(whole:Sem Value) (pins:List (Addr×Obj)) (s:Shared) (σ:St) (H:Hp) (Q:Bool->Hp->Prop),Inv X pins σ H s->t σ H Q->wpAny (model X.prog X.w) X.A (isTrue e X.env whole) (TP X pins σ Q) X.xe s
theorem PW.pt{t:TT}(h:PW X e t):PT X e t:=h _
noncomputable def PA(X:Cx)(es:List Expr)(t:TA):Prop:=
 ∀(pos:Pos) (pins:List (Addr×Obj)) (s:Shared) (σ:St) (H:Hp) (Q:List V->Hp->Prop),Inv X pins σ H s->t σ H Q->wpAny (model X.prog X.w) X.A (spliced (backTo pos (starEach es X.env))) (AP X pins σ Q) X.xe s
noncomputable def PS(X:Cx)(st:Stmt)(t:TS):Prop:=
 ∀(pins:List (Addr×Obj)) (s:Shared) (σ:St) (H:Hp) (D:Ends),Inv X pins σ H s->t D σ H->wpAny (model X.prog X.w) X.A (exec st X.env) (SP X pins D) X.xe s
noncomputable def oY(X:Cx)(st:List Stmt)(t:TS):Prop:=
 ∀(pins:List (Addr×Obj)) (s:Shared) (σ:St) (H:Hp) (D:Ends),Inv X pins σ H s->t D σ H->wpAny (model X.prog X.w) X.A (execs st X.env) (SP X pins D) X.xe s
theorem bL{α:Type}{t:Sem α}{Q Q':α->Shared->Prop}{A:Around}{s:Shared}(h:wpAny M A t Q E s)(hQ:∀a s,Q a s->Q' a s):wpAny M A t Q' E s:=Hn h hQ λ_ _ x=>x
section
variable {X:Cx}
noncomputable def pO(i:Nat):TE:=λσ H Q=>∃v,σ[i]?=some (some v)/\Q v H
noncomputable def tC(v:V):TE:=λ_ H Q=>Q v H
theorem C1{pos:Pos}(hN:X.N[i]?=some x)(hv:DG X.env.scope x)(hd:autoParam ((x ==("__debug__":Str))=false) ℜ1)(gz:autoParam ((x ==("__classdict__":Str))=false) ℜ1):PE X (.Name x pos) (pO i):=by
 intro pins s σ H Q I h;obtain⟨v,e,h⟩:=h;obtain⟨m,hn,hl⟩:=I.loc;obtain⟨u,r,l⟩:=hl i x v hN e hv;have fin:EP X pins σ Q u s:=⟨v,H,I,r,h⟩;rcases l with ⟨hk,hm⟩|⟨hk,c,hc,hcell⟩
 ·exact wpAny_Name (wpAny_loadName_local I.ok.kind hk hn hm fin) hd
 ·rcases hk with hk|hk
  ·exact wpAny_Name (wpAny_loadName_cell I.ok.kind hk hc hcell fin) hd
  ·exact wpAny_Name (wpAny_loadName_free I.ok.kind hk hc hcell fin gz) hd
theorem xy{i j pos}:PE X (.Constant (.int i) j pos) (tC (.int i)):=λ_ _ _ H _ I h=>wpAny_Constant_int ⟨.int i,H,I.tok _,⟨_,rfl⟩,h⟩
theorem Am{b j pos}:PE X (.Constant (.bool b) j pos) (tC (.bl b)):=λ_ _ _ H _ I h=>Constant_bool ⟨.bl b,H,I,rfl,h⟩
theorem x9{j pos}:PE X (.Constant .none j pos) (tC .aQ):=λ_ _ _ H _ I h=>Constant_none ⟨.aQ,H,I,rfl,h⟩
theorem qf{x j pos}:PE X (.Constant (.str x) j pos) (tC (.str x)):=λ_ _ _ H _ I h=>Calls.Constant_str ⟨.str x,H,I.tok _,⟨_,rfl⟩,h⟩
noncomputable def Gl(X:Cx)(x:Str):Prop:=X.env.kindOf x=some .globalImplicit
theorem iQ{s:Shared}{pos:Pos}(I:Inv X pins σ H s)(hg:Gl X x)(hm:X.mg x=some u)(h:Q u s)
  (hd:autoParam ((x ==("__debug__":Str))=false) ℜ1):wpAny (model X.prog X.w) X.A (eval (.Name x pos) X.env) Q E s:=
 Ko I.ok.kind hg (Calls.loadGlobal_global (by rw[I.ok.glob];exact I.mod.glob.keeps I.bk) hm h) hd
theorem eZ{s:Shared}{pos:Pos}(I:Inv X pins σ H s)(hg:Gl X x)(hm:X.mg x=none)(hv:bootBuiltins x=some u)(h:Q u s)
  (hn:autoParam (x≠"__name__") ℜ1) (hd:autoParam ((x ==("__debug__":Str))=false) ℜ1):wpAny (model X.prog X.w) X.A (eval (.Name x pos) X.env) Q E s:=by
 obtain⟨mb,h1,h2⟩:=I.mod.blt;exact Ko I.ok.kind hg (Calls.loadGlobal_builtin (by rw[I.ok.glob];exact I.mod.glob.keeps I.bk) hm (by rw[I.ok.blt];exact h1.keeps I.bk) ((h2 x hn).trans hv) h) hd
theorem qQ{v:V}{pos:Pos}(hg:Gl X x)(hm:X.mg x=some u)(r:RelV v u)(hd:autoParam ((x ==("__debug__":Str))=false) ℜ1):PE X (.Name x pos) (tC v):=
 λ_ _ _ H _ I h=>iQ I hg hm ⟨v,H,I,r,h⟩ hd
theorem zd{v:V}{pos:Pos}(hg:Gl X x)(hm:X.mg x=none)(hv:bootBuiltins x=some u)(r:RelV v u)(hn:autoParam (x≠"__name__") ℜ1)(hd:autoParam ((x ==("__debug__":Str))=false) ℜ1):PE X (.Name x pos) (tC v):=
 λ_ _ _ H _ I h=>eZ I hg hm hv ⟨v,H,I,r,h⟩ hn hd
variable {a b:Expr} {ta tb:TE} {pos:Pos}
variable {tA tB':TT} {rest:List Expr}
noncomputable def ur(t u:TT):TT:=λσ H Q=>t σ H λc H1=>if c=true then u σ H1 Q else Q false H1
noncomputable def E1(t u:TT):TT:=λσ H Q=>t σ H λc H1=>if c=true then Q true H1 else u σ H1 Q
noncomputable def v8(t:TT):TT:=λσ H Q=>t σ H λc H1=>Q (!c) H1
theorem yI(ha:PT X a tA):PW X (.BoolOp .And [a] pos) tA:=by
 intro wh pins s σ H Q I h;refine isTrue_and (bL (ha pins s σ H Q I h) λc s1 e=>?_)
 cases c with
 |true=>exact isTrue_and_nil e
 |false=>exact e
theorem Bm(ha:PT X a tA):PW X (.BoolOp .Or [a] pos) tA:=by
 intro wh pins s σ H Q I h;refine isTrue_or (bL (ha pins s σ H Q I h) λc s1 e=>?_)
 cases c with
 |false=>exact isTrue_or_nil e
 |true=>exact e
theorem Bd(ha:PT X a tA)(hb:PW X (.BoolOp .And (b::rest) pos) tB'):PW X (.BoolOp .And (a::b::rest) pos) (ur tA tB'):=by
 intro wh pins s σ H Q I h;refine isTrue_and (bL (ha pins s σ H _ I h) λc s1 hq7=>?_);obtain⟨H1,I1,q1⟩:=hq7
 cases c with
 |true=>exact hb wh pins s1 σ H1 Q I1 q1
 |false=>exact⟨H1,I1,q1⟩
theorem E9(ha:PT X a tA)(hb:PW X (.BoolOp .Or (b::rest) pos) tB'):PW X (.BoolOp .Or (a::b::rest) pos) (E1 tA tB'):=by
 intro wh pins s σ H Q I h;refine isTrue_or (bL (ha pins s σ H _ I h) λc s1 hq8=>?_);obtain⟨H1,I1,q1⟩:=hq8
 cases c with
 |true=>exact⟨H1,I1,q1⟩
 |false=>exact hb wh pins s1 σ H1 Q I1 q1
theorem C5(ha:PT X a tA):PT X (.UnaryOp .Not a pos) (v8 tA):=by
 intro pins s σ H Q I h;exact isTrue_not (ha pins s σ H (λc H1=>Q (!c) H1) I h)
noncomputable def nQ(ta tb:TE):TE:=λσ H Q=>ta σ H λx H1=>∃c,x=.bl c/\if c=true then tb σ H1 Q else Q (.bl false) H1
noncomputable def oh(ta:TE):TE:=λσ H Q=>ta σ H λx H1=>∃c,x=.bl c/\Q (.bl (!c)) H1
theorem AQ{op}{t:TE}(h:PE X a t):PE X (.BoolOp op [a] pos) t:=λpins s σ H Q I hw=>BoolOp_one (h pins s σ H Q I hw)
theorem Bf(ha:PE X a ta)(hb:PE X (.BoolOp .And (b::rest) pos) tb):PE X (.BoolOp .And (a::b::rest) pos) (nQ ta tb):=by
 intro pins s σ H Q I h;refine BoolOp_and (bL (ha pins s σ H _ I h) λv s1 hq9=>?_);obtain⟨x,H1,I1,r1,q1⟩:=hq9;obtain⟨c,rfl,q1⟩:=q1;cases r1;refine Ir ?_
 cases c with
 |true=>exact hb pins s1 σ H1 Q I1 q1
 |false=>exact⟨.bl false,H1,I1,rfl,q1⟩
theorem B1(ha:PE X a ta):PE X (.UnaryOp .Not a pos) (oh ta):=by
 intro pins s σ H Q I h;refine UnaryOp_ (bL (ha pins s σ H _ I h) λv s1 hq11=>?_);obtain⟨x,H1,I1,r1,q1⟩:=hq11;obtain⟨c,rfl,q1⟩:=q1;cases r1;exact not_of (Ir ⟨.bl (!c),H1,I1,rfl,q1⟩)
noncomputable def Dh(t:TT)(ta tb:TE):TE:=λσ H Q=>t σ H λc H1=>if c=true then ta σ H1 Q else tb σ H1 Q
theorem uP{c:Expr}(hc:PT X c tA)(ha:PE X a ta)(hb:PE X b tb):PE X (.IfExp c a b pos) (Dh tA ta tb):=by
 intro pins s σ H Q I h;refine wpAny_IfExp (bL (hc pins s σ H _ I h) λd s1 hq12=>?_);obtain⟨H1,I1,q1⟩:=hq12
 cases d with
 |true=>exact ha pins s1 σ H1 Q I1 q1
 |false=>exact hb pins s1 σ H1 Q I1 q1
end
noncomputable def bZ(K:LA)(H:Hp)(a:Addr)(xs:List V):Prop:=
 Rd H a (.lst xs) \/
  ∃(o:Obj) (its:Array Value) (n:Nat),K.lookup a=some o/\o.cls=.type "list"/\o.dict=none/\o.data=.seq its n/\its.size<=sizeLine/\Vals xs its.toList
noncomputable def b8(K:LA)(H:Hp)(a:Addr)(xs:List V):Prop:=
 Rd H a (.tup xs) \/
  ∃(o:Obj) (its:Array Value) (n:Nat),K.lookup a=some o/\o.cls=.type "tuple"/\o.data=.seq its n/\its.size<=sizeLine/\Vals xs its.toList
noncomputable def EY:Value->Option V
 |.none=>some .aQ
 |.bool b=>some (.bl b)
 |.int i _=>some (.int i)
 |.str x _=>some (.str x)
 |.bytes b _=>some (.oI b)
 |.float b _=>some (.Cf b)
 |.ref a=>some (.ref a)
 |.type n=>some (.ty n)
 |_=>none
theorem RelV.abs{x:V}(r:RelV x u):EY u=some x:=by
 cases x with
 |aQ=>cases r;rfl
 |bl _=>cases r;rfl
 |int _=>obtain⟨t,rfl⟩:=r;rfl
 |str _=>obtain⟨t,rfl⟩:=r;rfl
 |oI _=>obtain⟨t,rfl⟩:=r;rfl
 |Cf _=>obtain⟨t,rfl⟩:=r;rfl
 |ref _=>cases r;rfl
 |ty _=>cases r;rfl
theorem RelV.inj{x y:V}(r:RelV x u)(q:RelV y u):x=y:=Option.some.inj (r.abs.symm.trans q.abs)
theorem Vals.inj:∀{xs ys:List V} {us:List Value},Vals xs us->Vals ys us->xs=ys
 |_,_,_,.nil,.nil=>rfl
 |_,_,_,.cons r t,.cons r' t'=>by rw[r.inj r',Vals.inj t t']
section
variable {X:Cx} {pins:List (Addr×Obj)} {σ:St} {H:Hp} {s:Shared} {a:Addr} {xs ys:List V}
theorem bZ.of(h:H a=some (.lst xs)):bZ K H a xs:=.inl (.inl h)
theorem b8.of(h:H a=some (.tup xs)):b8 K H a xs:=.inl (.inl h)
theorem Inv.list(I:Inv X pins σ H s)(h:bZ X.K H a xs):∃its:List Value,Vals xs its/\PlainL s.heap a its.toArray/\xs.length<=sizeLine:=by
 rcases h with h|⟨o,its,n,hk,hc,hd,hs,hz,r⟩
 ·obtain⟨z,its,n,r,e⟩:=h.ok I.aX;exact⟨its,r,⟨_,n,e,rfl,rfl,rfl⟩,z⟩
 ·refine⟨its.toList,r,⟨o,n,I.gO a o hk,hc,hd,by simpa using hs⟩,?_⟩
  have e:=r.length;simp only[Ha] at e;lia
theorem Inv.tuple(I:Inv X pins σ H s)(h:b8 X.K H a xs):∃its:List Value,Vals xs its/\IsTup s.heap a its.toArray/\xs.length<=sizeLine:=by
 rcases h with h|⟨o,its,n,hk,hc,hs,hz,r⟩
 ·obtain⟨z,its,r,p⟩:=h.ok I.aX;exact⟨its,r,p.to,z⟩
 ·refine⟨its.toList,r,⟨o,I.gO a o hk,hc,n,by simpa using hs⟩,?_⟩
  have e:=r.length;simp only[Ha] at e;lia
theorem Inv.jd(I:Inv X pins σ H s)(h:bZ X.K H a xs)(h':bZ X.K H a ys):xs=ys:=by
 obtain⟨its,r,⟨o,n,e,_,_,d⟩,_⟩:=I.list h;obtain⟨its',r',⟨o',n',e',_,_,d'⟩,_⟩:=I.list h';rw[e] at e';cases e';rw[d] at d'
 injection d' with d1 _
 have:its=its':=by simpa using Hm Array.toList d1
 subst this;exact r.inj r'
theorem Inv.iu(I:Inv X pins σ H s)(h:b8 X.K H a xs)(h':b8 X.K H a ys):xs=ys:=by
 obtain⟨its,r,⟨o,e,_,n,d⟩,_⟩:=I.tuple h;obtain⟨its',r',⟨o',e',_,n',d'⟩,_⟩:=I.tuple h';rw[e] at e';cases e';rw[d] at d'
 injection d' with d1 _
 have:its=its':=by simpa using Hm Array.toList d1
 subst this;exact r.inj r'
end
abbrev Cx.jO(X:Cx)(E:Value->Shared->Prop):Cx:={X with xe:=E}
abbrev Cx.oJ(X:Cx):Cx:=X.jO λ_ _=>False
theorem Cx.Ok.jO(ok:X.Ok)(E:Value->Shared->Prop):(X.jO E).Ok:=
 ⟨ok.mod,ok.kind,ok.glob,ok.blt,ok.above,ok.inj,ok.has,ok.Ec,ok.hd,ok.frames,ok.EE,ok.FP,ok.bs,ok.xB,ok.xp,ok.yo,ok.iL,ok.Ba,ok.tabs⟩
theorem Cx.Ok.fG(ok:(X.jO E).Ok):X.Ok:=
 ⟨ok.mod,ok.kind,ok.glob,ok.blt,ok.above,ok.inj,ok.has,ok.Ec,ok.hd,ok.frames,ok.EE,ok.FP,ok.bs,ok.xB,ok.xp,ok.yo,ok.iL,ok.Ba,ok.tabs⟩
section
variable {X:Cx} {pins:List (Addr×Obj)} {σ:St} {H:Hp} {s:Shared} {E:Value->Shared->Prop}
theorem Inv.jO(I:Inv X pins σ H s)(E:Value->Shared->Prop):Inv (X.jO E) pins σ H s:=⟨I.ok.jO E,I.os,I.bare,I.base,I.loc,I.cell,I.free,I.fv,I.pin,I.aX,I.len⟩
theorem Inv.fG(I:Inv (X.jO E) pins σ H s):Inv X pins σ H s:=⟨I.ok.fG,I.os,I.bare,I.base,I.loc,I.cell,I.free,I.fv,I.pin,I.aX,I.len⟩
theorem SP.fG{f:Flow}(h:SP (X.jO E) pins D f s'):SP X pins D f s':=by
 cases f with
 |next=>obtain⟨σ',H',I,q⟩:=h;exact⟨σ',H',I.fG,q⟩
 |brk=>obtain⟨σ',H',I,q⟩:=h;exact⟨σ',H',I.fG,q⟩
 |cont=>obtain⟨σ',H',I,q⟩:=h;exact⟨σ',H',I.fG,q⟩
 |ret u=>obtain⟨v,σ',H',I,r,q⟩:=h;exact⟨v,σ',H',I.fG,r,q⟩
theorem oY.oJ{st:List Stmt}{t:TS}(h:oY X.oJ st t):oY X st t:=λpins s σ H D I hw =>
 Hn (h pins s σ H D (I.jO _) hw) (λ_ _ q=>q.fG) λ_ _ z=>False.elim z
end
section
variable {X:Cx} {st:Stmt} {rest:List Stmt} {t u:TS} {e:Expr} {te:TE} {pos:Pos}
noncomputable def nN:TS:=λD σ H=>D.nx σ H
noncomputable def sT(t u:TS):TS:=λD σ H=>t {D with nx:=u D} σ H
theorem ye:oY X [] nN:=λ_ _ σ H _ I h=>JJ ⟨σ,H,I,h⟩
theorem w8(h1:PS X st t)(h2:oY X rest u):oY X (st::rest) (sT t u):=by
 intro pins s σ H D I h;refine wpAny_execs_cons (bL (h1 pins s σ H {D with nx:=u D} I h) λf s1 q=>?_)
 cases f with
 |next =>
  obtain⟨σ',H',I',q⟩:=q;exact h2 pins s1 σ' H' D I' q
 |ret v=>exact q
 |brk=>exact q
 |cont=>exact q
theorem xT(h1:PS X st t):oY X [st] t:=by
 intro pins s σ H D I h;refine wpAny_execs_cons (bL (h1 pins s σ H D I h) λf s1 q=>?_)
 cases f with
 |next=>exact JJ q
 |ret v=>exact q
 |brk=>exact q
 |cont=>exact q
theorem Inv.quiet{s:Shared}(I:Inv X pins σ H s):interactive X.env=false:=by simp[interactive,I.ok.kind]
noncomputable def mP(te:TE):TS:=λD σ H=>te σ H λ_ H1=>D.nx σ H1
theorem yG(he:PE X e te)(hs:autoParam (swapsWith e none pos.line X.env=pure false) ℜ0):PS X (.Expr e pos) (mP te):=by
 intro pins s σ H D I h;exact wpAny_Expr_any (bL (he pins s σ H _ I h) λv s1 ⟨x,H1,I1,r1,q1⟩=>⟨σ,H1,I1,q1⟩) I.quiet hs
noncomputable def wL(te:TE):TS:=λD σ H=>te σ H D.rt
theorem Bj(he:PE X e te):PS X (.Return (some e) pos) (wL te):=by
 intro pins s σ H D I h;exact wpAny_Return_some (bL (he pins s σ H _ I h) λv s1 ⟨x,H1,I1,r1,q1⟩=>⟨x,σ,H1,I1,r1,q1⟩)
noncomputable def lJ(c:TT)(t u:TS):TS:=λD σ H=>c σ H λb H1=>if b=true then t D σ H1 else u D σ H1
theorem DL{c:Expr}{a b:List Stmt}{tc:TT}(hc:PT X c tc)(ha:oY X a t)(hb:oY X b u):PS X (.If c a b pos) (lJ tc t u):=by
 intro pins s σ H D I h;refine wpAny_If (bL (hc pins s σ H _ I h) λd s1 hq13=>?_);obtain⟨H1,I1,q1⟩:=hq13
 cases d with
 |true=>exact ha pins s1 σ H1 D I1 q1
 |false=>exact hb pins s1 σ H1 D I1 q1
end
abbrev TG:=V->St->Hp->(St->Hp->Prop)->Prop
abbrev qX:=List V->St->Hp->(St->Hp->Prop)->Prop
noncomputable def PG(X:Cx)(target:Expr)(t:TG):Prop:=
 ∀(pins:List (Addr×Obj)) (s:Shared) (σ:St) (H:Hp) (v:V) (u:Value) (Q:St->Hp->Prop),Inv X pins σ H s->RelV v u->t v σ H Q ->
  wpAny (model X.prog X.w) X.A (assign target X.env u) (λ_ s'=>∃σ' H',Inv X pins σ' H' s'/\Q σ' H') X.xe s
noncomputable def CP(X:Cx)(ts:List Expr)(t:qX):Prop:=
 ∀(pins:List (Addr×Obj)) (s:Shared) (σ:St) (H:Hp) (vs:List V) (us:List Value) (Q:St->Hp->Prop),Inv X pins σ H s->Vals vs us->t vs σ H Q ->
  wpAny (model X.prog X.w) X.A (assignInOrder ((assignEach ts X.env).map (·.2)) us) (λ_ s'=>∃σ' H',Inv X pins σ' H' s'/\Q σ' H') X.xe s
abbrev zk:=V->V->V->Hp->(Hp->Prop)->Prop
noncomputable def AR(X:Cx)(t:zk):Prop:=
 ∀(pins:List (Addr×Obj)) (s:Shared) (σ:St) (H:Hp) (o i v:V) (ov iv u:Value) (Q:Hp->Prop),Inv X pins σ H s->RelV o ov->RelV i iv->RelV v u->t o i v H Q ->
  wpAny (model X.prog X.w) X.A (setItem ov iv u) (λ_ s'=>∃H',Inv X pins σ H' s'/\Q H') X.xe s
section
variable {X:Cx} {pos:Pos}
noncomputable def bq(i:Nat):TG:=λv σ H Q=>Q (σ.set i (some v)) H
theorem yw(hN:X.N.Nodup)(hi:X.N[i]?=some x)(hx:Loc X.env.scope x)(hf:autoParam (X.fn x=true\/X.env.scope.names.lookup x=some .local) ℜ2):PG X (.Name x pos) (bq i):=by
 intro pins s σ H v u Q I r h;exact wpAny_assign_Name (nS I hN hi hx r (λs' I'=>⟨_,H,I',h⟩) hf)
noncomputable def oE:qX:=λvs σ H Q=>vs=[]/\Q σ H
noncomputable def fH(t:TG)(u:qX):qX:=λvs σ H Q=>∃v r,vs=v::r/\t v σ H λσ' H'=>u r σ' H' Q
theorem yS:CP X [] oE:=by
 intro pins s σ H vs us Q I r h;obtain⟨e,h⟩:=h;subst e;cases r;exact assignInOrder_nil ⟨σ,H,I,h⟩
theorem uW{t:TG}{u:qX}(h1:PG X e t)(h2:CP X es u)
  (hs:autoParam ((assignEach (e::es) X.env).map (·.2)=assign e X.env::(assignEach es X.env).map (·.2)) ℜ0):CP X (e::es) (fH t u):=by
 intro pins s σ H vs us Q I r h;obtain⟨v,vr,e1,h⟩:=h;subst e1
 cases r with
 |cons r rr =>
  rw[hs];refine assignInOrder_cons (bL (h1 pins s σ H _ _ _ I r h) λ_ s1 hq14=>?_);obtain⟨σ1,H1,I1,q1⟩:=hq14;exact h2 pins s1 σ1 H1 _ _ Q I1 rr q1
noncomputable def oH(K:LA)(n:Nat)(t:qX):TG:=λv σ H Q=>∃a xs,v=.ref a/\b8 K H a xs/\xs.length=n/\t xs σ H Q
theorem vG{k:Nat}{t:qX}{n:Nat}(hc:X.calm=true)(h:CP X es t)
  (hn:autoParam ((assignEach es X.env).length=n) ℜ0) (hst:autoParam ((assignEach es X.env).findIdx? (·.1)=none) ℜ0):PG X (.Tuple es k pos) (oH X.K n t):=by
 intro pins s σ H v u Q I r hw;obtain⟨a,xs,e1,hq,hl,hw⟩:=hw;subst e1;cases r;obtain⟨its,rv,ht,hz⟩:=I.tuple hq;refine assign_Tuple_tuple (I.ok.hd hc) ht (by simp[hn,<- hl,rv.length]) hst λh' hx=>?_
 have I1:Inv X pins σ H {s with heap:=h'}:=I.kept (t':=s.toks) λb o e=>hx b o (GD (G5 e)) e
 exact h pins _ σ H xs _ Q I1 (by simpa using rv) hw
noncomputable def vD(to ti:TE)(t:zk):TG:=λv σ H Q=>to σ H λo H1=>ti σ H1 λi H2=>t o i v H2 λH3=>Q σ H3
theorem Cb{o i:Expr}{to ti:TE}{t:zk}(ho:PE X o to)(hi:PE X i ti)(hs:AR X t)
  (ha:autoParam (∀v,assign (.Subscript o i pos) X.env v=(do
   let ov <- holding [v] (eval o X.env)
   let iv <- holding [v,ov] (eval i X.env)
   standAt pos
   holding [v,ov,iv] (setItem ov iv v)
   release [v,ov,iv] [])) ℜ3):PG X (.Subscript o i pos) (vD to ti t):=by
 intro pins s σ H v u Q I r h;rw[ha];refine Gj (He (bL (ho pins s σ H _ I h) λov s1 hq15=>?_));obtain⟨x,H1,I1,r1,q1⟩:=hq15;refine Gj (He (bL (hi pins s1 σ H1 _ I1 q1) λiv s2 hq16=>?_));obtain⟨y,H2,I2,r2,q2⟩:=hq16;refine Gj (Jx (Gj (He (bL (hs pins s2 σ H2 x y v ov iv u _ I2 r1 r2 r q2) λ_ s3 hq17=>?_))));obtain⟨H3,I3,q3⟩:=hq17;exact wpAny_release ⟨σ,H3,I3,q3⟩
noncomputable def lh(te:TE)(g:TG):TS:=λD σ H=>te σ H λx H1=>g x σ H1 D.nx
theorem BK{te:TE}{g:TG}(he:PE X e te)(hg:PG X tg g)(hs:autoParam (swapsWithSole [tg] e pos.line X.env=pure false) ℜ0)(hw:autoParam (swappedStores [tg] e X.env=pure none) ℜ0)
  (h1:autoParam ((assignEach [tg] X.env).map (·.2)=[assign tg X.env]) ℜ0):PS X (.Assign [tg] e pos) (lh te g):=by
 intro pins s σ H D I h;refine wpAny_Assign_stores (bL (he pins s σ H _ I h) λv s1 hq18=>?_) hs hw;obtain⟨x,H1,I1,r1,q1⟩:=hq18;rw[h1];exact bL (hg pins s1 σ H1 x v _ I1 r1 q1) λ_ s2 q=>q
theorem Cv{te:TE}{pos':Pos}(hN:X.N.Nodup)(hi:X.N[i]?=some x)(hx:Loc X.env.scope x)(he:PE X e te)(hs:autoParam (swapsWith e (some (.Name x pos')) pos.line X.env=pure false) ℜ0)(hf:autoParam (X.fn x=true\/X.env.scope.names.lookup x=some .local) ℜ2):
  PS X (.Assign [.Name x pos'] e pos) (lh te (bq i)):=by
 intro pins s σ H D I h;refine wpAny_Assign_Name (bL (he pins s σ H _ I h) λv s1 hq19=>?_) hs;obtain⟨y,H1,I1,r1,q1⟩:=hq19;exact nS I1 hN hi hx r1 (λs2 I2=>⟨_,H1,I2,q1⟩) hf
end
section
variable {X:Cx} {pos:Pos}
noncomputable def wY(c:TT)(tb:TS):TS:=λD σ H=>∃W:Nat->St->Hp->Prop,(∃m,W m σ H)/\∀m σ H,W m σ H ->
 c σ H λb H1=>if b=true then ∃N:St->Hp->Prop,(∀σ' H',N σ' H'->∃m',m'<m/\W m' σ' H')/\tb {D with nx:=N,ct:=N,bk:=D.nx} σ H1 else D.nx σ H1
theorem uy{c:Expr}{tc:TT}(hp:PassesOwn (model X.prog X.w) X.A X.env X.xe)(hc:PT X c tc)(hb:oY X body tb):PS X (.While c body [] pos) (wY tc tb):=by
 intro pins s σ H D I h;obtain⟨W,⟨m0,w0⟩,turn⟩:=h;refine wpAny_While (codeAny_whileLoop (λn s'=>∃σ' H',Inv X pins σ' H' s'/\W n σ' H') ?_ m0 ⟨σ,H,I,w0⟩);rintro n s1 ⟨σ1,H1,I1,w1⟩;refine Ip hp (bL (hc pins s1 σ1 H1 _ I1 (turn n σ1 H1 w1)) λb s2 hq28=>?_);obtain⟨H2,I2,q2⟩:=hq28
 cases b with
 |true =>
  obtain⟨N,hN,q2⟩:=q2;rw[Gp rfl];refine Ip hp (bL (hb pins s2 σ1 H2 _ I2 q2) λf s3 q3=>?_)
  cases f with
  |next =>
   obtain⟨σ3,H3,I3,n3⟩:=q3;obtain⟨m',hm,w3⟩:=hN σ3 H3 n3;exact⟨m',hm,σ3,H3,I3,w3⟩
  |cont =>
   obtain⟨σ3,H3,I3,n3⟩:=q3;obtain⟨m',hm,w3⟩:=hN σ3 H3 n3;exact⟨m',hm,σ3,H3,I3,w3⟩
  |brk=>exact q3
  |ret v=>exact q3
 |false =>
  rw[Gn Gz];exact JJ ⟨σ1,H2,I2,q2⟩
end
structure It where
 go:Nat->Hp->Prop
 Ag:Nat->Hp->V->Hp->Prop
 stop:Nat->Hp->Prop
noncomputable def ji(X:Cx)(pins:List (Addr×Obj))(H:Hp)(b:Addr):Prop:=
 H b=none/\b≠X.env.locals/\b∉X.fs/\(b∈X.ex\/X.s₀.heap.objs.size<=b)/\(∀x c,X.env.cells.lookup x=some c->c≠b)/\∀p∈X.pn++pins,p.1≠b
theorem Inv.lO{H':Hp}{s:Shared}(I:Inv X pins σ H s)(hb:s.heap.objs.size<=b)(hn:H' b=none):ji X pins H' b:=by
 refine⟨hn,HN (GI I.lt hb),I.E5 hb,.inr (Gw I.sz hb),λx c e z=>?_,λp hp z=>?_⟩
 ·obtain⟨v,q⟩:=I.cell x c e;exact absurd (GI q.lt (by rw[z];exact hb)) (Ic _)
 ·exact absurd (GI (G5 (I.pin p hp).1) (by rw[z];exact hb)) (Ic _)
structure Turn (P:Program) (w:World) (K:LA) (tg:Expr) (J:It) (fp:List Addr) (it:Addr) (tn:Nat->Heap->Prop):Prop where
 mem:it∈fp
 obj:∀i h,tn i h->∀b∈fp,∃o,h.get? b=some o/\∀v,o.data≠.cell v
 keep:∀i h h',tn i h->(∀b∈fp,∀o,h.get? b=some o->h'.get? b=some o)->tn i h'
 item:∀(X:Cx),X.prog=P->X.w=w->X.K=K->X.calm=true->∀(i:Nat) (pins:List (Addr×Obj)) (s:Shared) (σ:St) (H:Hp) (E:Value->Shared->Prop),Inv X pins σ H s->(∀b∈fp,ji X pins H b)->tn i s.heap->J.go i H ->
  wpAny (model P w) X.A (pyNext (.ref it)) (λr s1=>∃u,r=some u /\
   wpAny (model P w) X.A (letOwnedTupleGo tg (.ref it) u) (λ_ s2=>∃x H',Inv X pins σ H' s2/\RelV x u/\J.Ag i H x H'/\tn (i+1) s2.heap/\∀b∈fp,H' b=none) E s1) E s
 done:∀(X:Cx),X.prog=P->X.w=w->X.K=K->X.calm=true->∀(i:Nat) (pins:List (Addr×Obj)) (s:Shared) (σ:St) (H:Hp) (E:Value->Shared->Prop),Inv X pins σ H s->(∀b∈fp,ji X pins H b)->tn i s.heap->J.stop i H ->
  wpAny (model P w) X.A (pyNext (.ref it)) (λr s1=>r=none/\Inv X pins σ H s1) E s
 self:∀(A:Around) (i:Nat) (s:Shared) (Q:Value->Shared->Prop) (E:Value->Shared->Prop),tn i s.heap->Q (.ref it) s->wpAny (model P w) A (pyIter (.ref it)) Q E s
abbrev TI:=St->Hp->(It->Hp->Prop)->Prop
noncomputable def FN(X:Cx)(pins:List (Addr×Obj))(σ:St)(tg:Expr)(R:It->Hp->Prop)(itv:Value)(s2:Shared):Prop:=
 ∃(it:Addr) (fp:List Addr) (tn:Nat->Heap->Prop) (J:It) (H':Hp),itv=.ref it/\Inv X pins σ H' s2/\Turn X.prog X.w X.K tg J fp it tn/\tn 0 s2.heap/\(∀b∈fp,ji X pins H' b)/\R J H'
noncomputable def PI(X:Cx)(tg iter:Expr)(wi:TI):Prop:=
 ∀(pins:List (Addr×Obj)) (s:Shared) (σ:St) (H:Hp) (R:It->Hp->Prop),Inv X pins σ H s->wi σ H R ->
  wpAny (model X.prog X.w) X.A (eval iter X.env) (λv s1=>wpAny (model X.prog X.w) X.A (pyIter v) (FN X pins σ tg R) X.xe s1) X.xe s
theorem m_{A:Around}{s:Shared}{it:Addr}{o:Obj}{n:String}{vs:Array Value}{Q:Unit->Shared->Prop}(ho:s.heap.get? it=some o)(hc:o.cls=.type n)(hd:o.data=.fields vs)
    (hn:["enumerate","zip","dict_itemiterator","dict_reverseitemiterator","odict_iterator","itertools.zip_longest","itertools.pairwise"].contains n=false) (hQ:Q () s):wpAny M A (letOwnedTupleGo tg (.ref it) u) Q E s:=by
  unfold letOwnedTupleGo
  cases tg<;>first
    |exact Gu hQ
    | (cases u<;>first
        |exact Gu hQ
        | (refine Gj (wpAny_load ho ?_)
           rw[hc,hd];show wpAny M A (if (["enumerate","zip","dict_itemiterator","dict_reverseitemiterator","odict_iterator","itertools.zip_longest","itertools.pairwise"].contains n && vs[0]? == some (rawInt _))=true then _ else _) Q E s
           rw[Gn (by intro h;rw[hn,Bool.false_and] at h;cases h)]
           exact Gu hQ))
noncomputable def vK(K:LA)(a:Addr):It:=
 ⟨λi H=>∃xs x,bZ K H a xs/\xs[i]?=some x,λi H x H'=>H'=H/\∀xs,bZ K H a xs->xs[i]?=some x,λi H=>∃xs,bZ K H a xs/\xs.length<=i⟩
noncomputable def tN(K:LA)(a:Addr):It:=
 ⟨λi H=>∃xs x,b8 K H a xs/\xs[i]?=some x,λi H x H'=>H'=H/\∀xs,b8 K H a xs->xs[i]?=some x,λi H=>∃xs,b8 K H a xs/\xs.length<=i⟩
noncomputable def wj(lo:Int)(n:Nat):It:=⟨λi _=>i<n,λi H x H'=>H'=H/\x=.int (lo+i),λi _=>n<=i⟩
theorem kg(a it:Addr):Turn P w K tg (vK K a) [it] it (λi h=>h.IsListIter it a i) where
 mem:=by simp
 obj:=λi h st b hb=>by
  have e:b=it:=by simpa using hb
  subst e;obtain⟨o,e,c,d⟩:=st;exact⟨o,e,λv z=>by rw[d] at z;cases z⟩
 keep:=λi h h' st k=>st.at λo e=>k it (by simp) o e
 item:=by
  intro X hP hw hK hc i pins s σ H E I hf st hg;subst hP hw hK;obtain⟨xs,x,hq,hx⟩:=hg;obtain⟨its,rv,p,hz⟩:=I.list hq;obtain⟨u,hu,ru⟩:=rv.get hx;obtain⟨f0,f1,f2,f3,f4,f5⟩:=hf it (by simp)
  refine Js st p.isList (x:=u) (by simpa using hu) λh' st' sb=>?_
  have I1:Inv X pins σ H {s with heap:=h'}:=I.turned (t':=s.toks) (λb o hb e=>(sb.2 b hb).trans e) f0 f1 f3 f4 f5
  obtain⟨o,e,c,d⟩:=id st';exact⟨u,rfl,m_ (s:={s with heap:=h'}) e c d (by decide) ⟨x,H,I1,ru,⟨rfl,λys hy=>by rw[I.jd hy hq];exact hx⟩,st',λb hb=>(hf b hb).1⟩⟩
 done:=by
  intro X hP hw hK hc i pins s σ H E I hf st hg;subst hP hw hK;obtain⟨xs,hq,hx⟩:=hg;obtain⟨its,rv,p,hz⟩:=I.list hq;obtain⟨f0,f1,f2,f3,f4,f5⟩:=hf it (by simp)
  have hl:=rv.length;exact JC (I.ok.hd hc) st p.isList (by simp;lia) λh' eb=>⟨rfl,I.turned (t':=s.toks) (λb o hb e=>eb b o hb e) f0 f1 f3 f4 f5⟩
 self:=λ_ _ _ _ _ st h=>wpAny_pyIter_listiter st h
theorem jl(a it:Addr):Turn P w K tg (tN K a) [it] it (λi h=>h.IsTupleIter it a i) where
 mem:=by simp
 obj:=λi h st b hb=>by
  have e:b=it:=by simpa using hb
  subst e;obtain⟨o,e,c,d⟩:=st;exact⟨o,e,λv z=>by rw[d] at z;cases z⟩
 keep:=λi h h' st k=>st.at λo e=>k it (by simp) o e
 item:=by
  intro X hP hw hK hc i pins s σ H E I hf st hg;subst hP hw hK;obtain⟨xs,x,hq,hx⟩:=hg;obtain⟨its,rv,p,hz⟩:=I.tuple hq;obtain⟨u,hu,ru⟩:=rv.get hx;obtain⟨f0,f1,f2,f3,f4,f5⟩:=hf it (by simp)
  refine wpAny_pyNext_tuple_item st (show s.heap.IsTuple a its.toArray from p) (x:=u) (by simpa using hu) λh' st' sb=>?_
  have I1:Inv X pins σ H {s with heap:=h'}:=I.turned (t':=s.toks) (λb o hb e=>(sb.2 b hb).trans e) f0 f1 f3 f4 f5
  obtain⟨o,e,c,d⟩:=id st';exact⟨u,rfl,m_ (s:={s with heap:=h'}) e c d (by decide) ⟨x,H,I1,ru,⟨rfl,λys hy=>by rw[I.iu hy hq];exact hx⟩,st',λb hb=>(hf b hb).1⟩⟩
 done:=by
  intro X hP hw hK hc i pins s σ H E I hf st hg;subst hP hw hK;obtain⟨xs,hq,hx⟩:=hg;obtain⟨its,rv,p,hz⟩:=I.tuple hq;obtain⟨f0,f1,f2,f3,f4,f5⟩:=hf it (by simp)
  have hl:=rv.length;exact wpAny_pyNext_tuple_end (I.ok.hd hc) st (show s.heap.IsTuple a its.toArray from p) (by simp;lia) λh' eb=>⟨rfl,I.turned (t':=s.toks) (λb o hb e=>eb b o hb e) f0 f1 f3 f4 f5⟩
 self:=λ_ _ _ _ _ st h=>wpAny_pyIter_tupleiter st h
theorem pU{w:World}(it:Addr)(lo:Int)(n:Nat):Turn P w K tg (wj lo n) [it] it (λi h=>IsRangeIter h it (lo+(i:Nat)*1) ((n:Int)-(i:Nat)) 1) where
 mem:=by simp
 obj:=λi h st b hb=>by
  have e:b=it:=by simpa using hb
  subst e;exact⟨_,st,λv z=>by
   have z':Data.fields _=Data.cell v:=z
   cases z'⟩
 keep:=λi h h' st k=>k it (by simp) _ st
 item:=by
  intro X hP hw hK hc i pins s σ H E I hf st hg;subst hP hw hK;obtain⟨f0,f1,f2,f3,f4,f5⟩:=hf it (by simp)
  have W:=Walks.range (prog:=X.prog) (w:=X.w) (I.ok.hd hc) it lo 1 n;refine W.item i s _ _ hg st λv h' tk hv st' kk=>?_;obtain⟨t,rfl⟩:=hv;have I1:Inv X pins σ H {s with heap:=h',toks:=tk}:=I.turned (λb o hb e=>kk b o (by simpa using hb) e) f0 f1 f3 f4 f5
  refine⟨_,rfl,m_ (s:={s with heap:=h',toks:=tk}) (n:="range_iterator") st' rfl rfl (by decide) ⟨.int (lo+i),H,I1,⟨t,?_⟩,⟨rfl,rfl⟩,st',λb hb=>(hf b hb).1⟩⟩
  rw[Int.mul_one]
 done:=by
  intro X hP hw hK hc i pins s σ H E I hf st hg;subst hP hw hK;obtain⟨f0,f1,f2,f3,f4,f5⟩:=hf it (by simp)
  exact wpAny_pyNext_range_end (I.ok.hd hc) st (by have:n<=i:=hg;lia) λh' eb=>⟨rfl,I.turned (t':=s.toks) (λb o hb e=>eb b o hb e) f0 f1 f3 f4 f5⟩
 self:=λ_ _ _ _ _ st h=>wpAny_pyIter_rangeiter st h
section
variable {X:Cx} {tg:Expr}
theorem nu{s:Shared}{R:It->Hp->Prop}{lo hi:Int}{t u v:Tok}{tk:Nat}(I:Inv X pins σ H s)(h1:-(2^62)<=lo)(h2:lo<2^62)(h3:-(2^62)<=hi)(h4:hi<2^62)
  (q:R (wj lo (hi-lo).toNat) H):wpAny (model X.prog X.w) X.A (pyIter (.ref s.heap.objs.size)) (FN X pins σ tg R) E {s with heap:=s.heap.push {cls:=.type "range",data:=.fields #[.int lo t,.int hi u,.int 1 v]},toks:=tk}:=by
 refine wpAny_pyIter_range (IsRange.new ..) (small_one h1 h2 h3 h4) ?_;have I1:Inv X pins σ H {s with heap:=s.heap.push {cls:=.type "range",data:=.fields #[.int lo t,.int hi u,.int 1 v]},toks:=tk}:=I.kept λb o e=>Gk _ e
 refine⟨(s.heap.push {cls:=.type "range",data:=.fields #[.int lo t,.int hi u,.int 1 v]}).objs.size,[(s.heap.push {cls:=.type "range",data:=.fields #[.int lo t,.int hi u,.int 1 v]}).objs.size],_,_,H,rfl,
  I1.kept (t':=tk) λb o e=>Gk _ e,pU _ lo (hi-lo).toNat,?_,λb hb=>?_,q⟩
 ·have e1:lo+((0:Nat):Int)*1=lo:=by simp
  have e2:(((hi-lo).toNat:Nat):Int)-((0:Nat):Int)=Builtin.Range.rangeSize lo hi 1:=by rw[rangeSize_one];split<;>lia
  show IsRangeIter _ _ (lo+((0:Nat):Int)*1) ((((hi-lo).toNat:Nat):Int)-((0:Nat):Int)) 1;rw[e1,e2];exact G0 _ rfl
 ·have e:b=(s.heap.push {cls:=.type "range",data:=.fields #[.int lo t,.int hi u,.int 1 v]}).objs.size:=by simpa using hb
  subst e;exact I1.lO (Gs _) (I1.aX.fresh (Gs _))
noncomputable def jZ(ta:TA):TI:=λσ H R=>ta σ H λvs H1=>∃j:Int,vs=[.int j]/\-(2^62)<=j/\j<2^62/\R (wj 0 j.toNat) H1
noncomputable def j_(ta:TA):TI:=λσ H R=>ta σ H λvs H1=>∃i j:Int,vs=[.int i,.int j]/\(-(2^62)<=i/\i<2^62/\-(2^62)<=j/\j<2^62)/\R (wj i (j-i).toNat) H1
theorem rP{a:Expr}{ta:TA}{p pos:Pos}(hg:Gl X "range")(hm:X.mg "range"=none)(ha:PA X [a] ta)(hs:autoParam (starEach [a] X.env=[(false,eval a X.env)]) ℜ0):PI X tg (.Call (.Name "range" p) [a] [] pos) (jZ ta):=by
 intro pins s σ H R I h;refine Call_ (eZ I hg hm boot_range (Ht (bL (ha pos pins s σ H _ I h) λus s1 hq31=>?_) hs rfl));obtain⟨vs,H1,I1,r1,q1⟩:=hq31;obtain⟨j,e,q1,q2,q⟩:=q1;subst e
 cases r1 with
 |cons r rr =>
  cases rr;obtain⟨t,rfl⟩:=r;exact call_range_1 (nu I1 (by lia) (by lia) q1 q2 (by simpa using q))
theorem rV{a b:Expr}{ta:TA}{p pos:Pos}(hg:Gl X "range")(hm:X.mg "range"=none)(ha:PA X [a,b] ta)(hs:autoParam (starEach [a,b] X.env=[(false,eval a X.env),(false,eval b X.env)]) ℜ0)(hs2:autoParam (starEach [b] X.env=[(false,eval b X.env)]) ℜ0):
  PI X tg (.Call (.Name "range" p) [a,b] [] pos) (j_ ta):=by
 intro pins s σ H R I h;refine Call_ (eZ I hg hm boot_range (Ht (bL (ha pos pins s σ H _ I h) λus s1 hq32=>?_) (by rw[hs,hs2]) (by rw[hs2];rfl)))
 obtain⟨vs,H1,I1,r1,q1⟩:=hq32;obtain⟨i,j,e,⟨q1,q2,q3,q4⟩,q⟩:=q1;subst e
 cases r1 with
 |cons r rr =>
  cases rr with
  |cons r' rr =>
   cases rr;obtain⟨t,rfl⟩:=r;obtain⟨t',rfl⟩:=r';exact call_range_2 (nu I1 q1 q2 q3 q4 q)
noncomputable def Co(wi:TI)(g:TG)(tb:TS):TS:=λD σ H=>wi σ H λJ H1=>∃W:Nat->Nat->St->Hp->Prop,(∃m,W 0 m σ H1)/\∀i m σ H,W i m σ H ->
 (J.stop i H/\D.nx σ H)\/(J.go i H/\∃N:St->Hp->Prop,(∀σ' H',N σ' H'->∃m',m'<m/\W (i+1) m' σ' H')/\∀x H',J.Ag i H x H'->g x σ H' λσ2 H2=>tb {D with nx:=N,ct:=N,bk:=D.nx} σ2 H2)
noncomputable def hV(fp:List Addr)(h:Heap):List (Addr×Obj):=fp.filterMap λb=>(h.get? b).map λo=>(b,o)
theorem dH{o:Obj}(hb:b∈fp)(e:h.get? b=some o):(b,o)∈hV fp h:=Jj.mpr ⟨b,hb,by rw[e];rfl⟩
theorem tE{p:Addr×Obj}(hp:p∈hV fp h):p.1∈fp/\h.get? p.1=some p.2:=by
 obtain⟨b,hb,e⟩:=Jj.mp hp
 cases q:h.get? b with
 |none=>rw[q] at e;cases e
 |some o =>
  rw[q] at e;have e':(b,o)=p:=Option.some.inj e;subst e';exact⟨hb,q⟩
theorem Inv.pinned{s:Shared}(I:Inv X pins σ H s)(hf:∀b∈fp,ji X pins H b)(ho:∀b∈fp,∃o,s.heap.get? b=some o/\∀v,o.data≠.cell v):Inv X (pins++hV fp s.heap) σ H s:=
 I.lL λp hp=>(Hh.mp hp).elim (λz=>I.pin p (GJ _ z)) λz=>by
  obtain⟨hb,e⟩:=tE z;obtain⟨f0,f1,f2,_⟩:=hf p.1 hb;obtain⟨o,e',d⟩:=ho p.1 hb;rw[e] at e';cases e';exact⟨e,f0,f1,f2,d⟩
theorem Inv.f7{pl:List (Addr×Obj)}{s:Shared}(I:Inv X (pins++pl) σ H s):Inv X pins σ H s:=I.lL λp hp=>I.pin p (GJ _ (IV _ hp))
theorem BD{iter:Expr}{wi:TI}{g:TG}{pos:Pos}(hp:PassesOwn (model X.prog X.w) X.A X.env X.xe)(hc:X.calm=true)(hi:PI X tg iter wi)(hg:PG X tg g)(hb:oY X body tb)
  (hs:autoParam (∀x,foldedSetIterable iter X.env x=pure x) ℜ3):PS X (.For tg iter body [] pos) (Co wi g tb):=by
 intro pins s σ H D I h;refine wpAny_For (bL (hi pins s σ H _ I h) λv s1 h1=>bL h1 λitv s2 h2=>?_) hs;obtain⟨it,fp,tn,J,H2,e,I2,T,st2,f2,W,⟨m0,w0⟩,turn⟩:=h2;subst e;have stat:∀{H':Hp},(∀b∈fp,H' b=none)->∀b∈fp,ji X pins H' b:=λhn b hb=>⟨hn b hb,(f2 b hb).2⟩;refine codeAny_forLoop_any (λn s'=>∃i σ' H',Inv X pins σ' H' s'/\tn i s'.heap/\(∀b∈fp,H' b=none)/\W i n σ' H') ?_ m0 ⟨0,σ,H2,I2,st2,λb hb=>(f2 b hb).1,w0⟩;rintro n s3 ⟨i,σ3,H3,I3,st3,fr3,w3⟩;rcases turn i n σ3 H3 w3 with ⟨stop,qn⟩|⟨go,N,hN,step⟩
 ·refine Ip hp (bL (T.done X rfl rfl rfl hc i pins s3 σ3 H3 X.xe I3 (stat fr3) st3 stop) λr s4 hq33=>?_);obtain⟨hr,I4⟩:=hq33;subst hr;exact JJ ⟨σ3,H3,I4,qn⟩
 ·refine Ip hp (bL (T.item X rfl rfl rfl hc i pins s3 σ3 H3 X.xe I3 (stat fr3) st3 go) λr s4 hq34=>?_);obtain⟨u,hr,h4⟩:=hq34;subst hr;refine Ip hp (bL h4 λ_ s5 hq35=>?_);obtain⟨x,H5,I5,r5,y5,st5,fr5⟩:=hq35;have I5':=I5.pinned (stat fr5) (T.obj _ _ st5);refine Ip hp (bL (hg _ s5 σ3 H5 x u _ I5' r5 (step x H5 y5)) λ_ s6 hq36=>?_);obtain⟨σ6,H6,I6,q6⟩:=hq36;refine Ip hp (bL (hb _ s6 σ6 H6 _ I6 q6) λf s7 q7=>?_);have again:∀{σ7:St} {H7:Hp},Inv X (pins++hV fp s5.heap) σ7 H7 s7->N σ7 H7->∃m,m<n/\∃i σ' H',Inv X pins σ' H' s7/\tn i s7.heap/\(∀b∈fp,H' b=none)/\W i m σ' H':=λ{σ7 H7} I7 n7=>by
   obtain⟨m',hm,w7⟩:=hN σ7 H7 n7;refine⟨m',hm,i+1,σ7,H7,I7.f7,T.keep _ _ _ st5 λb hb o e=>(I7.pin (b,o) (GJ _ (GJ _ (dH hb e)))).1,λb hb=>?_,w7⟩;obtain⟨o,e,d⟩:=T.obj _ _ st5 b hb;exact (I7.pin (b,o) (GJ _ (GJ _ (dH hb e)))).2.1
  cases f with
  |next=>obtain⟨σ7,H7,I7,n7⟩:=q7;exact again I7 n7
  |cont=>obtain⟨σ7,H7,I7,n7⟩:=q7;exact again I7 n7
  |brk=>obtain⟨σ7,H7,I7,q7⟩:=q7;exact⟨σ7,H7,I7.f7,q7⟩
  |ret v=>obtain⟨x7,σ7,H7,I7,r7,q7⟩:=q7;exact⟨x7,σ7,H7,I7.f7,r7,q7⟩
end
theorem uS{g:TG}(Pv:Nat->St->Hp->Prop)(h0:Pv 0 σ H)(hl:∀i σ H,i<=xs.length->Pv i σ H->bZ K H a xs)
  (hs:∀i x σ H,xs[i]?=some x->Pv i σ H->g x σ H λσ2 H2=>tb {D with nx:=Pv (i+1),ct:=Pv (i+1),bk:=D.nx} σ2 H2) (hd:∀σ H,Pv xs.length σ H->D.nx σ H) :
  ∃W:Nat->Nat->St->Hp->Prop,(∃m,W 0 m σ H)/\∀i m σ H,W i m σ H ->
   ((vK K a).stop i H/\D.nx σ H)\/((vK K a).go i H/\∃N:St->Hp->Prop,(∀σ' H',N σ' H'->∃m',m'<m/\W (i+1) m' σ' H')/\∀x H',(vK K a).Ag i H x H'->g x σ H' λσ2 H2=>tb {D with nx:=N,ct:=N,bk:=D.nx} σ2 H2):=by
 refine⟨λi m σ H=>m=xs.length-i/\i<=xs.length/\Pv i σ H,⟨xs.length,by simp,GF _,h0⟩,?_⟩
 rintro i m σ H ⟨rfl,hi,p⟩;have q:=hl i σ H hi p;by_cases hlt:i<xs.length
 ·refine .inr ⟨⟨xs,xs[i],q,by simp[hlt]⟩,Pv (i+1),λσ' H' p'=>⟨xs.length-(i+1),by lia,rfl,hlt,p'⟩,λx H' y=>?_⟩
  obtain⟨e,y⟩:=y;subst e;exact hs i x σ _ (y xs q) p
 ·have e:i=xs.length:=by lia
  subst e;exact .inl ⟨⟨xs,q,Gs _⟩,hd σ H p⟩
theorem zj{g:TG}(Pv:Nat->St->Hp->Prop)(h0:Pv 0 σ H)(hl:∀i σ H,i<=xs.length->Pv i σ H->b8 K H a xs)
  (hs:∀i x σ H,xs[i]?=some x->Pv i σ H->g x σ H λσ2 H2=>tb {D with nx:=Pv (i+1),ct:=Pv (i+1),bk:=D.nx} σ2 H2) (hd:∀σ H,Pv xs.length σ H->D.nx σ H) :
  ∃W:Nat->Nat->St->Hp->Prop,(∃m,W 0 m σ H)/\∀i m σ H,W i m σ H ->
   ((tN K a).stop i H/\D.nx σ H)\/((tN K a).go i H/\∃N:St->Hp->Prop,(∀σ' H',N σ' H'->∃m',m'<m/\W (i+1) m' σ' H')/\∀x H',(tN K a).Ag i H x H'->g x σ H' λσ2 H2=>tb {D with nx:=N,ct:=N,bk:=D.nx} σ2 H2):=by
 refine⟨λi m σ H=>m=xs.length-i/\i<=xs.length/\Pv i σ H,⟨xs.length,by simp,GF _,h0⟩,?_⟩
 rintro i m σ H ⟨rfl,hi,p⟩;have q:=hl i σ H hi p;by_cases hlt:i<xs.length
 ·refine .inr ⟨⟨xs,xs[i],q,by simp[hlt]⟩,Pv (i+1),λσ' H' p'=>⟨xs.length-(i+1),by lia,rfl,hlt,p'⟩,λx H' y=>?_⟩
  obtain⟨e,y⟩:=y;subst e;exact hs i x σ _ (y xs q) p
 ·have e:i=xs.length:=by lia
  subst e;exact .inl ⟨⟨xs,q,Gs _⟩,hd σ H p⟩
theorem tT{lo:Int}{n:Nat}{g:TG}(Pv:Nat->St->Hp->Prop)(h0:Pv 0 σ H)
  (hs:∀i σ H,i<n->Pv i σ H->g (.int (lo+i)) σ H λσ2 H2=>tb {D with nx:=Pv (i+1),ct:=Pv (i+1),bk:=D.nx} σ2 H2) (hd:∀σ H,Pv n σ H->D.nx σ H) :
  ∃W:Nat->Nat->St->Hp->Prop,(∃m,W 0 m σ H)/\∀i m σ H,W i m σ H ->
   ((wj lo n).stop i H/\D.nx σ H)\/((wj lo n).go i H/\∃N:St->Hp->Prop,(∀σ' H',N σ' H'->∃m',m'<m/\W (i+1) m' σ' H')/\∀x H',(wj lo n).Ag i H x H'->g x σ H' λσ2 H2=>tb {D with nx:=N,ct:=N,bk:=D.nx} σ2 H2):=by
 refine⟨λi m σ H=>m=n-i/\i<=n/\Pv i σ H,⟨n,by simp,GF _,h0⟩,?_⟩
 rintro i m σ H ⟨rfl,hi,p⟩;by_cases hlt:i<n
 ·refine .inr ⟨hlt,Pv (i+1),λσ' H' p'=>⟨n-(i+1),by lia,rfl,hlt,p'⟩,λx H' y=>?_⟩
  obtain⟨e,y⟩:=y;subst e y;exact hs i σ _ hlt p
 ·have e:i=n:=by lia
  subst e;exact .inl ⟨Gs _,hd σ H p⟩
abbrev R2:=V->V->Hp->VK->Prop
variable{r:R2}
noncomputable def dz(X:Cx)(f:Value->Value->Sem Value)(r:R2):Prop:=
 ∀(pins:List (Addr×Obj)) (s:Shared) (σ:St) (H:Hp) (x y:V) (v u:Value) (Q:VK),Inv X pins σ H s->RelV x v->RelV y u->r x y H Q ->
  wpAny (model X.prog X.w) X.A (f v u) (EP X pins σ Q) X.xe s
noncomputable def EG(X:Cx)(f:Value->Sem Value)(r:V->Hp->VK->Prop):Prop:=
 ∀(pins:List (Addr×Obj)) (s:Shared) (σ:St) (H:Hp) (x:V) (v:Value) (Q:VK),Inv X pins σ H s->RelV x v->r x H Q ->
  wpAny (model X.prog X.w) X.A (f v) (EP X pins σ Q) X.xe s
noncomputable def bC(X:Cx)(f:Value)(r:List V->Hp->VK->Prop):Prop:=
 ∀(pins:List (Addr×Obj)) (s:Shared) (σ:St) (H:Hp) (xs:List V) (us:List Value) (Q:VK),Inv X pins σ H s->Vals xs us->r xs H Q ->
  wpAny (model X.prog X.w) X.A (call f us) (EP X pins σ Q) X.xe s
noncomputable def EZ(X:Cx)(r:V->Hp->(Bool->Hp->Prop)->Prop):Prop:=
 ∀(pins:List (Addr×Obj)) (s:Shared) (σ:St) (H:Hp) (x:V) (v:Value) (Q:Bool->Hp->Prop),Inv X pins σ H s->RelV x v->r x H Q ->
  wpAny (model X.prog X.w) X.A (truthy v) (TP X pins σ Q) X.xe s
noncomputable def tZ(r:R2)(ta tb:TE):TE:=λσ H Q=>ta σ H λx H1=>tb σ H1 λy H2=>r x y H2 Q
noncomputable def DT(r:V->Hp->VK->Prop)(ta:TE):TE:=λσ H Q=>ta σ H λx H1=>r x H1 Q
noncomputable def rI(C:Int->Int->Prop)(g:Int->Int->V):R2:=λx y H Q=>∃i j,x=.int i/\y=.int j/\C i j/\Q (g i j) H
noncomputable def sZ(g:Int->Int->V):R2:=λx y H Q=>∃i j,x=.int i/\y=.int j/\Q (g i j) H
noncomputable def rU(g:Int->V):V->Hp->VK->Prop:=λx H Q=>∃i,x=.int i/\Q (g i) H
section
variable {X:Cx} {a b c:Expr} {ta tb tc:TE} {pos:Pos}
theorem AH(ha:PE X a ta)(hb:PE X b tb){s:Shared}{R:V->V->Hp->Prop}(I:Inv X pins σ H s)
  (h:ta σ H λx H1=>tb σ H1 λy H2=>R x y H2)  
  (hf:∀v u s2 x y H2,Inv X pins σ H2 s2->RelV x v->RelV y u->R x y H2->wpAny (model X.prog X.w) X.A (f v u) Q X.xe s2) :
  wpAny (model X.prog X.w) X.A (eval a X.env) (λv s₁=>wpAny (model X.prog X.w) X.A (eval b X.env) (λu s₂=>wpAny (model X.prog X.w) X.A (f v u) Q X.xe s₂) X.xe s₁) X.xe s:=by
 refine bL (ha pins s σ H _ I h) λv s1 hq37=>?_;obtain⟨x,H1,I1,r1,q1⟩:=hq37;refine bL (hb pins s1 σ H1 _ I1 q1) λu s2 hq38=>?_;obtain⟨y,H2,I2,r2,q2⟩:=hq38;exact hf v u s2 x y H2 I2 r1 r2 q2
theorem Dw{op:Operator}(ho:dz X (binaryOp op) r)(ha:PE X a ta)(hb:PE X b tb):PE X (.BinOp a op b pos) (tZ r ta tb):=by
 intro pins s σ H Q I h;exact wpAny_BinOp (AH ha hb I h λv u s2 x y H2 I2 rx ry q=>ho pins s2 σ H2 x y v u Q I2 rx ry q)
theorem Eu{op:UnaryOp}{r:V->Hp->VK->Prop}(ho:EG X (unaryOp op) r)(ha:PE X a ta):PE X (.UnaryOp op a pos) (DT r ta):=by
 intro pins s σ H Q I h;exact UnaryOp_ (bL (ha pins s σ H _ I h) λv s1 ⟨x,H1,I1,r1,q1⟩=>ho pins s1 σ H1 x v Q I1 r1 q1)
theorem E8{C:Int->Int->Prop}
  (rule:∀(i j:Int) (t u:Tok) (s:Shared) (Q:Value->Shared->Prop) (E:Value->Shared->Prop),C i j->Q (.int (g i j) s.toks) {s with toks:=s.toks+1}->wpAny (model X.prog X.w) X.A (f (.int i t) (.int j u)) Q E s) :
  dz X f (rI C λi j=>.int (g i j)):=by
 intro pins s σ H x y v u Q I rx ry h;obtain⟨i,j,rfl,rfl,hc,q⟩:=h;obtain⟨t,rfl⟩:=rx;obtain⟨t',rfl⟩:=ry;exact rule i j t t' s _ _ hc ⟨.int (g i j),H,I.tok _,⟨_,rfl⟩,q⟩
theorem DF
  (rule:∀(i j:Int) (t u:Tok) (s:Shared) (Q:Value->Shared->Prop) (E:Value->Shared->Prop),Q (.int (g i j) s.toks) {s with toks:=s.toks+1}->wpAny (model X.prog X.w) X.A (f (.int i t) (.int j u)) Q E s) :
  dz X f (sZ λi j=>.int (g i j)):=by
 intro pins s σ H x y v u Q I rx ry h;obtain⟨i,j,rfl,rfl,q⟩:=h;obtain⟨t,rfl⟩:=rx;obtain⟨t',rfl⟩:=ry;exact rule i j t t' s _ _ ⟨.int (g i j),H,I.tok _,⟨_,rfl⟩,q⟩
theorem yp{g:Int->Int->Bool}
  (rule:∀(i j:Int) (t u:Tok) (s:Shared) (Q:Value->Shared->Prop) (E:Value->Shared->Prop),Q (.bool (g i j)) s->wpAny (model X.prog X.w) X.A (f (.int i t) (.int j u)) Q E s) :
  dz X f (sZ λi j=>.bl (g i j)):=by
 intro pins s σ H x y v u Q I rx ry h;obtain⟨i,j,rfl,rfl,q⟩:=h;obtain⟨t,rfl⟩:=rx;obtain⟨t',rfl⟩:=ry;exact rule i j t t' s _ _ ⟨.bl (g i j),H,I,rfl,q⟩
noncomputable def FD(i j:Int):Prop:=0<j/\j<1073741824
noncomputable def sO(i j:Int):Prop:=0<=j/\j<=1000000/\i.natAbs<2^64
noncomputable def sd(i j:Int):Prop:=(-(2^64)<i/\i<2^64)\/(-(2^64)<j/\j<2^64)
theorem sd.ok{i j:Int}(h:sd i j):IntMulOk i j:=by
 rcases h with ⟨h1,h2⟩|⟨h1,h2⟩
 ·exact .of_left (intBits_le_64 h1 h2)
 ·exact .of_right (intBits_le_64 h1 h2)
theorem Bb:dz X (binaryOp .Add) (sZ λi j=>.int (i+j)):=DF λ_ _ _ _ _ _ _ q=>add_int q
theorem bO:dz X (binaryOp .Sub) (sZ λi j=>.int (i-j)):=DF λ_ _ _ _ _ _ _ q=>sub_int q
theorem AN:dz X (binaryOp .Mult) (rI sd λi j=>.int (i*j)):=E8 λ_ _ _ _ _ _ _ hc q=>mul_int q hc.ok
theorem lG:dz X (binaryOp .FloorDiv) (rI FD λi j=>.int (i / j)):=E8 λi j _ _ _ _ _ hc q=>by
 have h1:(0:Int)<j:=hc.1;have h2:j<1073741824:=hc.2;exact floordiv_int (by lia) (by rw[Int.fdiv_eq_ediv_of_nonneg i (by lia)];exact q) (.inl (PyProof.noPylong_small (by lia)))
theorem bY:dz X (binaryOp .Mod) (rI (λ_ j=>0<j) λi j=>.int (i % j)):=E8 λi j _ _ _ _ _ hc q=>by
 have h1:(0:Int)<j:=hc;exact mod_int' (by lia) (by rw[Int.fmod_eq_emod_of_nonneg i (by lia)];exact q)
theorem pB:dz X (binaryOp .Pow) (rI sO λi j=>.int (i^j.toNat)):=E8 λ_ _ _ _ _ _ _ hc q=>pow_int_small hc.1 hc.2.1 hc.2.2 q
theorem BB:dz X (binaryOp .LShift) (rI sO λi j=>.int (i*2^j.toNat)):=E8 λ_ _ _ _ _ _ _ hc q=>lshift_int_small hc.1 hc.2.1 hc.2.2 q
theorem FY{f:Value->Sem Value}{g:Int->Int}
  (rule:∀(i:Int) (t:Tok) (s:Shared) (Q:Value->Shared->Prop) (E:Value->Shared->Prop),Q (.int (g i) s.toks) {s with toks:=s.toks+1}->wpAny (model X.prog X.w) X.A (f (.int i t)) Q E s) :
  EG X f (rU λi=>.int (g i)):=by
 intro pins s σ H x v Q I rx h;obtain⟨i,rfl,q⟩:=h;obtain⟨t,rfl⟩:=rx;exact rule i t s _ _ ⟨.int (g i),H,I.tok _,⟨_,rfl⟩,q⟩
theorem k_:EG X (unaryOp .USub) (rU λi=>.int (-i)):=FY λ_ _ _ _ _ q=>neg_int q
end
noncomputable def DV:V->V->Bool
 |.aQ,.aQ=>true|.aQ,.int _=>true|.int _,.aQ=>true|.aQ,.bl _=>true|.bl _,.aQ=>true|.aQ,.str _=>true|.str _,.aQ=>true
 |.int _,.int _=>true|.bl _,.bl _=>true|.str _,.str _=>true|.oI _,.oI _=>true
 |.int _,.str _=>true|.str _,.int _=>true|.bl _,.str _=>true|.str _,.bl _=>true
 |_,_=>false
noncomputable def A0:R2:=λx y H Q=>DV x y=true/\Q (.bl (decide (x=y))) H
noncomputable def CN:R2:=λx y H Q=>DV x y=true/\Q (.bl (!decide (x=y))) H
theorem qC{i j:Int}:decide (V.int i=V.int j)=(i == j):=by
 rw[IJ];simp
theorem ug{i j:Bool}:decide (V.bl i=V.bl j)=(i == j):=by
 rw[IJ];simp
theorem rG{i j:Str}:decide (V.str i=V.str j)=(i == j):=by
 rw[IJ];simp
theorem qV{i j:Array UInt8}:decide (V.oI i=V.oI j)=(i.toList == j.toList):=by
 rw[IJ];cases i;cases j;simp
section
variable {X:Cx} {a b c:Expr} {ta tb tc:TE} {pos:Pos}
theorem aU{s:Shared}{Q:VK}{k k':Bool}(I:Inv X pins σ H s)(q:Q (.bl k) H)(e:k=k'):EP X pins σ Q (.bool k') s:=by
 subst e;exact⟨.bl k,H,I,rfl,q⟩
theorem CW:dz X (compareOp .Eq) A0:=by
 intro pins s σ H x y v u Q I rx ry h;obtain⟨hs,q⟩:=h
 cases x with
 |aQ =>
  cases rx
  cases y with
  |aQ=>cases ry;exact PySem.EqNone.eq_none_none (aU I q (by simp))
  |bl j=>cases ry;exact PySem.EqNone.eq_none_bool (aU I q (by simp))
  |int j=>obtain⟨t',rfl⟩:=ry;exact PySem.EqNone.eq_none_int (aU I q (by simp))
  |str j=>obtain⟨t',rfl⟩:=ry;exact PySem.EqNone.eq_none_str (aU I q (by simp))
  |_=>exact absurd (show false=true from hs) Gz
 |bl i =>
  cases rx
  cases y with
  |aQ=>cases ry;exact PySem.EqNone.eq_bool_none (aU I q (by simp))
  |bl j=>cases ry;exact eq_bool (aU I q ug)
  |str j=>obtain⟨t',rfl⟩:=ry;exact PySem.EqMixed.eq_bool_str (aU I q (by simp))
  |_=>exact absurd (show false=true from hs) Gz
 |int i =>
  obtain⟨t,rfl⟩:=rx
  cases y with
  |aQ=>cases ry;exact PySem.EqNone.eq_int_none (aU I q (by simp))
  |int j=>obtain⟨t',rfl⟩:=ry;exact eq_int (aU I q qC)
  |str j=>obtain⟨t',rfl⟩:=ry;exact PySem.EqMixed.eq_int_str (aU I q (by simp))
  |_=>exact absurd (show false=true from hs) Gz
 |str i =>
  obtain⟨t,rfl⟩:=rx
  cases y with
  |aQ=>cases ry;exact PySem.EqNone.eq_str_none (aU I q (by simp))
  |bl j=>cases ry;exact PySem.EqMixed.eq_str_bool (aU I q (by simp))
  |int j=>obtain⟨t',rfl⟩:=ry;exact PySem.EqMixed.eq_str_int (aU I q (by simp))
  |str j=>obtain⟨t',rfl⟩:=ry;exact eq_str (aU I q rG)
  |_=>exact absurd (show false=true from hs) Gz
 |oI i =>
  obtain⟨t,rfl⟩:=rx
  cases y with
  |oI j=>obtain⟨t',rfl⟩:=ry;exact PySem.W.eq_bytes (aU I q qV)
  |_=>exact absurd (show false=true from hs) Gz
 |_=>cases y<;>exact absurd (show false=true from hs) Gz
theorem DK:dz X (compareOp .NotEq) CN:=by
 intro pins s σ H x y v u Q I rx ry h;obtain⟨hs,q⟩:=h
 cases x with
 |aQ =>
  cases rx
  cases y with
  |aQ=>cases ry;exact PySem.EqNone.ne_none_none (aU I q (by simp))
  |bl j=>cases ry;exact PySem.EqNone.ne_none_bool (aU I q (by simp))
  |int j=>obtain⟨t',rfl⟩:=ry;exact PySem.EqNone.ne_none_int (aU I q (by simp))
  |str j=>obtain⟨t',rfl⟩:=ry;exact PySem.EqNone.ne_none_str (aU I q (by simp))
  |_=>exact absurd (show false=true from hs) Gz
 |bl i =>
  cases rx
  cases y with
  |aQ=>cases ry;exact PySem.EqNone.ne_bool_none (aU I q (by simp))
  |bl j=>cases ry;exact ne_bool (aU I q (Hm not ug))
  |str j=>obtain⟨t',rfl⟩:=ry;exact PySem.EqMixed.ne_bool_str (aU I q (by simp))
  |_=>exact absurd (show false=true from hs) Gz
 |int i =>
  obtain⟨t,rfl⟩:=rx
  cases y with
  |aQ=>cases ry;exact PySem.EqNone.ne_int_none (aU I q (by simp))
  |int j=>obtain⟨t',rfl⟩:=ry;exact ne_int (aU I q (Hm not qC))
  |str j=>obtain⟨t',rfl⟩:=ry;exact PySem.EqMixed.ne_int_str (aU I q (by simp))
  |_=>exact absurd (show false=true from hs) Gz
 |str i =>
  obtain⟨t,rfl⟩:=rx
  cases y with
  |aQ=>cases ry;exact PySem.EqNone.ne_str_none (aU I q (by simp))
  |bl j=>cases ry;exact PySem.EqMixed.ne_str_bool (aU I q (by simp))
  |int j=>obtain⟨t',rfl⟩:=ry;exact PySem.EqMixed.ne_str_int (aU I q (by simp))
  |str j=>obtain⟨t',rfl⟩:=ry;exact ne_str (aU I q (Hm not rG))
  |_=>exact absurd (show false=true from hs) Gz
 |oI i =>
  obtain⟨t,rfl⟩:=rx
  cases y with
  |oI j=>obtain⟨t',rfl⟩:=ry;exact PySem.W.ne_bytes (aU I q (Hm not qV))
  |_=>exact absurd (show false=true from hs) Gz
 |_=>cases y<;>exact absurd (show false=true from hs) Gz
theorem i3:dz X (compareOp .Lt) (sZ λi j=>.bl (decide (i<j))):=yp λ_ _ _ _ _ _ _ q=>lt_int q
theorem Aq:dz X (compareOp .LtE) (sZ λi j=>.bl (decide (i<=j))):=yp λ_ _ _ _ _ _ _ q=>le_int q
theorem zY:dz X (compareOp .Gt) (sZ λi j=>.bl (decide (j<i))):=yp λ_ _ _ _ _ _ _ q=>gt_int q
theorem rh:dz X (compareOp .GtE) (sZ λi j=>.bl (decide (j<=i))):=yp λ_ _ _ _ _ _ _ q=>ge_int q
theorem sQ:dz X (compareOp .In) (λx y H Q=>∃i j,x=.str i/\y=.str j/\Q (.bl (!(Builtin.Str.occurrences j i 0 j.length 1).isEmpty)) H):=by
 intro pins s σ H x y v u Q I rx ry h;obtain⟨i,j,rfl,rfl,q⟩:=h;obtain⟨t,rfl⟩:=rx;obtain⟨t',rfl⟩:=ry;exact in_str (aU I q rfl)
theorem cG:dz X (compareOp .Is) (λx y H Q=>y=.aQ/\Q (.bl (decide (x=.aQ))) H):=by
 intro pins s σ H x y v u Q I rx ry h;obtain⟨rfl,q⟩:=h;cases ry;refine is_none_gen (aU I q ?_)
 cases x<;>first
  | (cases rx;rfl)
  | (obtain⟨t,rfl⟩:=rx;rfl)
theorem yV:dz X (compareOp .IsNot) (λx y H Q=>y=.aQ/\Q (.bl (!decide (x=.aQ))) H):=by
 intro pins s σ H x y v u Q I rx ry h;obtain⟨rfl,q⟩:=h;cases ry;refine isnot_none_gen (aU I q ?_)
 cases x<;>first
  | (cases rx;rfl)
  | (obtain⟨t,rfl⟩:=rx;rfl)
theorem dz.or{r':R2}(h:dz X f r)(h':dz X f r'):dz X f (λx y H Q=>r x y H Q\/r' x y H Q):=by
 intro pins s σ H x y v u Q I rx ry q;rcases q with q|q
 ·exact h pins s σ H x y v u Q I rx ry q
 ·exact h' pins s σ H x y v u Q I rx ry q
theorem yE{op:CmpOp}(ho:dz X (compareOp op) r)(ha:PE X a ta)(hb:PE X b tb)(hm:behindInMarks op b=false):PE X (.Compare a [op] [b] pos) (tZ r ta tb):=by
 intro pins s σ H Q I h;exact wpAny_Compare1 (AH ha hb I h λv u s2 x y H2 I2 rx ry q=>ho pins s2 σ H2 x y v u Q I2 rx ry q) hm
noncomputable def iF(t:TE):TT:=λσ H Q=>t σ H λx H'=>∃k,x=.bl k/\Q k H'
theorem yq{op:CmpOp}(ho:dz X (compareOp op) r)(ha:PE X a ta)(hb:PE X b tb)(hm:behindInMarks op b=false):PT X (.Compare a [op] [b] pos) (iF (tZ r ta tb)):=by
 intro pins s σ H Q I h;refine wpAny_isTrue_Compare1 (bL (ha pins s σ H _ I h) λv s1 ⟨x,H1,I1,r1,q1⟩=>bL (hb pins s1 σ H1 _ I1 q1) λu s2 ⟨y,H2,I2,r2,q2⟩=>
  bL (ho pins s2 σ H2 x y v u _ I2 r1 r2 q2) λc s3 ⟨z,H3,I3,r3,k,e,q3⟩=>?_) hm
 subst e;cases r3;exact Ir ⟨H3,I3,q3⟩
noncomputable def jy(r r':R2)(ta tb tc:TE):TE:=λσ H Q=>ta σ H λx H1=>tb σ H1 λy H2=>r x y H2 λz H3=>∃k,z=.bl k /\
 (if k=true then tc σ H3 λw' H4=>r' y w' H4 Q else Q (.bl false) H3)
theorem u0{op op':CmpOp}{r':R2}(ho:dz X (compareOp op) r)(ho':dz X (compareOp op') r')(ha:PE X a ta)(hb:PE X b tb)(hc:PE X c tc)
  (hm:autoParam (lastMarks [op,op'] [b,c]=false) ℜ5):PT X (.Compare a [op,op'] [b,c] pos) (iF (jy r r' ta tb tc)):=by
 intro pins s σ H Q I h;refine isTrue_chain (bL (ha pins s σ H _ I h) λv s1 ⟨x,H1,I1,r1,q1⟩=>test_link (bL (hb pins s1 σ H1 _ I1 q1) λu s2 ⟨y,H2,I2,r2,q2⟩=>
  bL (ho pins s2 σ H2 x y v u _ I2 r1 r2 q2) λd s3 ⟨z,H3,I3,r3,k,e,q3⟩=>?_)) hm
 subst e;cases r3;refine Ir ?_
 cases k with
 |false =>
  obtain⟨k',e',q'⟩:=q3;cases e';exact ite_ff ⟨H3,I3,q'⟩
 |true =>
  refine ite_tt (test_last (bL (hc pins s3 σ H3 _ I3 q3) λw' s4 ⟨z',H4,I4,r4,q4⟩=>bL (ho' pins s4 σ H4 y z' u w' _ I4 r2 r4 q4) λd' s5 hq39=>?_));obtain⟨z2,H5,I5,r5,k2,e2,q5⟩:=hq39;subst e2;cases r5;exact Ir ⟨H5,I5,q5⟩
noncomputable def uT(K:LA)(x:V)(H:Hp)(k:Bool):Prop:=
 match x with
 |.aQ=>k=false
 |.bl b=>k=b
 |.int i=>k=(i != 0)
 |.str y=>y.length<=sizeLine/\k=((y.length:Int) != 0)
 |.oI y=>y.size<=sizeLine/\k=((y.size:Int) != 0)
 |.ref p=>(∃xs,bZ K H p xs/\k=!xs.isEmpty)\/(∃xs,b8 K H p xs/\k=!xs.isEmpty)\/∃kvs,H p=some (.dK kvs)/\k=!kvs.isEmpty
 |_=>False
theorem pq{κ:Type}{kvs:List (κ×V)}{vs:List (κ×Value)}(r:KV kvs vs):(!vs.isEmpty)=!kvs.isEmpty:=by
 cases r<;>rfl
theorem iX{its:List Value}(r:Vals xs its):(!its.toArray.isEmpty)=!xs.isEmpty:=by
 cases r<;>simp
theorem iq:(sizeLine:Nat)<2^63:=by rw[Hz];decide
theorem C7:EZ X (λx H Q=>∃k,uT X.K x H k/\Q k H):=by
 intro pins s σ H x v Q I rx h;obtain⟨k,e,q⟩:=h;have hl:=iq;have hs:sizeLine=16777216:=Hz
 cases x with
 |aQ =>
  cases rx;have e':k=false:=e;subst e';exact truthy_none ⟨H,I,q⟩
 |bl b =>
  cases rx;have e':k=b:=e;subst e';exact Ir ⟨H,I,q⟩
 |int i =>
  obtain⟨t,rfl⟩:=rx;have e':k=(i != 0):=e;subst e';exact PySem.P.truthy_int ⟨H,I,q⟩
 |str y =>
  obtain⟨t,rfl⟩:=rx;obtain⟨hy,e'⟩:y.length<=sizeLine/\k=((y.length:Int) != 0):=e;subst e';exact PySem.P.truthy_str (by lia) ⟨H,I.tok _,q⟩
 |oI y =>
  obtain⟨t,rfl⟩:=rx;obtain⟨hy,e'⟩:y.size<=sizeLine/\k=((y.size:Int) != 0):=e;subst e';exact PySem.W.truthy_bytes (by lia) ⟨H,I.tok _,q⟩
 |ref p =>
  cases rx;have e':(∃xs,bZ X.K H p xs/\k=!xs.isEmpty)\/(∃xs,b8 X.K H p xs/\k=!xs.isEmpty)\/∃kvs,H p=some (.dK kvs)/\k=!kvs.isEmpty:=e;rcases e' with ⟨xs,hx,e'⟩|⟨xs,hx,e'⟩|⟨kvs,hx,e'⟩
  ·subst e';obtain⟨its,r,pl,hz⟩:=I.list hx;have hlen:=r.length;exact wpAny_truthy_list pl.isList (by simp only[G4];lia) ⟨H,I.tok _,by rw[iX r];exact q⟩
  ·subst e';obtain⟨its,r,pl,hz⟩:=I.tuple hx;have hlen:=r.length;exact truthy_tuple pl (by simp only[G4];lia) ⟨H,I.tok _,by rw[iX r];exact q⟩
  ·subst e';obtain⟨hz,hS,vs,r,m⟩:kvs.length<=sizeLine/\(p == sysModules)=false/\∃vs,KV kvs vs/\s.heap.DictOf (bG X.prog X.w) p vs:=I.aX p _ hx;have hlen:kvs.length=vs.length:=Paired.length r;exact wpAny_truthy_dict hS m (by lia) ⟨H,I.tok _,by rw[pq r];exact q⟩
 |_=>exact (show False from e).elim
theorem vL(ha:PE X a ta)(he:∀whole,isTrue a X.env whole=(do let v <- whole;standAt a.pos;holding [v] (truthy v))):
  PT X a (λσ H Q=>ta σ H λx H'=>∃k,uT X.K x H' k/\Q k H'):=by
 intro pins s σ H Q I h;exact isTrue_plain (bL (ha pins s σ H _ I h) λv s1 ⟨x,H1,I1,r1,q1⟩=>C7 pins s1 σ H1 x v Q I1 r1 q1) (he _)
theorem pe:dz X (binaryOp .Add) (λx y H Q=>∃i j,x=.str i/\y=.str j/\i.length+j.length<=sizeLine/\Q (.str (i++j)) H):=by
 intro pins s σ H x y v u Q I rx ry h;obtain⟨i,j,rfl,rfl,hz,q⟩:=h;obtain⟨t,rfl⟩:=rx;obtain⟨t',rfl⟩:=ry;exact add_str (λt' tk=>⟨.str (i++j),H,I.tok _,⟨_,rfl⟩,q⟩) hz
theorem vals1{x:V}(r:Vals [x] us):∃u,us=[u]/\RelV x u:=by
 cases r with
 |cons r1 r2=>cases r2;exact⟨_,rfl,r1⟩
theorem vals2{x y:V}(r:Vals [x,y] us):∃u w',us=[u,w']/\RelV x u/\RelV y w':=by
 cases r with
 |cons r1 r2 =>
  cases r2 with
  |cons r3 r4=>cases r4;exact⟨_,_,rfl,r1,r3⟩
theorem wA:bC X (.builtin "abs") (λxs H Q=>∃i,xs=[.int i]/\Q (.int (if i<0 then -i else i)) H):=by
 intro pins s σ H xs us Q I r h;obtain⟨i,rfl,q⟩:=h;obtain⟨u,rfl,t,rfl⟩:=vals1 r;exact call_abs_int λu tk=>⟨.int (if i<0 then -i else i),H,I.tok _,⟨_,rfl⟩,q⟩
theorem sX(hc:X.calm=true):bC X (.builtin "min") (λxs H Q=>∃i j,xs=[.int i,.int j]/\Q (.int (if j<i then j else i)) H):=by
 intro pins s σ H xs us Q I r h;obtain⟨i,j,rfl,q⟩:=h;obtain⟨u,w',rfl,⟨t,rfl⟩,⟨t',rfl⟩⟩:=vals2 r;refine min_two_ints (I.ok.hd hc) λh' tk k=>⟨_,H,I.kept k,?_,q⟩;by_cases hj:j<i
 ·rw[Gp hj,Gp hj];exact⟨_,rfl⟩
 ·rw[Gn hj,Gn hj];exact⟨_,rfl⟩
theorem jY:bC X (.type "int") (λxs H Q=>(∃i,xs=[.int i]/\Q (.int i) H)\/∃k,xs=[.bl k]/\Q (.int (if k then 1 else 0)) H):=by
 intro pins s σ H xs us Q I r h;rcases h with ⟨i,rfl,q⟩|⟨k,rfl,q⟩
 ·obtain⟨u,rfl,t,rfl⟩:=vals1 r;exact call_int_int ⟨.int i,H,I,⟨_,rfl⟩,q⟩
 ·obtain⟨u,rfl,r1⟩:=vals1 r;cases r1;exact call_int_bool ⟨.int (if k then 1 else 0),H,I.tok _,⟨_,rfl⟩,q⟩
noncomputable def Dj(K:LA)(x:V)(H:Hp)(n:Nat):Prop:=
 match x with
 |.str y=>y.length<=sizeLine/\n=y.length
 |.oI y=>y.size<=sizeLine/\n=y.size
 |.ref p=>(∃xs,bZ K H p xs/\n=xs.length)\/∃xs,b8 K H p xs/\n=xs.length
 |_=>False
theorem gC:bC X (.builtin "len") (λxs H Q=>∃x n,xs=[x]/\Dj X.K x H n/\Q (.int n) H):=by
 intro pins s σ H xs us Q I r h;obtain⟨x,n,rfl,e,q⟩:=h;obtain⟨u,rfl,rx⟩:=vals1 r;have hl:=iq;have hs:sizeLine=16777216:=Hz
 cases x with
 |str y =>
  obtain⟨t,rfl⟩:=rx;obtain⟨hy,e'⟩:y.length<=sizeLine/\n=y.length:=e;subst e';exact len_str (by lia) ⟨.int _,H,I.tok _,⟨_,rfl⟩,q⟩
 |oI y =>
  obtain⟨t,rfl⟩:=rx;obtain⟨hy,e'⟩:y.size<=sizeLine/\n=y.size:=e;subst e';exact PySem.W.len_bytes (by lia) ⟨.int _,H,I.tok _,⟨_,rfl⟩,q⟩
 |ref p =>
  cases rx;have e':(∃xs,bZ X.K H p xs/\n=xs.length)\/∃xs,b8 X.K H p xs/\n=xs.length:=e;rcases e' with ⟨xs,hx,e'⟩|⟨xs,hx,e'⟩
  ·subst e';obtain⟨its,r',pl,hz⟩:=I.list hx;have hlen:=r'.length;exact Calls.call_len_list pl.isList (by simp only[G4];lia) ⟨.int xs.length,H,I.tok _,⟨_,by simp only[G4];rw[hlen]⟩,q⟩
  ·subst e';obtain⟨its,r',pl,hz⟩:=I.tuple hx;have hlen:=r'.length;exact len_tuple pl (by simp only[G4];lia) ⟨.int xs.length,H,I.tok _,⟨_,by simp only[G4];rw[hlen]⟩,q⟩
 |_=>exact (show False from e).elim
end
structure qh (h:Heap) (x dx C:Addr) (mA:Str->Option Value):Prop where
 obj:h.get? x=some (PySem.W.instObj C dx)
 ns:h.Ns1 dx mA
 ne:dx≠x
theorem r_{dx:Addr}(n:h.Ns1 dx mA):∃od,h.get? dx=some od/\∀name,PySem.W.lookIn name od=some (mA name):=by
 obtain⟨o,es,ep,ho,hd,hk,_,hm⟩:=n;refine⟨o,ho,λname=>?_⟩;have e:=hm name;unfold nsFind findBy at e;rw[<- Array.find?_toList] at e;unfold PySem.W.lookIn;rw[hd];dsimp only;split
 ·rename_i y q;rw[q] at e;exact Hm some e
 ·rename_i q;rw[q] at e;have a:es.toList.any (·.refKey)=false:=by
   rw[List.any_eq_false];intro y hy;obtain⟨z,t,hkey⟩:=hk y (Array.mem_toList_iff.mp hy);simp[DictEntry.refKey,hkey]
  have a':¬ es.toList.any (·.refKey)=true:=by rw[a];exact Gz
  rw[Gn a'];exact Hm some e
theorem qh.look{x dx:Addr}(I:qh h x dx C mA):∃od,PySem.W.InstAt h x (PySem.W.instObj C dx) C (some od)/\∀name,PySem.W.lookIn name od=some (mA name):=
 let ⟨od,ho,hl⟩:=r_ I.ns
 ⟨od,⟨I.obj,rfl,rfl,ho⟩,hl⟩
section
variable {prog:Program} {w:World} {A:Around} {E:Value->Shared->Prop} {s:Shared} {K:LA} {x dx C f:Addr} {mA:Str->Option Value} {name:Str} {v:Value}
theorem get_map{expr:Bool}(X:K.In s.heap)(I:qh s.heap x dx C mA)(hg:PySem.W.plainGet K C name=true)(hh:PySem.W.hasDictIn K C=true)
  (ha:PySem.W.findIn K (.ref C) name=some none) (hv:mA name=some v) (hv':PySem.W.handedIn v=true) (h:Q v {s with toks:=s.toks+1}) :
  wpAny (model prog w) A (getAttr (.ref x) name expr) Q E s:=by
 obtain⟨od,J,hl⟩:=I.look;exact PySem.W.get_value X J (PySem.W.plainGet_of hg).1 (PySem.W.findObj_own hh ha rfl (by rw[hl,hv])) hv' h
theorem u4{Q:Value×List Value->Shared->Prop}(X:K.In s.heap)(I:qh s.heap x dx C mA)(hg:PySem.W.plainGet K C name=true)
  (hf:PySem.W.findIn K (.ref C) name=some (some (.ref f))) (ht:PySem.W.isFn K (.ref f)=true) (hv:mA name=none) (h:Q (.ref f,[.ref x]) s) :
  wpAny (model prog w) A (getMethod (.ref x) name pl) Q E s:=by
 obtain⟨od,J,hl⟩:=I.look;exact PySem.W.method_fn X J (PySem.W.plainGet_of hg).1 (PySem.W.plainGet_of hg).2 hf (IW.mp ht) (by show (PySem.W.lookIn name od).map (·.isSome)=some false;rw[hl,hv];rfl) h
theorem zm{ns:List Str}{Q:Unit->Shared->Prop}(X:K.In s.heap)(I:qh s.heap x dx C mA)
  (hs:PySem.W.findIn K (.ref C) "__setattr__"=some (some (.builtin "object.__setattr__"))) (hp:PySem.W.plainOver K C=true) (ht:PySem.W.takerIn K C name=some none) (hh:PySem.W.hasDictIn K C=true)
  (hw:PySem.Within mA ns) (hsz:ns.length<=sizeLine)
  (h:∀h',qh h' x dx C (λy=>if y=name then some v else mA y)->Heap.SameBut dx s.heap h'->Q () {s with heap:=h',toks:=s.toks+2}) :
  wpAny (model prog w) A (setAttr (.ref x) name v) Q E s:=by
 obtain⟨od,J,hl⟩:=I.look;refine PySem.W.set_plain X J hs (PySem.W.osa_open (s:={s with toks:=s.toks+1}) (r:=none) X J hp ht λb=>?_)
 obtain⟨cd,hc,hd'⟩:=PySem.W.any_some hh;have hx:s.heap.get? x=some ⟨.ref C,some dx,.plain,#[]⟩:=I.obj;refine Gj (Gu (Gj (Gj (wpAny_loadPart hx (Gj (PySem.W.Looks.here (s:={s with toks:=s.toks+1}) (PySem.W.looks_clsIn X hc) ?_))))))
 rw[hd'];refine Gu (a:=some dx) (Gj (Gu (Gj ?_)));refine wpAny_nsSet1 (s:={s with toks:=s.toks+1}) I.ns λh' hn2 hs2=>?_
 obtain⟨oD,esD,epD,hoD,hdD,hcD⟩:=hn2.count (PySem.Within.cons name v hw);refine Gj (wpAny_lookBehind hoD (by rw[hdD];exact pastItsLine_dict (Gw hcD (by rw[GC];lia))) ?_)
 exact Gu (h _ ⟨(hs2.2 _ (Hy I.ne)).trans I.obj,hn2,I.ne⟩ hs2)
theorem wK{R:Result->Shared->Prop}{vs:List Value}(X:K.In s.heap)(hm:PySem.W.makesIn K C=true)
  (hi:PySem.W.findIn K (.ref C) "__init__"=some (some (.ref f))) (hf:PySem.W.typeIn K (.ref f)=some (.type "function"))
  (h:codeAny (model prog w) (A.under (.builtin "type.__call__" ⟨.ref C::vs,kw⟩)) (.call (.ref f) ⟨.ref (s.heap.objs.size+1)::vs,kw⟩) (PySem.W.InitBack (s.heap.objs.size+1) R)
   {s with heap:=(s.heap.push PySem.W.emptyDict).push (PySem.W.instObj C s.heap.objs.size)}) :
  codeAny (model prog w) A (.call (.ref C) ⟨vs,kw⟩) R s:=by
 obtain⟨hh,g,d,t,os⟩:=s;exact PySem.W.make_core (PySem.W.makes_of X hm) (PySem.W.looks_findIn X hi) (λself=>PySem.W.bind_fn X self hf) (.inl rfl) h
end
noncomputable def d6(f:Str)(v:V):List (Str×V)->List (Str×V)
 |[]=>[(f,v)]
 | (g,x)::r=>if g=f then (g,v)::r else (g,x)::d6 f v r
theorem iA(f g:Str)(v:V):∀fs:List (Str×V),(d6 f v fs).lookup g=if g=f then some v else fs.lookup g
 |[]=>by
  show List.lookup g [(f,v)]=_;by_cases h:g=f
  ·have hb:(g == f)=true:=IW.mpr h;simp only[List.lookup,hb,Gp h]
  ·have hb:(g == f)=false:=G_.mpr h;simp only[List.lookup,hb,Gn h]
 | (k,x)::r=>by
  have ih:=iA f g v r;rw[show d6 f v ((k,x)::r)=(if k=f then (k,v)::r else (k,x)::d6 f v r) from rfl]
  by_cases hk:k=f
  ·rw[Gp hk];by_cases h:g=k
   ·have hb:(g == k)=true:=IW.mpr h;simp only[List.lookup,hb,Gp (h.trans hk)]
   ·have hb:(g == k)=false:=G_.mpr h;simp only[List.lookup,hb,Gn (λe:g=f=>h (e.trans hk.symm))]
  ·rw[Gn hk];by_cases h:g=k
   ·have hb:(g == k)=true:=IW.mpr h;simp only[List.lookup,hb,Gn (λe:g=f=>hk (h.symm.trans e))]
   ·have hb:(g == k)=false:=G_.mpr h;simp only[List.lookup,hb];exact ih
theorem ie(f:Str)(v:V):∀fs:List (Str×V),f∈(d6 f v fs).map (·.1)/\∀g,g∈fs.map (·.1)->g∈(d6 f v fs).map (·.1)
 |[]=>⟨by simp[d6],λg h=>by simp at h⟩
 | (k,x)::r=>by
  obtain⟨i1,i2⟩:=ie f v r;rw[show d6 f v ((k,x)::r)=(if k=f then (k,v)::r else (k,x)::d6 f v r) from rfl]
  by_cases hk:k=f
  ·rw[Gp hk];subst hk;exact⟨by simp,λg h=>by simpa using h⟩
  ·rw[Gn hk];refine⟨?_,λg h=>?_⟩
   ·rw[GV];exact GA _ i1
   ·rw[GV] at h ⊢;rcases Gv.mp h with e|e
    ·exact Gv.mpr (.inl e)
    ·exact GA _ (i2 g e)
theorem iC(f:Str)(v:V):∀fs:List (Str×V),(d6 f v fs).length<=fs.length+1
 |[]=>by simp[d6]
 | (k,x)::r=>by
  have ih:=iC f v r;rw[show d6 f v ((k,x)::r)=(if k=f then (k,v)::r else (k,x)::d6 f v r) from rfl]
  by_cases hk:k=f
  ·rw[Gp hk,GC,GC];lia
  ·rw[Gn hk,GC,GC];lia
theorem gc.some_of{v:V}{o:Option Value}(r:gc (some v) o):∃u,o=some u/\RelV v u:=by
 cases o with
 |none=>exact (show False from r).elim
 |some u=>exact⟨u,rfl,r⟩
theorem gc.none_of{o:Option Value}(r:gc none o):o=none:=by
 cases o with
 |none=>rfl
 |some u=>exact (show False from r).elim
theorem tQ{v:V}(r:RelV v u):PySem.W.handedIn u=true:=by
 cases v with
 |aQ=>cases (show u=Value.none from r);rfl
 |bl b=>cases (show u=Value.bool b from r);rfl
 |int i=>obtain⟨t,e⟩:=(show ∃t,u=Value.int i t from r);cases e;rfl
 |str x=>obtain⟨t,e⟩:=(show ∃t,u=Value.str x t from r);cases e;rfl
 |oI b=>obtain⟨t,e⟩:=(show ∃t,u=Value.bytes b t from r);cases e;rfl
 |Cf b=>obtain⟨t,e⟩:=(show ∃t,u=Value.float b t from r);cases e;rfl
 |ref a=>cases (show u=Value.ref a from r);rfl
 |ty n=>cases (show u=Value.type n from r);rfl
section
variable {P:Program} {w:World} {H H':Hp} {h h':Heap} {a C dx:Addr} {fs fs':List (Str×V)}
theorem iS(aX:gy P w H h)(e:H a=some (.ins C dx fs)):∃mA,qh h a dx C mA/\(∀f,gc (fs.lookup f) (mA f))/\PySem.Within mA (fs.map (·.1))/\fs.length<=1000/\H dx=some (.own a):=by
 obtain⟨d,z,ne,ob,mA,n,r,q⟩:=(show bp P w H h a (.ins C dx fs) from aX a _ e);exact⟨mA,⟨ob,n,ne⟩,r,q,z,d⟩
end
structure jK (K:LA) (C:Addr):Prop where
 pg:PySem.W.plainGet K C Str.empty=true
 hd:PySem.W.hasDictIn K C=true
 po:PySem.W.plainOver K C=true
 sa:PySem.W.findIn K (.ref C) "__setattr__"=some (some (.builtin "object.__setattr__"))
theorem jK.get(c:jK K C)(f:Str):PySem.W.plainGet K C f=true:=c.pg
noncomputable def b9(K:LA)(C:Addr)(f:Str):Prop:=PySem.W.findIn K (.ref C) f=some none
theorem b9.DC{f:Str}(n:b9 K C f):PySem.W.takerIn K C f=some none:=by
 unfold PySem.W.takerIn;rw[show PySem.W.findIn K (.ref C) f=some none from n];rfl
structure Meth (K:LA) (C:Addr) (m:Str) (f:Addr):Prop where
 at_:PySem.W.findIn K (.ref C) m=some (some (.ref f))
 fn:PySem.W.isFn K (.ref f)=true
 kp:PySem.W.keepIn K (.ref f)=true
section
variable {X:Cx} {pins:List (Addr×Obj)} {σ:St} {H:Hp} {s:Shared} {a C dx:Addr} {fs:List (Str×V)} {f:Str} {v:V} {A:Around} {E:Value->Shared->Prop}
theorem pE{b:Bool}(I:Inv X pins σ H s)(e:H a=some (.ins C dx fs))(c:jK X.K C)(n:b9 X.K C f)(l:fs.lookup f=some v)
  (h:∀u s',Inv X pins σ H s'->RelV v u->Q u s'):wpAny (model X.prog X.w) A (getAttr (.ref a) f b) Q E s:=by
 obtain⟨mA,O,r,_,_,_⟩:=iS I.aX e;obtain⟨u,hu,ru⟩:=gc.some_of (v:=v) (o:=mA f) (by rw[<- l];exact r f)
 exact get_map I.gO O (c.get f) c.hd n hu (tQ ru) (h u _ (I.tok _) ru)
theorem jk{m:Str}{g:Addr}{Q:Value×List Value->Shared->Prop}(I:Inv X pins σ H s)(e:H a=some (.ins C dx fs))(c:jK X.K C)(k:Meth X.K C m g)(l:fs.lookup m=none)
  (h:Q (.ref g,[.ref a]) s):wpAny (model X.prog X.w) A (getMethod (.ref a) m pl) Q E s:=by
 obtain⟨mA,O,r,_,_,_⟩:=iS I.aX e;have hn:mA m=none:=gc.none_of (by rw[<- l];exact r m)
 exact u4 I.gO O (c.get m) k.at_ k.fn hn h
theorem pI{y:V}{Q:Unit->Shared->Prop}(I:Inv X pins σ H s)(e:H a=some (.ins C dx fs))(c:jK X.K C)(n:b9 X.K C f)(hl:fs.length<1000)(ry:RelV y u)
  (h:∀s',Inv X pins σ (upd H a (.ins C dx (d6 f y fs))) s'->Q () s'):wpAny (model X.prog X.w) A (setAttr (.ref a) f u) Q E s:=by
 obtain⟨mA,O,r,wi,_,ho⟩:=iS I.aX e;have hz:(fs.map (·.1)).length<=sizeLine:=by rw[Gx,Hz];lia
 refine zm I.gO O c.sa c.po n.DC c.hd wi hz λh' O' sb=>h _ ?_;have hd:∃o,h'.get? dx=some o:=let ⟨o,_,_,e',_⟩:=O'.ns;⟨o,e'⟩
 refine I.write (x:=a) (e:=dx) (by rw[e];exact True.intro) (.inr ho) (λb q hb z=>(sb.2 b hb).trans z) hd ?_
 refine⟨by rw[ae O.ne];exact ho,?_,O.ne,O'.obj,_,O'.ns,λg=>?_,λg hg=>?_⟩
 ·have:=iC f y fs;lia
 ·show gc ((d6 f y fs).lookup g) (if g=f then some u else mA g)
  rw[iA];by_cases q:g=f
  ·rw[Gp q,Gp q];exact ry
  ·rw[Gn q,Gn q];exact r g
 ·by_cases q:g=f
  ·rw[q];exact (ie f y fs).1
  ·refine (ie f y fs).2 g (wi g λz=>hg ?_);show (if g=f then some u else mA g)=none
   rw[Gn q];exact z
theorem Inv.made(I:Inv X pins σ H s):Inv X pins σ (upd (upd H s.heap.objs.size (.own (s.heap.objs.size+1))) (s.heap.objs.size+1) (.ins C s.heap.objs.size []))
  {s with heap:=(s.heap.push PySem.W.emptyDict).push (PySem.W.instObj C s.heap.objs.size)}:=by
 have e1:(s.heap.push PySem.W.emptyDict).get? s.heap.objs.size=some PySem.W.emptyDict:=G0 s.heap rfl;have e2:((s.heap.push PySem.W.emptyDict).push (PySem.W.instObj C s.heap.objs.size)).get? (s.heap.objs.size+1)=some (PySem.W.instObj C s.heap.objs.size):=by
  have:=G0 (s.heap.push PySem.W.emptyDict) (o:=PySem.W.instObj C s.heap.objs.size) rfl
  rwa [HS] at this
 have e3:(s.heap.push PySem.W.emptyDict).Ns s.heap.objs.size (λ_=>none):=⟨PySem.W.emptyDict,#[],_,e1,rfl,(λe he=>absurd he (by simp)),λ_=>rfl⟩
 have I1:=I.laid (a:=s.heap.objs.size) (o:=.own (s.heap.objs.size+1)) (h':=s.heap.push PySem.W.emptyDict) (t':=s.toks) (λb u q=>Gk _ q) (Gs _) ⟨_,e1⟩;refine I1.laid (a:=s.heap.objs.size+1) (o:=.ins C s.heap.objs.size []) (t':=s.toks) (λb u q=>Gk _ q) (K2 (HS _ _)) ?_;have ne:s.heap.objs.size≠s.heap.objs.size+1:=GD (J7 _);refine⟨by rw[ae ne,aa],GF _,ne,e2,λ_=>none,(Heap.Ns1.of_empty e3).at λo q=>Gk _ q,λ_=>True.intro,λy hy=>absurd rfl hy⟩
theorem zK{prog:Program}{env:Env}{f:Str}{pos:Pos}{s:Shared}(hb:attributeBase e f env (eval e env)=eval e env)
  (h:wpAny (model prog w) A (eval e env) (λo s₁=>wpAny (model prog w) A (getAttr o f true) Q E s₁) E s):wpAny (model prog w) A (eval (.Attribute e f pos) env) Q E s:=
 Attribute_any_ h (by rw[arm_eval_Attribute,hb])
end
noncomputable def v9(K:LA)(ta:TE)(f:Str):TE:=λσ H Q=>ta σ H λx H1=>∃a C dx fs v,x=.ref a/\H1 a=some (.ins C dx fs)/\jK K C/\b9 K C f/\fs.lookup f=some v/\Q v H1
noncomputable def wg(K:LA)(ta tv:TE)(f:Str):TS:=λD σ H=>tv σ H λy H1=>ta σ H1 λx H2=>∃a C dx fs,x=.ref a/\H2 a=some (.ins C dx fs)/\jK K C/\b9 K C f/\fs.length<1000 /\
 D.nx σ (upd H2 a (.ins C dx (d6 f y fs)))
section
variable {X:Cx} {o e value:Expr} {f:Str} {pos pos' tpos:Pos} {ta tv:TE}
theorem B7(he:PE X e ta)(hb:attributeBase e f X.env (eval e X.env)=eval e X.env):PE X (.Attribute e f pos) (v9 X.K ta f):=by
 intro pins s σ H Q I h;refine zK hb (bL (he pins s σ H _ I h) λu s1 hq40=>?_);obtain⟨x,H1,I1,rx,a,C,dx,fs,v,ex,ea,c,n,l,q⟩:=hq40;subst ex;obtain rfl:u=Value.ref a:=rx;exact pE I1 ea c n l λu' s2 I2 ru=>⟨v,H1,I2,ru,q⟩
theorem A8(ha:PE X o ta)(hv:PE X value tv)(hs:swapsWith value (some (.Attribute o f pos')) pos.line X.env=pure false):PS X (.Assign [.Attribute o f pos'] value pos) (wg X.K ta tv f):=by
 intro pins s σ H D I h;refine plainObj_wpAny_Assign_Attribute (bL (hv pins s σ H _ I h) λu s1 ⟨y,H1,I1,ry,q⟩=>bL (ha pins s1 σ H1 _ I1 q) λov s2 hq42=>?_) hs;obtain⟨x,H2,I2,rx,a,C,dx,fs,ex,ea,c,n,l,q2⟩:=hq42;subst ex;obtain rfl:ov=Value.ref a:=rx;exact pI I2 ea c n l ry λs3 I3=>⟨σ,_,I3,q2⟩
end
section
variable {X:Cx} {pins:List (Addr×Obj)} {σ:St} {H:Hp} {s:Shared} {A:Around} {E:Value->Shared->Prop} {Q:Value->Shared->Prop} {c:Value} {b:Bool}
inductive gr (K:LA) (H:Hp):V->Value->Prop where
 |aQ:gr K H .aQ (.type "NoneType")
 |bl (x:Bool):gr K H (.bl x) (.type "bool")
 |int (i:Int):gr K H (.int i) (.type "int")
 |str (x:Str):gr K H (.str x) (.type "str")
 |Cf (x:UInt64):gr K H (.Cf x) (.type "float")
 |lst {a:Addr} {xs:List V} (e:H a=some (.lst xs)):gr K H (.ref a) (.type "list")
 |hZ {a:Addr} {o:Obj} {xs:List V} (e:H a=some (.hZ o (.lst xs))):gr K H (.ref a) (.type "list")
 |tup {a:Addr} {xs:List V} (e:H a=some (.tup xs)):gr K H (.ref a) (.type "tuple")
 |dK {a:Addr} {kvs:List (Key×V)} (e:H a=some (.dK kvs)):gr K H (.ref a) (.type "dict")
 |dT {a:Addr} {kvs:List (List Key×V)} (e:H a=some (.dT kvs)):gr K H (.ref a) (.type "dict")
 |ins {a C dx:Addr} {fs:List (Str×V)} (e:H a=some (.ins C dx fs)) (cl:jK K C) (ha:PySem.W.findIn K (.ref C) "__class__"=some (some (.builtin "object.__class__")))
   (hn:PySem.W.specialIn K (.builtin "object.__class__") "__get__"=some (some (.builtin "getset_descriptor.__get__"))) (htk:PySem.W.takesIn K (.builtin "object.__class__")=some true)
   (hm:PySem.W.mroIn K C (.type "object")=some true):gr K H (.ref a) (.ref C)
theorem kn{x:V}{t:Value}(I:Inv X pins σ H s)(rx:RelV x u)(ty:gr X.K H x t)(e:PySem.W.kitOne X.K t c=some b)(h:∀tk,Q (.bool b) {s with toks:=tk}):
  wpAny (model X.prog X.w) A (call (.builtin "isinstance") [u,c]) Q E s:=by
 cases ty with
 |aQ=>cases (show u=Value.none from rx);exact PySem.W.kia_one PySem.W.kitx_none I.gO True.intro e (λz=>nomatch z) h
 |bl y=>cases (show u=Value.bool y from rx);exact PySem.W.kia_one PySem.W.kitx_bool I.gO True.intro e (λz=>nomatch z) h
 |int i=>obtain⟨t,q⟩:=(show ∃t,u=Value.int i t from rx);cases q;exact PySem.W.kia_one PySem.W.kitx_int I.gO True.intro e (λz=>nomatch z) h
 |str y=>obtain⟨t,q⟩:=(show ∃t,u=Value.str y t from rx);cases q;exact PySem.W.kia_one PySem.W.kitx_str I.gO True.intro e (λz=>nomatch z) h
 |Cf y=>obtain⟨t,q⟩:=(show ∃t,u=Value.float y t from rx);cases q;exact PySem.W.kia_one PySem.W.kitx_float I.gO True.intro e (λz=>nomatch z) h
 |@lst a xs ea =>
  cases (show u=Value.ref a from rx)
  obtain⟨_,_,n,_,h1⟩:=(show bp X.prog X.w H s.heap a (.lst xs) from I.aX a _ ea);exact PySem.W.kia_one PySem.W.kitx_list I.gO ⟨_,h1,rfl⟩ e (λz=>nomatch z) h
 |@hZ a ob xs ea =>
  cases (show u=Value.ref a from rx)
  obtain⟨_,_,_,n,_,h1⟩:=(show bp X.prog X.w H s.heap a (.hZ ob (.lst xs)) from I.aX a _ ea);exact PySem.W.kia_one PySem.W.kitx_list I.gO ⟨_,h1,rfl⟩ e (λz=>nomatch z) h
 |@tup a xs ea =>
  cases (show u=Value.ref a from rx)
  obtain⟨_,_,_,p⟩:=(show bp X.prog X.w H s.heap a (.tup xs) from I.aX a _ ea);obtain⟨o,h1,h2,_⟩:=p;exact PySem.W.kia_one PySem.W.kitx_tuple I.gO ⟨o,h1,h2⟩ e (λz=>nomatch z) h
 |@dK a kvs ea =>
  cases (show u=Value.ref a from rx)
  obtain⟨_,_,vs,_,p⟩:=(show bp X.prog X.w H s.heap a (.dK kvs) from I.aX a _ ea);obtain⟨o,es,ep,h1,h2,_⟩:=p;exact PySem.W.kia_one PySem.W.kitx_dict I.gO ⟨o,h1,h2.1⟩ e (λz=>nomatch z) h
 |@dT a kvs ea =>
  cases (show u=Value.ref a from rx)
  obtain⟨_,_,xs,_,o,es,ep,h1,h2,_⟩:=(show bp X.prog X.w H s.heap a (.dT kvs) from I.aX a _ ea);exact PySem.W.kia_one PySem.W.kitx_dict I.gO ⟨o,h1,h2.1⟩ e (λz=>nomatch z) h
 |@ins a C dx fs ea cl ha hn htk hm =>
  cases (show u=Value.ref a from rx)
  obtain⟨mA,O,_⟩:=iS I.aX ea;obtain⟨od,J,_⟩:=O.look;exact PySem.W.kia_one (PySem.W.kitx_own (cl.get _) cl.hd ha hn htk hm) I.gO J e (λz=>nomatch z) h
end
structure bE (k:Nat) (A:Around):Prop where
 hd:A.handled=none
 dp:A.depth+3*k+5<recursionLimit
 un:A.units+16*k+200<cLine
 gd:A.guards=some []
theorem bE.mono{k:Nat}{A:Around}(r:bE k A)(h:j<=k):bE j A:=⟨r.hd,by have:=r.dp;lia,by have:=r.un;lia,r.gd⟩
theorem bE.deeper{k:Nat}{A:Around}(r:bE (k+1) A)(env:Env):bE k (A.deeper env):=
 ⟨r.hd,by have:=r.dp;show A.depth+1+3*k+5<_;lia,by have:=r.un;show A.units+3+16*k+200<_;lia,r.gd⟩
theorem bE.in1{k:Nat}{A:Around}(r:bE (k+1) A):bE k A.in1:=
 ⟨r.hd,by have:=r.dp;show A.depth+3*k+5<_;lia,by have:=r.un;show A.units+1+16*k+200<_;lia,r.gd⟩
theorem qp{A:Around}:(A.under (.builtin "type.__call__" ⟨.ref C::us,kw⟩)).depth=A.depth+1:=by
 first|rfl|simp[Around.under,Code.weight,Code.isCreation,Code.isGuard,Code.isCaller,Code.frames,Code.isFrame,guardIds]
theorem pj{A:Around}:(A.under (.builtin "type.__call__" ⟨.ref C::us,kw⟩)).units=A.units+1:=by
 first|rfl|simp[Around.under,Code.cUnits,Code.frames,Code.isFrame]
theorem bE.make{k:Nat}{A:Around}(r:bE (k+1) A)(C:Addr)(us:List Value)(kw:List (Str×Value)):bE k (A.under (.builtin "type.__call__" ⟨.ref C::us,kw⟩)):=
 ⟨r.hd,by have:=r.dp;rw[qp];lia,by have:=r.un;rw[pj];lia,by have h:=r.gd;first|exact h | (simp[Around.under,Code.guards,Code.isGuard,guardIds];exact h)⟩
theorem bE.depth{k:Nat}{A:Around}(r:bE k A):A.depth<recursionLimit:=by have:=r.dp;lia
theorem bE.units{k:Nat}{A:Around}(r:bE k A):A.units+64<cLine:=by have:=r.un;lia
noncomputable def iI:TA:=λ_ H Q=>Q [] H
noncomputable def i8(ta:TE)(tr:TA):TA:=λσ H Q=>ta σ H λx H1=>tr σ H1 λxs H2=>Q (x::xs) H2
section
variable {X:Cx} {e:Expr} {es:List Expr} {te:TE} {t:TA} {pos:Pos}
theorem vQ:PA X [] iI:=λ_ _ _ _ H Q I h=>Calls.spliced_nil ⟨[],H,I,.nil,h⟩
theorem qR(ha:PE X e te)(hr:PA X es t)(hs:autoParam (starEach (e::es) X.env=(false,eval e X.env)::starEach es X.env) ℜ0):PA X (e::es) (i8 te t):=by
 intro pos pins s σ H Q I h;rw[hs];show wpAny _ _ (spliced ((false,eval e X.env)::backTo pos (starEach es X.env))) _ _ s;refine Calls.spliced_cons (bL (ha pins s σ H _ I h) λu s1 hq46=>?_);obtain⟨x,H1,I1,r1,q1⟩:=hq46;exact bL (hr pos pins s1 σ H1 _ I1 q1) λus s2 ⟨xs,H2,I2,r2,q2⟩=>⟨x::xs,H2,I2,.cons r1 r2,q2⟩
noncomputable def vn(t:TA):TE:=λσ H Q=>t σ H λxs H1=>xs.length<=sizeLine/\∀p,H1 p=none->Q (.ref p) (upd H1 p (.tup xs))
noncomputable def vj(t:TA):TE:=λσ H Q=>t σ H λxs H1=>xs.length<=sizeLine/\∀p,H1 p=none->Q (.ref p) (upd H1 p (.lst xs))
theorem BH{x1}(h:PA X es t):PE X (.Tuple es x1 pos) (vn t):=by
 intro pins s σ H Q I hq;refine wpAny_Tuple_spliced (bL (h pos pins s σ H _ I hq) λus s1 ⟨xs,H1,I1,r,z,q⟩=>⟨by rw[<- r.length];exact z,?_⟩)
 have hf:H1 s1.heap.objs.size=none:=I1.aX.fresh (Gs _);refine⟨.ref s1.heap.objs.size,upd H1 s1.heap.objs.size (.tup xs),I1.laid (t':=s1.toks) (λb u e=>Gk _ e) (Gs _) ?_,rfl,q _ hf⟩;exact⟨z,us,r,⟨_,G0 _ rfl,rfl,_,rfl,rfl⟩⟩
theorem Cq(h:PA X es t):PE X (.List es pos) (vj t):=by
 intro pins s σ H Q I hq;refine wpAny_List_spliced (bL (h pos pins s σ H _ I hq) λus s1 ⟨xs,H1,I1,r,z,q⟩=>⟨by rw[<- r.length];exact z,?_⟩)
 have hf:H1 s1.heap.objs.size=none:=I1.aX.fresh (Gs _);refine⟨.ref s1.heap.objs.size,upd H1 s1.heap.objs.size (.lst xs),I1.laid (t':=s1.toks) (λb u e=>Gk _ e) (Gs _) ?_,rfl,q _ hf⟩;exact⟨z,us,0,r,G0 _ rfl⟩
end
abbrev Sp:=List V->Hp->VK->XK->Prop
abbrev nY:=List Env->Hp->Shared->XK->Value->Shared->Prop
variable{CX:nY}
structure p8 (P:Program) (w:World) (K:LA) (mg:Str->Option Value) (base:Heap) (A:Around) (outer:List Env) (s:Shared) (H:Hp):Prop where
 frames:A.frames=some outer
 mod:Mod K mg base
 bs:∀b o,base.get? b=some o->s.heap.get? b=some o/\H b=none
 xB:base.objs.size<=s.heap.objs.size
 iL:s.heap.FunFrames base outer
 Ba:∀b∈t_ outer,H b=none
 aX:gy P w H s.heap
 bare:AllBare s.gens
 tabs:TabsOk K H
noncomputable def CE(outer:List Env)(P:Program)(w:World)(H:Hp)(s:Shared)(Q:VK)(u:Value)(s':Shared):Prop:=
 ∃v H',s'.os=s.os/\AllBare s'.gens/\Un (t_ outer) [] H H' s.heap s'.heap/\gy P w H' s'.heap/\RelV v u/\Q v H'
noncomputable def CR(CX:nY)(outer:List Env)(P:Program)(w:World)(H:Hp)(s:Shared)(Q:VK)(E:XK)(r:Result)(s':Shared):Prop:=
 match r with
 |.ok (.ret u)=>CE outer P w H s Q u s'
 |.ok _=>False
 |.error e=>CX outer H s E e s'
structure cC (P:Program) (w:World) (K:LA) (mg:Str->Option Value) (base:Heap) (CX:nY) (k:Nat) (f:Addr) (fd:FuncData) (ps:List Str) (sp:Sp):Prop where
 len:∀vs H Q E,sp vs H Q E->vs.length=ps.length
 run:∀(A:Around) (outer:List Env) (s:Shared) (H:Hp) (args:Args) (us:List Value) (vs:List V) (Q:VK) (E:XK),bE k A->p8 P w K mg base A outer s H->BindsTo s fd args (ps.zip us)->Vals vs us->sp vs H Q E ->
  codeAny (model P w) A (.call (.ref f) args) (CR CX outer P w H s Q E) s
theorem cC.mono{k:Nat}{f:Addr}{ps:List Str}{sp:Sp}(F:cC P w K mg base CX j f fd ps sp)(h:j<=k):
  cC P w K mg base CX k f fd ps sp:=⟨F.len,λA outer s H args us vs Q E hr=>F.run A outer s H args us vs Q E (hr.mono h)⟩
theorem p8.make{A:Around}{s:Shared}(e:p8 P w K mg base A outer s H)(C:Addr)(us:List Value)(kw:List (Str×Value)):
  p8 P w K mg base (A.under (.builtin "type.__call__" ⟨.ref C::us,kw⟩)) outer s H:=⟨by first|exact e.frames | (simpa[Around.under,Code.envs,Code.isFrame,pushEnvs] using e.frames),e.mod,e.bs,e.xB,e.iL,e.Ba,e.aX,e.bare,e.tabs⟩
section
variable {X:Cx} {pins:List (Addr×Obj)} {σ:St} {H:Hp} {s s':Shared}
theorem Inv.Du(I:Inv X pins σ H s):p8 X.prog X.w X.K X.mg X.base X.A X.stack s H:=
 ⟨I.ok.frames,I.ok.mod,I.bs,Gw I.ok.xB I.sz,I.stack,I.mf,I.aX,I.bare,I.ok.tabs.un I.base⟩
theorem Inv.after{Q:VK}(I:Inv X pins σ H s)(h:CE X.stack X.prog X.w H s Q u s'):EP X pins σ Q u s':=by
 obtain⟨v,H',os,bare,un,aX,r,q⟩:=h;obtain⟨hh,g,d,t,os'⟩:=s';obtain rfl:os'=s.os:=os;exact⟨v,H',I.call (h':=hh) (g':=g) (d':=d) (t':=t) (ch:=[]) un aX bare (λb z=>absurd z (by simp)),r,q⟩
end
noncomputable def gE(sp:Sp)(dvs:List V)(E:XK)(t:TA):TE:=λσ H Q=>t σ H λvs H1=>sp (vs++dvs) H1 Q E
noncomputable def jo(C:Addr)(m:Str)(sp:Sp)(dvs:List V)(E:XK)(ta:TE)(t:TA):TE:=λσ H Q=>ta σ H λx H1=>∃a dx fs,x=.ref a/\H1 a=some (.ins C dx fs)/\fs.lookup m=none /\
 t σ H1 λvs H2=>sp (x::(vs++dvs)) H2 Q E
noncomputable def mI(C:Addr)(sp:Sp)(dvs:List V)(E:XK)(t:TA):TE:=λσ H Q=>t σ H λvs H1=>∀x dx,H1 x=none->H1 dx=none->dx≠x ->
 sp (.ref x::(vs++dvs)) (upd (upd H1 dx (.own x)) x (.ins C dx [])) (λv H2=>v=.aQ/\Q (.ref x) H2) E
noncomputable def Binds(K:LA)(fd:FuncData)(ps:List Str)(ds:List Value):Prop:=
 ∀(s:Shared) (us:List Value),K.In s.heap->(us++ds).length=ps.length->BindsTo s fd ⟨us,[]⟩ (ps.zip (us++ds))
theorem Binds.all{ps:List Str}(h:∀us:List Value,us.length=ps.length->bindArgs fd ⟨us,[]⟩=pure (ps.zip us)):Binds K fd ps []:=λs us _ hl=>by
 rw[HL] at hl ⊢;exact .of_eq (h us hl)
noncomputable def Passes(CX:nY)(X:Cx)(E:XK):Prop:=∀(pins:List (Addr×Obj)) (σ:St) (H:Hp) (s:Shared) (e:Value) (s':Shared),Inv X pins σ H s->CX X.stack H s E e s'->X.xe e s'
section
variable {X:Cx} {CX:nY} {k:Nat} {f C:Addr} {fd:FuncData} {ps:List Str} {sp:Sp} {dvs:List V} {ds:List Value} {E:XK} {x m:Str} {p pos apos:Pos} {e o:Expr} {es:List Expr} {ta:TE} {t:TA}
theorem lQ{s:Shared}{Q:VK}{vs:List V}(F:cC X.prog X.w X.K X.mg X.base CX k f fd ps sp)(hr:bE k X.A)(hb:Binds X.K fd ps ds)(hd:Vals dvs ds)(hx:Passes CX X E)
  (I:Inv X pins σ H s) (r:Vals vs us) (h:sp (vs++dvs) H Q E):wpAny (model X.prog X.w) X.A (call (.ref f) us) (EP X pins σ Q) X.xe s:=by
 have r2:Vals (vs++dvs) (us++ds):=r.append hd;have hl:(us++ds).length=ps.length:=by rw[<- r2.length];exact F.len _ _ _ _ h
 refine wpAny_call (Lr (F.run X.A X.stack s H ⟨us,[]⟩ (us++ds) (vs++dvs) Q E hr I.Du (hb s us I.gO hl) r2 h) λr s' hq=>?_)
 cases r with
 |error e=>exact hx pins σ H s e s' I hq
 |ok fl =>
  cases fl with
  |ret u=>exact I.after hq
  |next=>exact False.elim hq
  |brk=>exact False.elim hq
  |cont=>exact False.elim hq
theorem yj(F:cC X.prog X.w X.K X.mg X.base CX k f fd ps sp)(hr:bE k X.A)(hg:Gl X x)(hm:X.mg x=some (.ref f))(hk:PySem.W.keepIn X.K (.ref f)=true)(hb:Binds X.K fd ps ds)(hd:Vals dvs ds)(hx:Passes CX X E)
  (ha:PA X (e::es) t) (hdb:autoParam ((x ==("__debug__":Str))=false) ℜ1) (he:autoParam (starEach (e::es) X.env=(false,eval e X.env)::starEach es X.env) ℜ0) (hpl:autoParam ((backTo pos (starEach es X.env)).any (·.1)=false) ℜ0) :
  PE X (.Call (.Name x p) (e::es) [] pos) (gE sp dvs E t):=by
 intro pins s σ H Q I h;refine Il (iQ I hg hm ?_ hdb);refine PySem.W.callWith_K (h₀:=X.base) I.ok.mod.Dz hk (bL (ha pos pins s σ H _ I h) λus s1 ⟨vs,H1,I1,r,q⟩=>⟨I1.gO,?_⟩) he hpl;exact lQ F hr hb hd hx I1 r q
theorem wx(F:cC X.prog X.w X.K X.mg X.base CX k f fd ps sp)(hr:bE k X.A)(hg:Gl X x)(hm:X.mg x=some (.ref f))(hk:PySem.W.keepIn X.K (.ref f)=true)(hb:Binds X.K fd ps ds)(hd:Vals dvs ds)(hx:Passes CX X E)
  (hdb:autoParam ((x ==("__debug__":Str))=false) ℜ1):PE X (.Call (.Name x p) [] [] pos) (gE sp dvs E iI):=by
 intro pins s σ H Q I h;refine Il (iQ I hg hm ?_ hdb);exact PySem.W.callWith_K0 I.gO hk (lQ (us:=[]) F hr hb hd hx I .nil h)
theorem ya{pl:Sem Bool}(he:PE X o ta)(c:jK X.K C)(hm:Meth X.K C m f)(F:cC X.prog X.w X.K X.mg X.base CX k f fd ps sp)(hr:bE k X.A)(hb:Binds X.K fd ps ds)(hd:Vals dvs ds)(hx:Passes CX X E)(ha:PA X (e::es) t)
  (hst:autoParam (starEach (e::es) X.env=(false,eval e X.env)::starEach es X.env) ℜ0) (hpl:autoParam ((backTo pos (starEach es X.env)).any (·.1)=false) ℜ0)
  (ht:autoParam (eval (.Call (.Attribute o m apos) (e::es) [] pos) X.env=(do
   let ov <- eval o X.env
   standAt apos.atName
   let (f,first) <- holding [ov] (getMethod ov m pl)
   callWith pos f first (backTo pos (starEach (e::es) X.env)) (backToKw pos (keywordEach [] X.env)))) ℜ0) :
  PE X (.Call (.Attribute o m apos) (e::es) [] pos) (jo C m sp dvs E ta t):=by
 intro pins s σ H Q I h;refine PySem.W.methodCall_KW (pl:=pl) (bL (he pins s σ H _ I h) λu s1 hq47=>?_) ht;obtain⟨x,H1,I1,rx,a,dx,fs,ex,ea,l,q⟩:=hq47;subst ex;obtain rfl:u=Value.ref a:=rx;refine jk I1 ea c hm l ?_;refine PySem.W.callWith_K (first:=[.ref a]) (h₀:=X.base) I.ok.mod.Dz hm.kp (bL (ha pos pins s1 σ H1 _ I1 q) λus s2 ⟨vs,H2,I2,r,q2⟩=>⟨I2.gO,?_⟩) hst hpl
 exact lQ (us:=.ref a::us) (vs:=.ref a::vs) F hr hb hd hx I2 (.cons rfl r) q2
theorem uO{pl:Sem Bool}(he:PE X o ta)(c:jK X.K C)(hm:Meth X.K C m f)(F:cC X.prog X.w X.K X.mg X.base CX k f fd ps sp)(hr:bE k X.A)(hb:Binds X.K fd ps ds)(hd:Vals dvs ds)(hx:Passes CX X E)
  (ht:autoParam (eval (.Call (.Attribute o m apos) [] [] pos) X.env=(do
   let ov <- eval o X.env
   standAt apos.atName
   let (f,first) <- holding [ov] (getMethod ov m pl)
   callWith pos f first (backTo pos (starEach [] X.env)) (backToKw pos (keywordEach [] X.env)))) ℜ0) :
  PE X (.Call (.Attribute o m apos) [] [] pos) (jo C m sp dvs E ta iI):=by
 intro pins s σ H Q I h;refine PySem.W.methodCall_KW (pl:=pl) (bL (he pins s σ H _ I h) λu s1 hq48=>?_) ht;obtain⟨x,H1,I1,rx,a,dx,fs,ex,ea,l,q⟩:=hq48;subst ex;obtain rfl:u=Value.ref a:=rx;refine jk I1 ea c hm l ?_;exact PySem.W.callWith_K0 (first:=[.ref a]) I1.gO hm.kp (lQ (us:=[.ref a]) (vs:=[.ref a]) F hr hb hd hx I1 (.cons rfl .nil) q)
structure Mk (K:LA) (C f:Addr):Prop where
 makes:PySem.W.makesIn K C=true
 init:PySem.W.findIn K (.ref C) "__init__"=some (some (.ref f))
 fn:PySem.W.isFn K (.ref f)=true
 kp:PySem.W.keepIn K (.ref C)=true
theorem vF{s:Shared}{Q:VK}{vs:List V}(M:Mk X.K C f)(F:cC X.prog X.w X.K X.mg X.base CX k f fd ps sp)(hr:bE (k+1) X.A)(hb:Binds X.K fd ps ds)(hd:Vals dvs ds)
  (hx:Passes CX X E) (I:Inv X pins σ H s) (r:Vals vs us)
  (h:∀x dx,H x=none->H dx=none->dx≠x->sp (.ref x::(vs++dvs)) (upd (upd H dx (.own x)) x (.ins C dx [])) (λv H2=>v=.aQ/\Q (.ref x) H2) E) :
  wpAny (model X.prog X.w) X.A (call (.ref C) us) (EP X pins σ Q) X.xe s:=by
 have hq:=h (s.heap.objs.size+1) s.heap.objs.size (I.aX.fresh (HA _)) (I.aX.fresh (Gs _)) (GD (J7 _));have I2:=Inv.made (C:=C) I;have r2:Vals (V.ref (s.heap.objs.size+1)::(vs++dvs)) (Value.ref (s.heap.objs.size+1)::(us++ds)):=.cons rfl (r.append hd);have hl:(Value.ref (s.heap.objs.size+1)::us++ds).length=ps.length:=by
  have e:=r2.length;rw[F.len _ _ _ _ hq] at e;exact e.symm
 refine wpAny_call (wK (f:=f) I.gO M.makes M.init (IW.mp M.fn) (Lr (F.run _ X.stack _ _ ⟨Value.ref (s.heap.objs.size+1)::us,[]⟩ (Value.ref (s.heap.objs.size+1)::(us++ds)) _ _ E (hr.make C us [])
  (I2.Du.make C us []) (hb _ (Value.ref (s.heap.objs.size+1)::us) I2.gO hl) r2 hq) λr s' hq'=>?_))
 cases r with
 |error e=>exact hx pins σ _ _ e s' I2 hq'
 |ok fl =>
  cases fl with
  |ret u =>
   obtain⟨v,H',I3,rv,ev,q3⟩:=I2.after hq';subst ev;exact⟨rv,⟨V.ref (s.heap.objs.size+1),H',I3,rfl,q3⟩⟩
  |next=>exact False.elim hq'
  |brk=>exact False.elim hq'
  |cont=>exact False.elim hq'
theorem zJ(M:Mk X.K C f)(F:cC X.prog X.w X.K X.mg X.base CX k f fd ps sp)(hr:bE (k+1) X.A)(hg:Gl X x)(hm:X.mg x=some (.ref C))(hb:Binds X.K fd ps ds)(hd:Vals dvs ds)(hx:Passes CX X E)
  (ha:PA X (e::es) t) (hdb:autoParam ((x ==("__debug__":Str))=false) ℜ1) (he:autoParam (starEach (e::es) X.env=(false,eval e X.env)::starEach es X.env) ℜ0) (hpl:autoParam ((backTo pos (starEach es X.env)).any (·.1)=false) ℜ0) :
  PE X (.Call (.Name x p) (e::es) [] pos) (mI C sp dvs E t):=by
 intro pins s σ H Q I h;refine Il (iQ I hg hm ?_ hdb);refine PySem.W.callWith_K (h₀:=X.base) I.ok.mod.Dz M.kp (bL (ha pos pins s σ H _ I h) λus s1 ⟨vs,H1,I1,r,q⟩=>⟨I1.gO,?_⟩) he hpl;exact vF M F hr hb hd hx I1 r q
end
noncomputable def PK(X:Cx)(kws:List Keyword)(t:TA):Prop:=
 ∀(pos:Pos) (pins:List (Addr×Obj)) (s:Shared) (σ:St) (H:Hp) (Q:List V->Hp->Prop),Inv X pins σ H s->t σ H Q->wpAny (model X.prog X.w) X.A (evalAll ((backToKw pos (keywordEach kws X.env)).map (·.2))) (AP X pins σ Q) X.xe s
section
variable {X:Cx} {CX:nY} {k:Nat} {f C:Addr} {fd:FuncData} {ps ks:List Str} {sp:Sp} {E:XK} {x m:Str} {p pos apos kpos:Pos} {e o:Expr} {es:List Expr} {kws:List Keyword} {te ta:TE} {t tk:TA} {nm:Option Str}
theorem AU:PK X [] iI:=λ_ _ _ _ H Q I h=>wpAny_evalAll_nil ⟨[],H,I,.nil,h⟩
theorem zc(ha:PE X e te)(hr:PK X kws t):PK X (⟨nm,e,kpos⟩::kws) (i8 te t):=by
 intro pos pins s σ H Q I h;show wpAny _ _ (evalAll ((do let v <- eval e X.env;standAt pos;pure v)::(backToKw pos (keywordEach kws X.env)).map (·.2))) _ _ s
 refine wpAny_evalAll_cons (Gj (bL (ha pins s σ H _ I h) λu s1 ⟨x,H1,I1,r1,q1⟩=>Gj (Jx (Gu ?_))));exact bL (hr pos pins s1 σ H1 _ I1 q1) λus s2 ⟨xs,H2,I2,r2,q2⟩=>⟨x::xs,H2,I2,.cons r1 r2,q2⟩
variable {g:List Value->List Value->List Value} {gV:List V->List V->List V}
end
structure av (N P:List Str) (sc:Scope):Prop where
 kind:sc.kind=.function
 co:sc.isCoroutine=false
 gen:sc.isGenerator=false
 nd:N.Nodup
 pre:N.take P.length=P
 par:∀x∈P,sc.names.lookup x=some .local\/sc.names.lookup x=some .cell
 Bx:∀y∈sc.names,y.2≠.free
theorem kc:∀{binds:List (Str×Value)} {m:Str->Option Value},(∀v,(x,v)∉binds)->bindL kindOf binds m x=m x
 |[],_,_=>rfl
 | (n,v)::r,m,h=>by
  unfold bindL;rw[kc λw hw=>h w (GA _ hw)];split
  ·have:x≠n:=by rintro rfl;exact h v GB
   simp[this]
  ·rfl
theorem ko:∀{binds:List (Str×Value)} {m:Str->Option Value},(∀v,(x,v)∉binds)->bindC kindOf binds m x=m x
 |[],_,_=>rfl
 | (n,v)::r,m,h=>by
  unfold bindC;rw[ko λw hw=>h w (GA _ hw)];split
  ·rfl
  ·have:x≠n:=by rintro rfl;exact h v GB
   simp[this]
theorem kC{v:Value}:∀{P:List Str} {vs:List Value} {i:Nat} {m:Str->Option Value},P.Nodup->P[i]?=some x->vs[i]?=some v->kindOf x=some .local ->
  bindL kindOf (P.zip vs) m x=some v
 |[],_,_,_,_,h,_,_=>by simp at h
 |_::_,[],_,_,_,_,h,_=>by simp at h
 |p::P,w::vs,0,m,nd,h1,h2,hk=>by
  simp at h1 h2;subst h1;subst h2;show bindL kindOf ((p,w)::P.zip vs) m p=_;unfold bindL;rw[kc λv hv=>(IK.mp nd).1 (KO hv).1,Gp hk];simp
 |p::P,w::vs,i+1,m,nd,h1,h2,hk=>by
  show bindL kindOf ((p,w)::P.zip vs) m x=_;unfold bindL;exact kC (i:=i) (IK.mp nd).2 (by simpa using h1) (by simpa using h2) hk
theorem km{v:Value}:∀{P:List Str} {vs:List Value} {i:Nat} {m:Str->Option Value},P.Nodup->P[i]?=some x->vs[i]?=some v->kindOf x≠some .local ->
  bindC kindOf (P.zip vs) m x=some v
 |[],_,_,_,_,h,_,_=>by simp at h
 |_::_,[],_,_,_,_,h,_=>by simp at h
 |p::P,w::vs,0,m,nd,h1,h2,hk=>by
  simp at h1 h2;subst h1;subst h2;show bindC kindOf ((p,w)::P.zip vs) m p=_;unfold bindC;rw[ko λv hv=>(IK.mp nd).1 (KO hv).1,Gn hk];simp
 |p::P,w::vs,i+1,m,nd,h1,h2,hk=>by
  show bindC kindOf ((p,w)::P.zip vs) m x=_;unfold bindC;exact km (i:=i) (IK.mp nd).2 (by simpa using h1) (by simpa using h2) hk
noncomputable def start(N:List Str)(vs:List V):St:=vs.map some++List.replicate (N.length-vs.length) none
noncomputable def fC(CX:nY)(P:Program)(w:World)(K:LA)(mg:Str->Option Value)(base:Heap)(N:List Str)(qual:Str)(scope:Scope)(f:Addr)(cd:Value)(A:Around)(outer:List Env)(s:Shared)(H:Hp)(E:XK):Cx where
 prog:=P
 w:=w
 K:=K
 mg:=mg
 base:=base
 A:=A.deeper (envOfC qual scope s.heap.objs.size f cd)
 N:=N
 s₀:=s
 H₀:=H
 env:=envOfC qual scope s.heap.objs.size f cd
 outer:=outer
 stack:=envOfC qual scope s.heap.objs.size f cd::outer
 ex:=[]
 calm:=true
 fn:=λ_=>true
 pn:=[]
 xe:=λe s'=>wpAny (model P w) (A.deeper (envOfC qual scope s.heap.objs.size f cd)) (leaving (envOfC qual scope s.heap.objs.size f cd) e) (λ_ s''=>CX outer H s E e s'') (λe' s''=>CX outer H s E e' s'') s'
theorem oj{sc:Scope}{n:Nat}(h:sc.names.lookup x=some .cell):∃c,(cellsFrom n sc.names []).lookup x=some c:=by
 have q:=PySem.W.cellsFrom_some sc.names n [] (.inl h);exact Jk.mp q
theorem sv{ps:List Str}{qual:Str}{f:Addr}{cd:Value}{A:Around}{s s1:Shared}{E:XK}{vs:List V}
  (S:av N ps scope) (hd:A.handled=none) (e0:p8 P w K mg base A outer s H) (hl:vs.length=ps.length) (r:Vals vs us)
  (x:InCallC s s.heap.objs.size (bindL (envOfC qual scope s.heap.objs.size f cd).kindOf (ps.zip us) λ_=>none) (cellsFrom (s.heap.objs.size+1) scope.names []) (bindC (envOfC qual scope s.heap.objs.size f cd).kindOf (ps.zip us) λ_=>none) s1) :
  Inv (fC CX P w K mg base N qual scope f cd A outer s H E) [] (start N vs) H s1:=by
 have hpl:ps.length<=N.length:=by have:=Hm List.length S.pre;rw[GP] at this;lia
 obtain⟨h1,tk,rfl,hk⟩:=x.done;have noA:∀b:Addr,b∉(fC CX P w K mg base N qual scope f cd A outer s H E).ex:=λb z=>absurd (show b∈([]:List Addr) from z) (by simp)
 refine⟨⟨e0.mod,S.kind,rfl,rfl,Gs _,λy z c h1 h2=>?_,λy hy=>?_,λy c _ h=>?_,λ_=>hd,Around.frames_deeper e0.frames,.inr ⟨rfl,rfl⟩,λb z=>absurd z (noA b),e0.bs,e0.xB,λb _ _=>noA b,λb z=>absurd z (noA b),e0.iL,e0.Ba,e0.tabs⟩,
  rfl,e0.bare,Un.kept hk,⟨_,x.toInCall.ns,λi y v h1 h2 h3=>?_⟩,λy c h=>⟨_,x.cell y c h⟩,e0.aX.fresh (Gs _),λy c h=>?_,λp hp=>absurd (show p∈([]:List (Addr×Obj)) from hp) (by simp),e0.aX.kept hk,?_⟩
 ·exact name_of_addr x.apart (PySem.mem_of_lookup h1) (PySem.mem_of_lookup h2)
 ·have hy:scope.names.lookup y=some .cell\/scope.names.lookup y=some .free:=hy;rcases hy with hy|hy
  ·exact oj hy
  ·exact absurd rfl (S.Bx _ (PySem.mem_of_lookup hy))
 ·exact Iw (x.above y c (PySem.mem_of_lookup h))
 ·have hi:i<vs.length:=by
   unfold start at h2;by_cases hi:i<vs.length
   ·exact hi
   ·rw[GZ (by simpa using hi)] at h2
    rw[KI] at h2
    split at h2<;>cases h2
  have ha:vs[i]?=some v:=by
   unfold start at h2;rw[Hg (by simpa using hi),G8] at h2
   cases e:vs[i]? with
   |none=>rw[e] at h2;cases h2
   |some a=>rw[e] at h2;cases h2;rfl
  obtain⟨u,hu,rv⟩:=r.get ha;have hp:ps[i]?=some y:=by
   rw[<- S.pre,List.getElem?_take_of_lt (by lia)];exact h1
  have ndP:ps.Nodup:=by rw[<- S.pre];exact S.nd.sublist (List.take_sublist _ _)
  refine⟨u,rv,?_⟩;rcases S.par y (H_ hp) with k|k
  ·exact .inl ⟨k,kC ndP hp hu k⟩
  ·obtain⟨c,e⟩:=oj (n:=s.heap.objs.size+1) k;refine .inr ⟨.inl k,c,e,?_⟩;have q:=x.cell y c e;rw[km ndP hp hu (by show scope.names.lookup y≠_;rw[k];decide)] at q
   exact q
 ·exact e0.aX.fresh (Iw (x.above y c (PySem.mem_of_lookup h)))
 ·unfold start;show _=N.length;rw[Gr,Gx,G9];lia
theorem zZ{k:Nat}{f:Addr}{name qual:Str}{params:Arguments}{dV kV doc pm cdv ct oc:Value}{an od:Option Addr}
  {osl:Array (Option Value)} {ps:List Str} {sp:Sp} (lk:K.lookup f=some ⟨oc,od,.func (PySem.W.fnOf name qual params body scope dV kV doc pm an cdv ct),osl⟩) (gz:PySem.W.codeIn K cdv qual=true) (S:av N ps scope)
  (len:∀vs H Q E,sp vs H Q E->vs.length=ps.length)
  (hbody:∀(A:Around) (outer:List Env) (s:Shared) (H:Hp) (vs:List V) (Q:VK) (E:XK),bE k (A.deeper (envOfC qual scope s.heap.objs.size f cdv))->sp vs H Q E ->
   ∃t,oY (fC CX P w K mg base N qual scope f cdv A outer s H E) body t/\t {nx:=λ_ H'=>Q .aQ H',rt:=Q} (start N vs) H) :
  cC P w K mg base CX (k+1) f (PySem.W.fnOf name qual params body scope dV kV doc pm an cdv ct) ps sp:=by
 refine⟨len,λA outer s H args us vs Q E hr e0 hb r hsp=>?_⟩;have hl:=len _ _ _ _ hsp;have KX:K.In s.heap:=e0.mod.Dz.keeps λb o e=>(e0.bs b o e).1;have lim:s.heap.NoLimit:=e0.mod.nolimit.keeps λb o e=>(e0.bs b o e).1;have hkind:∀y∈ps.zip us,scope.names.lookup y.1=some .local\/(scope.names.lookup y.1=some .cell/\((cellsFrom (s.heap.objs.size+1) scope.names []).lookup y.1).isSome=true):=λ⟨n,v⟩ hy=>by
  rcases S.par n (KO hy).1 with q|q
  ·exact .inl q
  ·exact .inr ⟨q,PySem.W.cellsFrom_some _ _ _ (.inl q)⟩
 refine codeAny_call_function hr.depth (KX _ _ lk) rfl S.co S.gen rfl (PySem.W.codeRec_of KX gz) (hb _ _ _ _ ?_);refine wpAny_newFunctionEnv_cells S.kind hkind λenv he s1 x=>?_;subst he;refine⟨lim.keeps x.toInCall.keep,codeAny_func ?_⟩;obtain⟨t,ht,hq⟩:=hbody A outer s H vs Q E (hr.deeper _) hsp;have I:Inv (fC CX P w K mg base N qual scope f cdv A outer s H E) [] (start N vs) H s1:=sv S hr.hd e0 hl r x;refine Hn (ht [] s1 (start N vs) H _ I hq) (λfl s' hs=>?_) λe s' hs=>hs;have fin:∀{σ':St} {H':Hp} {v:V} {u:Value},Inv (fC CX P w K mg base N qual scope f cdv A outer s H E) [] σ' H' s'->RelV v u->Q v H'->CE outer P w H s Q u s':=
  λ{σ' H' v u} J rv q=>⟨v,H',J.os,J.bare,J.base,J.aX,rv,q⟩
 cases fl with
 |ret u =>
  obtain⟨v,σ',H',J,rv,q⟩:=hs;exact fin J rv q
 |next =>
  obtain⟨σ',H',J,q⟩:=hs;exact fin (v:=V.aQ) (u:=Value.none) J rfl q
 |brk =>
  obtain⟨_,_,_,q⟩:=hs;exact False.elim q
 |cont =>
  obtain⟨_,_,_,q⟩:=hs;exact False.elim q
section
variable {X:Cx} {x:Str} {p pos:Pos} {e:Expr} {es:List Expr} {t:TA} {id T:String} {r:List V->Hp->VK->Prop}
noncomputable def xG(r:List V->Hp->VK->Prop)(t:TA):TE:=λσ H Q=>t σ H λvs H1=>r vs H1 Q
theorem wk(hc:bC X (.builtin id) r)(hg:Gl X x)(hm:X.mg x=none)(hv:bootBuiltins x=some (.builtin id))(ha:PA X (e::es) t)(hn:autoParam (x≠"__name__") ℜ1)(hdb:autoParam ((x ==("__debug__":Str))=false) ℜ1)
  (he:autoParam (starEach (e::es) X.env=(false,eval e X.env)::starEach es X.env) ℜ0) (hpl:autoParam ((backTo pos (starEach es X.env)).any (·.1)=false) ℜ0):PE X (.Call (.Name x p) (e::es) [] pos) (xG r t):=by
 intro pins s σ H Q I h;refine Il (eZ I hg hm hv ?_ hn hdb);exact PyProof.Rows.callWith_builtin1 (bL (ha pos pins s σ H _ I h) λus s1 ⟨vs,H1,I1,r1,q1⟩=>hc pins s1 σ H1 vs us Q I1 r1 q1) he hpl
theorem rT(hc:bC X (.type T) r)(hg:Gl X x)(hm:X.mg x=none)(hv:bootBuiltins x=some (.type T))(ha:PA X (e::es) t)(hn:autoParam (x≠"__name__") ℜ1)(hdb:autoParam ((x ==("__debug__":Str))=false) ℜ1)
  (he:autoParam (starEach (e::es) X.env=(false,eval e X.env)::starEach es X.env) ℜ0) (hpl:autoParam ((backTo pos (starEach es X.env)).any (·.1)=false) ℜ0):PE X (.Call (.Name x p) (e::es) [] pos) (xG r t):=by
 intro pins s σ H Q I h;refine Il (eZ I hg hm hv ?_ hn hdb);exact Ht (bL (ha pos pins s σ H _ I h) λus s1 ⟨vs,H1,I1,r1,q1⟩=>hc pins s1 σ H1 vs us Q I1 r1 q1) he hpl
end
end L2
namespace HT
open PySem PyProof.Rows
section
variable {prog:Program} {w:World} {A:Around} {E:Value->Shared->Prop} {s:Shared}
theorem zp{t b:Addr}{vs ws:List Value}{Q:Value->Shared->Prop}(ht:IsTup s.heap t vs.toArray)(hb:IsTup s.heap b ws.toArray)(hv:vs≠[])
  (h1:ws=[]->Q (.ref t) s) (h2:ws≠[]->Q (.ref s.heap.objs.size) {s with heap:=s.heap.push {cls:=.type "tuple",data:=.seq (vs++ws).toArray}})
  (hsz:vs.length+ws.length<=sizeLine):wpAny (model prog w) A (binaryOp .Add (.ref t) (.ref b)) Q E s:=by
 obtain⟨⟨cls,dd,data,sl⟩,ho,hc,n,hd⟩:=id ht;obtain⟨⟨cls2,dd2,data2,sl2⟩,ho2,hc2,n2,hd2⟩:=id hb;simp only at hc hd hc2 hd2;subst hc hd hc2 hd2;have e:vs.toArray++ws.toArray=(vs++ws).toArray:=by simp
 by_cases hw:ws=[]
 ·exact concat_meets ⟨_,ho,rfl⟩ ⟨_,ho2,rfl⟩ noFill_tuple_add seq_tuple_add PySem.F.slot_tuple_add PySem.F.entry_tuple_add (PySem.F.args_tuple_add_2 _ _)
   (tuple_addW1 t b vs.toArray ws.toArray n n2 dd dd2 sl sl2 (by simpa using hv) (by simp[hw])) ⟨ho,ho2,h1 hw⟩
 ·refine concat_meets ⟨_,ho,rfl⟩ ⟨_,ho2,rfl⟩ noFill_tuple_add seq_tuple_add PySem.F.slot_tuple_add PySem.F.entry_tuple_add (PySem.F.args_tuple_add_2 _ _)
   (tuple_addW2 t b vs.toArray ws.toArray n n2 dd dd2 sl sl2 (by simpa using hv) (by simpa using hw) (by rw[List.size_toArray,List.size_toArray];exact hsz)) ⟨ho,ho2,?_⟩
  rw[e];exact h2 hw
noncomputable def ck(n d:Nat):Option Int->Nat
 |none=>d
 |some v=>if v<0 then (v+(n:Int)).toNat else min v.toNat n
theorem gI(n d:Nat):ck n d none=d:=rfl
theorem e7(n d k:Nat):ck n d (some (k:Int))=min k n:=by
 show (if (k:Int)<0 then ((k:Int)+(n:Int)).toNat else min (k:Int).toNat n)=min k n
 rw[if_neg (by lia),Int.toNat_natCast]
theorem pF(n d:Nat)(hd:d<=n)(o:Option Int):ck n d o<=n:=by
 cases o with
 |none=>exact hd
 |some v =>
  show (if v<0 then (v+(n:Int)).toNat else min v.toNat n)<=n
  by_cases hv:v<0
  ·rw[if_pos hv];lia
  ·rw[if_neg hv];exact Nat.min_le_right _ _
theorem rD(v:Int)(n d:Nat):(if v<0 then max (v+(n:Int)) 0 else min v (n:Int))=((ck n d (some v):Nat):Int):=by
 show (if v<0 then max (v+(n:Int)) 0 else min v (n:Int))=(((if v<0 then (v+(n:Int)).toNat else min v.toNat n):Nat):Int)
 by_cases hv:v<0
 ·simp only[if_pos hv];lia
 ·simp only[if_neg hv];lia
theorem oO(lo hi:Option Int)(n:Nat):Builtin.Slice.sliceAdjust lo hi 1 (n:Int)=(((ck n 0 lo:Nat):Int),((ck n n hi:Nat):Int)):=by
 have h1:¬ ((1:Int)<0):=by lia
 unfold Builtin.Slice.sliceAdjust;simp only[h1,if_false];refine Prod.ext ?_ ?_
 ·cases lo with
  |none=>rfl
  |some v=>exact rD v n 0
 ·cases hi with
  |none=>rfl
  |some v=>exact rD v n n
theorem pN(i j:Nat):Builtin.Slice.slicePlaces (i:Int) (j:Int) 1=j-i:=by
 unfold Builtin.Slice.slicePlaces;have h1:(1:Int) > 0:=by lia
 simp only[h1,if_true,Int.ediv_one]
 split<;>lia
theorem iW{v:Value}{o:Option Int}{Q:Option Int->Shared->Prop}(p:IsPart v o)(h:Q o s):wpAny (model prog w) A (Builtin.Slice.slicePartIndex v) Q E s:=by
 cases p with
 |none=>exact slicePart_none h
 |int i t=>exact slicePart_int h
theorem iz{sl:Addr}{vl vu:Value}{lo hi:Option Int}{n:Nat}{Q:Int×Int×Nat->Shared->Prop}(hs:s.heap.IsSliceOf sl vl vu .none)(pl:IsPart vl lo)(pu:IsPart vu hi)
  (h:Q (((ck n 0 lo:Nat):Int),1,ck n n hi-ck n 0 lo) s):wpAny (model prog w) A (Builtin.Slice.sliceApplied (.ref sl) (pure (n:Int))) Q E s:=by
 obtain⟨os,hos,hcs,m4⟩:=id hs;unfold Builtin.Slice.sliceApplied Builtin.Slice.sliceFields;refine wpAny_bind (wpAny_bind (wpAny_field hos m4 (x:=vl) rfl (wpAny_bind (wpAny_field hos m4 (x:=vu) rfl (wpAny_bind (wpAny_field hos m4 (x:=.none) rfl (wpAny_pure ?_)))))));refine wpAny_bind (slicePart_none ?_);show wpAny _ _ (if ((1:Int) == 0)=true then _ else _) _ _ s
 rw[if_neg (by decide)]
 refine wpAny_bind (iW pl (wpAny_bind (iW pu (wpAny_bind (wpAny_pure ?_)))));show wpAny _ _ (match Builtin.Slice.sliceAdjust lo hi 1 (n:Int) with | (lo,hi)=>pure (lo,(1:Int),Builtin.Slice.slicePlaces lo hi 1)) _ _ s
 rw[oO lo hi n];show wpAny _ _ (pure (((ck n 0 lo:Nat):Int),(1:Int),Builtin.Slice.slicePlaces ((ck n 0 lo:Nat):Int) ((ck n n hi:Nat):Int) 1)) _ _ s;rw[pN];exact wpAny_pure h
theorem vb(xs:Array Value)(i k:Nat):((List.range k).filterMap λ(m:Nat)=>xs[((i:Int)+(m:Int)*1).toNat]?).toArray=((xs.toList.drop i).take k).toArray:=by
 have e:(λ(m:Nat)=>xs[((i:Int)+(m:Int)*1).toNat]?)=λm=>xs[i+m]?:=by
  funext m
  have:((i:Int)+(m:Int)*1).toNat=i+m:=by lia
  rw[this]
 rw[e];have:=pick_run xs i k;rw[List.filterMap_map] at this;have e2:((λx=>xs[x]?) ∘ λx=>i+x)=λm=>xs[i+m]?:=rfl;rw[e2] at this;rw[this]
theorem gQ{t sl:Addr}{items:Array Value}{vl vu:Value}{lo hi:Option Int}{Q:Value->Shared->Prop}(ht:IsTup s.heap t items)(hs:s.heap.IsSliceOf sl vl vu .none)(pl:IsPart vl lo)(pu:IsPart vu hi)
  (hw:¬ (ck items.size 0 lo=0/\ck items.size items.size hi=items.size))
  (h:Q (.ref s.heap.objs.size) {s with heap:=s.heap.push {cls:=.type "tuple",data:=.seq ((items.toList.drop (ck items.size 0 lo)).take (ck items.size items.size hi-ck items.size 0 lo)).toArray}})
  (hsz:items.size<=sizeLine):wpAny (model prog w) A (getItem (.ref t) (.ref sl)) Q E s:=by
 have htake:sizeOk (.seq ((items.toList.drop (ck items.size 0 lo)).take (ck items.size items.size hi-ck items.size 0 lo)).toArray):=by
  show ((items.toList.drop (ck items.size 0 lo)).take (ck items.size items.size hi-ck items.size 0 lo)).toArray.size<=sizeLine;rw[List.size_toArray,List.length_take,List.length_drop,Array.length_toList];exact Nat.le_trans (Nat.min_le_right _ _) (Nat.le_trans (Nat.sub_le _ _) hsz)
 have hj:ck items.size items.size hi<=items.size:=pF _ _ (Nat.le_refl _) hi;obtain⟨os,hos,hcs,m4⟩:=id hs;have hTs:s.TypeIs (.ref sl) "slice":=⟨os,hos,hcs⟩;unfold getItem
 try with_reducible refine wpAny_holding ?_
 first|refine wpAny_bind (wpAny_pure ?_)|skip
 refine wpAny_bind (wpAny_sequenceKey ht.typeIs (by decide) ?_)
 refine wpAny_bind (wpAny_callSpecial?_slot (name:=Str.ofString "__getitem__") ht.typeIs PyProof.Rows.slot_tuple_getitem
  (wpAny_call_entry PyProof.Rows.slot_tuple_getitem ht.typeIs entry_tuple_getitem ?_ (args_tuple_getitem _ _)))
 show wpAny _ _ (Builtin.Tuple.tupleItemsOf (.ref t) >>= _) _ _ s;refine wpAny_bind (tupleItemsOf_ ht ?_);refine wpAny_bind (wpAny_typeOf hTs ?_);rw[if_pos (by decide)]
 refine wpAny_bind (iz hs pl pu ?_);have hno:¬ ((((ck items.size 0 lo:Nat):Int) == 0 && (1:Int) == 1 && (ck items.size items.size hi-ck items.size 0 lo) == items.size)=true):=by
  intro q;rw[Bool.and_eq_true,Bool.and_eq_true] at q;have q1:((ck items.size 0 lo:Nat):Int)=0:=eq_of_beq q.1.1;have q2:ck items.size items.size hi-ck items.size 0 lo=items.size:=eq_of_beq q.2;exact hw ⟨by lia,by lia⟩
 show wpAny _ _ (if (((ck items.size 0 lo:Nat):Int) == 0 && (1:Int) == 1 && (ck items.size items.size hi-ck items.size 0 lo) == items.size)=true then _ else _) _ _ s
 rw[if_neg hno,vb]
 first
  |exact wpAny_bind (m:=Builtin.Tuple.tupleExact _) (wpAny_newObj_type (wpAny_pure ⟨_,rfl,wpAny_pure h⟩) htake)
  |exact wpAny_bind (m:=Builtin.Tuple.tupleExact _) (wpAny_newObj_type (wpAny_bind (wpAny_pure (wpAny_pure ⟨_,rfl,wpAny_pure h⟩))) htake)
  |exact wpAny_bind (wpAny_bind (m:=Builtin.Tuple.tupleExact _) (wpAny_newObj_type (wpAny_pure (wpAny_pure ⟨_,rfl,wpAny_pure h⟩)) htake))
  |exact wpAny_bind (wpAny_bind (m:=Builtin.Tuple.tupleExact _) (wpAny_newObj_type (wpAny_pure ⟨_,rfl,wpAny_pure h⟩) htake))
end
end HT
namespace L2
open PySem PySem.Spec PyProof.Rows
variable{xs:List (List Key×Addr×Value)}{its its' us:List Value}{α:Type}{pins:List (Addr×Obj)}{σ:St}{H H':Hp}{x y:V}{u:Value}{o:Option V}{P:Program}{w:World}{kvs:List (List Key×V)}{a:Addr}{Q:Value->Shared->Prop}{X:Cx}{trs:List (TE×TE)}
abbrev TO:=St->Hp->(Option Int->Hp->Prop)->Prop
noncomputable def PO(X:Cx)(e:Option Expr)(t:TO):Prop:=
 ∀(pins:List (Addr×Obj)) (s:Shared) (σ:St) (H:Hp) (Q:Option Int->Hp->Prop),Inv X pins σ H s->t σ H Q ->
  wpAny (model X.prog X.w) X.A (evalPart e X.env) (λu s'=>∃o H',Inv X pins σ H' s'/\IsPart u o/\Q o H') X.xe s
noncomputable def gL:TO:=λ_ H Q=>Q none H
noncomputable def oF(t:TE):TO:=λσ H Q=>t σ H λx H1=>∃i,x=.int i/\Q (some i) H1
theorem intsAre_of{ns:List Int}:∀{us:List Value},Vals (ns.map V.int) us->IntsAre us ns:=by
 induction ns with
 |nil=>intro us r;rw[JK] at r;cases r;exact .nil
 |cons n ns ih =>
  intro us r;rw[GV] at r
  cases r with
  |cons r1 r2 =>
   obtain⟨t,e⟩:=r1;subst e;exact .cons n t (ih r2)
section
variable {X:Cx} {e:Expr} {te:TE} {lo hi:Option Expr} {tl th:TO} {pos p2:Pos}
theorem xZ:PO X none gL:=by
 intro pins s σ H Q I h;rw[evalPart_none];exact Gu ⟨none,H,I,.none,h⟩
theorem xI(h:PE X e te):PO X (some e) (oF te):=by
 intro pins s σ H Q I hw;rw[evalPart_some];refine bL (h pins s σ H _ I hw) λu s1 hq50=>?_;obtain⟨x,H1,I1,r1,q1⟩:=hq50;obtain⟨i,rfl,q⟩:=q1;obtain⟨t,rfl⟩:=r1;exact⟨some i,H1,I1,.int i t,q⟩
noncomputable def zV(X:Cx)(r:V->Option Int->Option Int->Hp->VK->Prop):Prop:=
 ∀(pins:List (Addr×Obj)) (s:Shared) (σ:St) (H:Hp) (x:V) (v vl vu:Value) (lo hi:Option Int) (sl:Addr) (Q:VK),Inv X pins σ H s->RelV x v->s.heap.IsSliceOf sl vl vu .none->IsPart vl lo->IsPart vu hi->r x lo hi H Q ->
  ∃T id,typeLookup (.type T) "__getitem__"=pure (some (.builtin id))/\s.TypeIs v T/\wpAny (model X.prog X.w) X.A (getItem v (.ref sl)) (EP X pins σ Q) X.xe s
noncomputable def E2(r:V->Option Int->Option Int->Hp->VK->Prop)(te:TE)(tl th:TO):TE:=λσ H Q=>te σ H λx H1=>tl σ H1 λl H2=>th σ H2 λu H3=>r x l u H3 Q
theorem vz{r:V->Option Int->Option Int->Hp->VK->Prop}(hr:zV X r)(he:PE X e te)(hl:PO X lo tl)(hu:PO X hi th):PE X (.Subscript e (.Slice lo hi none p2) pos) (E2 r te tl th):=by
 intro pins s σ H Q I h;refine Subscript_ (bL (he pins s σ H _ I h) λv s1 hq51=>?_);obtain⟨x,H1,I1,r1,q1⟩:=hq51;refine wpAny_Slice (bL (hl pins s1 σ H1 _ I1 q1) λvl s2 ⟨l,H2,I2,pl,q2⟩=>bL (hu pins s2 σ H2 _ I2 q2) λvu s3 hq52=>?_);obtain⟨u,H3,I3,pu,q3⟩:=hq52;rw[evalPart_none];refine Gu ?_;have I4:Inv X pins σ H3 {s3 with heap:=s3.heap.push {cls:=.type "slice",data:=.fields #[vl,vu,.none]}}:=I3.kept (t':=s3.toks) λb ob q=>Gk _ q
 obtain⟨T,id,hT,ht,hg⟩:=hr pins {s3 with heap:=s3.heap.push {cls:=.type "slice",data:=.fields #[vl,vu,.none]}} σ H3 x v vl vu l u s3.heap.objs.size Q I4 r1 (Heap.IsSliceOf.new ..) pl pu q3
 show wpAny (model X.prog X.w) X.A (subscriptTail e (.Slice lo hi none p2) v (.ref s3.heap.objs.size)) (EP X pins σ Q) X.xe {s3 with heap:=s3.heap.push {cls:=.type "slice",data:=.fields #[vl,vu,.none]}}
 exact tail_any (ops:=[.ref s3.heap.objs.size,v]) ht hT hg (by with_unfolding_all rfl)
noncomputable def iM(xs:List V)(lo hi:Option Int):List V:=(xs.drop (HT.ck xs.length 0 lo)).take (HT.ck xs.length xs.length hi-HT.ck xs.length 0 lo)
theorem i4(xs:List V)(lo hi:Option Int):(iM xs lo hi).length<=xs.length:=by
 unfold iM;rw[GP,Hd];exact Gw (Nat.min_le_right _ _) (Nat.sub_le _ _)
noncomputable def xg(K:LA):V->Option Int->Option Int->Hp->VK->Prop:=λx lo hi H Q=>∃a xs,x=.ref a/\b8 K H a xs /\
 ¬ (HT.ck xs.length 0 lo=0/\HT.ck xs.length xs.length hi=xs.length)/\∀p,H p=none->Q (.ref p) (upd H p (.tup (iM xs lo hi)))
theorem wM:zV X (xg X.K):=by
 intro pins s σ H x v vl vu lo hi sl Q I rx hs pl pu h;obtain⟨a,xs,rfl,hx,hw,q⟩:=h;cases rx;obtain⟨its,r,ht,hz⟩:=I.tuple hx;have hlen:its.toArray.size=xs.length:=by rw[G4];exact r.length.symm
 refine⟨"tuple",_,PyProof.Rows.slot_tuple_getitem.lookup,ht.typeIs,?_⟩;refine HT.gQ ht hs pl pu (by rw[hlen];exact hw) ?_ (by rw[hlen];exact hz)
 rw[hlen];refine⟨.ref s.heap.objs.size,_,I.laid (t':=s.toks) (o:=.tup (iM xs lo hi)) (λb ob q=>Gk _ q) (Gs _) ?_,rfl,q _ (I.aX.fresh (Gs _))⟩;exact⟨Gw (i4 xs lo hi) hz,_,(r.drop (HT.ck xs.length 0 lo)).take (HT.ck xs.length xs.length hi-HT.ck xs.length 0 lo),dI.new _ _⟩
noncomputable def DB(K:LA):R2:=λx y H Q=>∃a b xs ys,x=.ref a/\y=.ref b/\b8 K H a xs/\b8 K H b ys/\xs≠[]/\xs.length+ys.length<=sizeLine /\
 (ys=[]->Q (.ref a) H)/\(ys≠[]->∀p,H p=none->Q (.ref p) (upd H p (.tup (xs++ys))))
theorem Vals.lK{xs:List V}(r:Vals xs us):us=[] ↔ xs=[]:=by
 cases r with
 |nil=>simp
 |cons _ _=>simp
theorem yF:dz X (binaryOp .Add) (DB X.K):=by
 intro pins s σ H x y v u Q I rx ry h;obtain⟨a,b,xs,ys,rfl,rfl,ha,hb,hx,hz,q1,q2⟩:=h;cases rx;cases ry;obtain⟨its,r1,p1,_⟩:=I.tuple ha;obtain⟨its2,r2,p2,_⟩:=I.tuple hb;refine HT.zp p1 p2 (λz=>hx (r1.lK.mp z)) (λz=>⟨.ref a,H,I,rfl,q1 (r2.lK.mp z)⟩) (λz=>?_) (by rw[<- r1.length,<- r2.length];exact hz)
 refine⟨.ref s.heap.objs.size,_,I.laid (t':=s.toks) (o:=.tup (xs++ys)) (λb ob q=>Gk _ q) (Gs _) ?_,rfl,q2 (λw=>z (r2.lK.mpr w)) _ (I.aX.fresh (Gs _))⟩;exact⟨by rw[Gr];exact hz,_,r1.append r2,dI.new _ _⟩
end
noncomputable def lM(n:Nat)(i:Int):Option Nat:=if 0<=i then (if i<n then some i.toNat else none) else if -(n:Int)<=i then some (i+n).toNat else none
noncomputable def bX(xs:List α)(i:Int):Option α:=(lM xs.length i).bind λj=>xs[j]?
theorem rq{n:Nat}{i:Int}{j:Nat}(h:lM n i=some j):seqIndex? i n=some j/\j<n/\-(n:Int)<=i/\i<n:=by
 unfold lM at h;by_cases h0:0<=i
 ·rw[Gp h0] at h;by_cases h1:i<n
  ·rw[Gp h1] at h;have e:i.toNat=j:=Option.some.inj h;exact⟨by rw[seqIndex_of h0 h1,e],by lia,by lia,h1⟩
  ·rw[Gn h1] at h;cases h
 ·rw[Gn h0] at h;by_cases h1:-(n:Int)<=i
  ·rw[Gp h1] at h;have e:(i+n).toNat=j:=Option.some.inj h;exact⟨by rw[Ls (by lia) h1,e],by lia,h1,by lia⟩
  ·rw[Gn h1] at h;cases h
theorem mh{xs:List α}{i:Int}{v:α}(h:bX xs i=some v):∃j,seqIndex? i xs.length=some j/\xs[j]?=some v/\j<xs.length/\-(xs.length:Int)<=i/\i<xs.length:=by
 unfold bX at h
 cases e:lM xs.length i with
 |none=>rw[e] at h;cases h
 |some j =>
  rw[e] at h;obtain⟨h1,h2,h3,h4⟩:=rq e;exact⟨j,h1,h,h2,h3,h4⟩
theorem bI{xs:List α}{j:Nat}{v:α}(h:xs[j]?=some v):bX xs (j:Int)=some v:=by
 have hj:j<xs.length:=(Gq.mp h).1;have e:lM xs.length (j:Int)=some j:=by
  unfold lM;rw[Gp (by lia),Gp (by lia)];simp
 unfold bX;rw[e];exact h
noncomputable def qP(b:Expr):Prop:=∀o i,subscripted b false o i=operate [o,i] (getItem o i)
noncomputable def tG(X:Cx)(r:R2):Prop:=
 ∀(value slice:Expr) (pins:List (Addr×Obj)) (s:Shared) (σ:St) (H:Hp) (x y:V) (v u:Value) (Q:VK),Inv X pins σ H s->RelV x v->RelV y u->r x y H Q ->
  subscripted slice false v u=operate [v,u] (getItem v u)->wpAny (model X.prog X.w) X.A (subscriptTail value slice v u) (EP X pins σ Q) X.xe s
noncomputable def rQ(X:Cx)(id:String)(r:V->List V->Hp->VK->Prop):Prop:=
 ∀(pins:List (Addr×Obj)) (s:Shared) (σ:St) (H:Hp) (x:V) (xs:List V) (v:Value) (us:List Value) (Q:VK),Inv X pins σ H s->RelV x v->Vals xs us->r x xs H Q ->
  wpAny (model X.prog X.w) X.A (call (.builtin id) (v::us)) (EP X pins σ Q) X.xe s
section
variable {X:Cx} {a b:Expr} {ta tb:TE} {pos:Pos}
theorem tG.or{r r':R2}(h:tG X r)(h':tG X r'):tG X (λx y H Q=>r x y H Q\/r' x y H Q):=by
 intro value slice pins s σ H x y v u Q I rx ry q hs;rcases q with q|q
 ·exact h value slice pins s σ H x y v u Q I rx ry q hs
 ·exact h' value slice pins s σ H x y v u Q I rx ry q hs
theorem Aw{r:R2}(hr:tG X r)(ha:PE X a ta)(hb:PE X b tb)(hs:qP b):PE X (.Subscript a b pos) (tZ r ta tb):=by
 intro pins s σ H Q I h;exact Subscript_ (AH ha hb I h λv u s2 x y H2 I2 rx ry q=>hr a b pins s2 σ H2 x y v u Q I2 rx ry q (hs _ _))
noncomputable def Dm(K:LA):R2:=λx y H Q=>∃p xs i v,x=.ref p/\y=.int i/\bZ K H p xs/\bX xs i=some v/\Q v H
noncomputable def BA(K:LA):R2:=λx y H Q=>∃p xs i v,x=.ref p/\y=.int i/\b8 K H p xs/\bX xs i=some v/\Q v H
noncomputable def Dp:R2:=λx y H Q=>∃z i c,x=.str z/\y=.int i/\z.length<=sizeLine/\bX z.cps.toList i=some c/\Q (.str ⟨#[c]⟩) H
theorem xE:tG X (Dm X.K):=by
 intro value slice pins s σ H x y v u Q I rx ry h hs;obtain⟨p,xs,i,z,rfl,rfl,hq,he,q⟩:=h;cases rx;obtain⟨t,rfl⟩:=ry;obtain⟨its,r,pl,hz⟩:=I.list hq;obtain⟨j,h1,h2,h3,h4,h5⟩:=mh he;obtain⟨w,ew,rw'⟩:=r.get h2;have hl:=r.length;have hn:=iq;have fin:EP X pins σ Q w s:=⟨z,H,I,rw',q⟩;by_cases h0:0<=i
 ·have hj:i.toNat=j:=by
   rw[seqIndex_of h0 h5] at h1;exact Option.some.inj h1
  exact item_listR pl.isList h0 (by lia) (by rw[hj];simpa using ew) fin hs
 ·have hj:(i+(its.toArray.size:Int)).toNat=j:=by
   rw[Ls (by lia) h4] at h1
   rw[G4,<- hl];exact Option.some.inj h1
  exact subscriptTail_builtinR (x:=w) pl.isList.typeIs slot_list_getitem.lookup
   (wpAny_getItem_list_neg (Q:=λr s'=>r=w/\EP X pins σ Q r s') pl.isList (by lia) (by rw[G4]<;>lia) (by lia) (by rw[hj];simpa using ew) ⟨rfl,fin⟩) hs
theorem qd:tG X (BA X.K):=by
 intro value slice pins s σ H x y v u Q I rx ry h hs;obtain⟨p,xs,i,z,rfl,rfl,hq,he,q⟩:=h;cases rx;obtain⟨t,rfl⟩:=ry;obtain⟨its,r,pl,hz⟩:=I.tuple hq;obtain⟨j,h1,h2,h3,h4,h5⟩:=mh he;obtain⟨w,ew,rw'⟩:=r.get h2;have hl:=r.length;have hn:=iq;have fin:EP X pins σ Q w s:=⟨z,H,I,rw',q⟩;exact subscriptTail_builtinR (x:=w) pl.typeIs slot_tuple_getitem.lookup
  (getItem_tuple (j:=j) (Q:=λr s'=>r=w/\EP X pins σ Q r s') pl (by lia) (by lia) (by rw[G4,<- hl];exact h1) (by simpa using ew) ⟨rfl,fin⟩) hs
theorem C6:tG X Dp:=by
 intro value slice pins s σ H x y v u Q I rx ry h hs;obtain⟨z,i,c,rfl,rfl,hz,he,q⟩:=h;obtain⟨t,rfl⟩:=rx;obtain⟨t',rfl⟩:=ry;obtain⟨j,h1,h2,h3,h4,h5⟩:=mh he;have hl:z.cps.toList.length=z.length:=by simp[Str.length]
 rw[hl] at h1 h4 h5;have hn:=iq;exact tail_any (Lo s z t) slot_str_getitem.lookup (getItem_str (c:=c) (by
  have e1:decide (i < -(2^63:Int))=false:=GH (by lia)
  have e2:decide (i >= 2^63)=false:=GH (by lia)
  rw[e1,e2,Bool.or_false]) (by rw[h1];simpa using h2) ⟨.str ⟨#[c]⟩,H,I.tok _,⟨_,rfl⟩,q⟩) hs
noncomputable def F_(K:LA):R2:=λx y H Q=>Dm K x y H Q\/BA K x y H Q\/Dp x y H Q
theorem AB:tG X (F_ X.K):=xE.or (qd.or C6)
theorem oR(its:List Value)(n j:Nat)(u:Value):Obj.mapSeq (·.setIfInBounds j u) {cls:=.type "list",data:=.seq its.toArray n}={cls:=.type "list",data:=.seq (its.set j u).toArray n}:=by
 simp[Obj.mapSeq]
theorem Inv.lst{s:Shared}{p:Addr}{xs:List V}(I:Inv X pins σ H s)(h:H p=some (.lst xs)):
  ∃(its:List Value) (n:Nat),Vals xs its/\s.heap.get? p=some {cls:=.type "list",data:=.seq its.toArray n}/\xs.length<=sizeLine:=by
 obtain⟨z,its,n,r,e⟩:=I.aX p _ h;exact⟨its,n,r,e,z⟩
theorem Inv.By{s:Shared}{p:Addr}{xs ys:List V}{n n':Nat}{f:Obj->Obj}(I:Inv X pins σ H s)(h:H p=some (.lst xs))
  (ho:s.heap.get? p=some {cls:=.type "list",data:=.seq its.toArray n}) (hf:f {cls:=.type "list",data:=.seq its.toArray n}={cls:=.type "list",data:=.seq its'.toArray n'}) (r:Vals ys its') (hz:ys.length<=sizeLine) (t:Nat) :
  Inv X pins σ (upd H p (.lst ys)) {s with heap:=s.heap.update p f,toks:=t}:=by
 have e:(s.heap.update p f).get? p=some {cls:=.type "list",data:=.seq its'.toArray n'}:=by
  rw[JD f ho (by rw[hf]<;>rfl),hf]
 refine I.write (x:=p) (e:=p) (by rw[h];trivial) (.inl rfl) (λb u hb q=>(Jt _ _ (Hy hb)).trans q) ⟨_,e⟩ ?_
 exact⟨hz,its',n',r,e⟩
noncomputable def DQ:V->V->V->Hp->(Hp->Prop)->Prop:=λo i v H Q=>∃p xs k j,o=.ref p/\i=.int k/\H p=some (.lst xs)/\lM xs.length k=some j/\Q (upd H p (.lst (xs.set j v)))
theorem set_list:AR X DQ:=by
 intro pins s σ H o i v ov iv u Q I ro ri rv h;obtain⟨p,xs,k,j,rfl,rfl,hp,hj,q⟩:=h;cases ro;obtain⟨t,rfl⟩:=ri;obtain⟨its,n,r,ho,hz⟩:=I.lst hp;obtain⟨h1,h2,h3,h4⟩:=rq hj;have hl:=r.length;have hn:=iq;have I':Inv X pins σ (upd H p (.lst (xs.set j v))) {s with heap:=s.heap.update p (Obj.mapSeq (·.setIfInBounds j u))}:=
  I.By hp ho (oR its n j u) (r.set rv j) (by rw[HB];exact hz) s.toks
 by_cases h0:0<=k
 ·have hk:k.toNat=j:=by
   rw[seqIndex_of h0 h4] at h1;exact Option.some.inj h1
  exact PySem.W.ki_setAt ho h0 (by lia) (by rw[G4,<- hl];exact h4) (by rw[hk];exact⟨_,I',q⟩)
 ·have hk:(k+(its.toArray.size:Int)).toNat=j:=by
   rw[Ls (by lia) h3] at h1
   rw[G4,<- hl];exact Option.some.inj h1
  exact PySem.W.ki_setBack ho (by lia) (by rw[G4,<- hl];exact h3) (by lia) (by rw[hk];exact⟨_,I',q⟩)
theorem lU(lo hi:Option Int)(n:Nat):(sliceBounds lo hi none n).1=((HT.ck n 0 lo:Nat):Int)/\(sliceBounds lo hi none n).2.1=((HT.ck n n hi:Nat):Int)/\(sliceBounds lo hi none n).2.2=1:=by
 refine⟨?_,?_,rfl⟩
 ·cases lo with
  |none=>simp[sliceBounds,HT.ck]
  |some i =>
   simp only[sliceBounds,HT.ck,Option.getD_none,show (1:Int) > 0 by decide,Jn]
   by_cases h:i<0
   ·simp only[h,Jn]<;>lia
   ·simp only[h,Ih]<;>lia
 ·cases hi with
  |none=>simp[sliceBounds,HT.ck]
  |some i =>
   simp only[sliceBounds,HT.ck,Option.getD_none,show (1:Int) > 0 by decide,Jn]
   by_cases h:i<0
   ·simp only[h,Jn]<;>lia
   ·simp only[h,Ih]<;>lia
theorem jN(its:List Value)(lo hi:Option Int):slicePick its.toArray lo hi none=((its.drop (HT.ck its.length 0 lo)).take (HT.ck its.length its.length hi-HT.ck its.length 0 lo)).toArray:=by
 obtain⟨h1,h2,h3⟩:=lU lo hi its.toArray.size;unfold slicePick;rw[h1,h2,h3];simp only[sliceRange_one,pick_run,G4]<;>rfl
noncomputable def Ei(K:LA):V->Option Int->Option Int->Hp->VK->Prop:=λx lo hi H Q=>∃a xs,x=.ref a/\bZ K H a xs/\∀p,H p=none->Q (.ref p) (upd H p (.lst (iM xs lo hi)))
theorem qx:zV X (Ei X.K):=by
 intro pins s σ H x v vl vu lo hi sl Q I rx hs pl pu h;obtain⟨a,xs,rfl,hx,q⟩:=h;cases rx;obtain⟨its,r,ht,hz⟩:=I.list hx;have hlen:=r.length;refine⟨"list",_,slot_list_getitem.lookup,ht.isList.typeIs,?_⟩;refine wpAny_getItem_list_slice ht.isList hs pl pu .none (by simp) ?_ (by rw[G4]<;>lia)
 rw[jN,<- hlen];refine⟨.ref s.heap.objs.size,_,I.laid (t':=s.toks) (o:=.lst (iM xs lo hi)) (λb ob q=>Gk _ q) (Gs _) ?_,rfl,q _ (I.aX.fresh (Gs _))⟩;exact⟨Gw (i4 xs lo hi) hz,_,0,(r.drop (HT.ck xs.length 0 lo)).take (HT.ck xs.length xs.length hi-HT.ck xs.length 0 lo),G0 _ rfl⟩
noncomputable def dw:V->Bool
 |.aQ=>true
 |.bl _=>true
 |.int _=>true
 |.str _=>true
 |_=>false
noncomputable def Al:V->V->Bool
 |.aQ,.aQ=>true
 |.bl a,.bl b=>a == b
 |.bl a,.int b=>(if a then 1 else 0) == b
 |.int a,.bl b=>a ==(if b then 1 else 0)
 |.int a,.int b=>a == b
 |.str a,.str b=>a == b
 |_,_=>false
theorem Cy{A:Around}{s:Shared}{v:Value}(ry:RelV y u)(rx:RelV x v)(fy:dw y=true)(fx:dw x=true):SeqAt.EqAt A s u v (Al y x):=by
 cases y with
 |aQ =>
  cases ry
  cases x with
  |aQ=>cases rx;exact SeqAt.EqAt.same _
  |bl b=>cases rx;exact SeqAt.EqAt.none_bool b
  |int b=>obtain⟨t,rfl⟩:=rx;exact SeqAt.EqAt.none_int b t
  |str b=>obtain⟨t,rfl⟩:=rx;exact SeqAt.EqAt.none_str b t
  |_=>exact absurd (show false=true from fx) Gz
 |bl a =>
  cases ry
  cases x with
  |aQ=>cases rx;exact SeqAt.EqAt.bool_none a
  |bl b=>cases rx;exact SeqAt.EqAt.bool_bool a b
  |int b=>obtain⟨t,rfl⟩:=rx;exact SeqAt.EqAt.bool_int a b t
  |str b=>obtain⟨t,rfl⟩:=rx;exact SeqAt.EqAt.bool_str a b t
  |_=>exact absurd (show false=true from fx) Gz
 |int a =>
  obtain⟨t',rfl⟩:=ry
  cases x with
  |aQ=>cases rx;exact SeqAt.EqAt.int_none a t'
  |bl b=>cases rx;exact SeqAt.EqAt.int_bool a t' b
  |int b=>obtain⟨t,rfl⟩:=rx;exact SeqAt.EqAt.int_int a t' b t
  |str b=>obtain⟨t,rfl⟩:=rx;exact SeqAt.EqAt.int_str a t' b t
  |_=>exact absurd (show false=true from fx) Gz
 |str a =>
  obtain⟨t',rfl⟩:=ry
  cases x with
  |aQ=>cases rx;exact SeqAt.EqAt.str_none a t'
  |bl b=>cases rx;exact SeqAt.EqAt.str_bool a t' b
  |int b=>obtain⟨t,rfl⟩:=rx;exact SeqAt.EqAt.str_int a t' b t
  |str b=>obtain⟨t,rfl⟩:=rx;exact SeqAt.EqAt.str_str a t' b t
  |_=>exact absurd (show false=true from fx) Gz
 |_=>exact absurd (show false=true from fy) Gz
noncomputable def yn(x:V)(u:Value):Bool:=match u with
 |.none=>Al .aQ x
 |.bool b=>Al (.bl b) x
 |.int i _=>Al (.int i) x
 |.str z _=>Al (.str z) x
 |_=>false
theorem wZ(r:RelV y u)(f:dw y=true):yn x u=Al y x:=by
 cases y with
 |aQ=>cases r;rfl
 |bl b=>cases r;rfl
 |int i=>obtain⟨t,rfl⟩:=r;rfl
 |str z=>obtain⟨t,rfl⟩:=r;rfl
 |_=>exact absurd (show false=true from f) Gz
theorem lu:∀{xs:List V} {us:List Value},Vals xs us->xs.all dw=true->us.any (yn x)=xs.any λy=>Al y x
 |_,_,.nil,_=>rfl
 |y::xs,u::us,.cons r t,f=>by
  rw[Ie,Hv] at f;rw[Jy,Jy,wZ r f.1,lu t f.2]
theorem jq{A:Around}{s:Shared}{v:Value}(rx:RelV x v)(fx:dw x=true):∀{xs:List V} {us:List Value},Vals xs us->xs.all dw=true->∀u∈us,SeqAt.EqAt A s u v (yn x u)
 |_,_,.nil,_=>λu hu=>by cases hu
 |y::xs,u::us,.cons r t,f=>λu' hu=>by
  rw[Ie,Hv] at f;rcases Gv.mp hu with rfl|hu
  ·rw[wZ r f.1];exact Cy r rx f.1 fx
  ·exact jq rx fx t f.2 u' hu
noncomputable def jV(x:V)(xs:List V):Bool:=xs.any λy=>Al y x
noncomputable def Ft(K:LA)(neg:Bool):R2:=λx y H Q=>∃p xs,y=.ref p/\(bZ K H p xs\/b8 K H p xs)/\dw x=true/\xs.all dw=true/\Q (.bl (if neg then !jV x xs else jV x xs)) H
theorem kj:dz X (compareOp .In) (Ft X.K false):=by
 intro pins s σ H x y v u Q I rx ry h;obtain⟨p,xs,rfl,hq,fx,fs,q⟩:=h;cases ry;rcases hq with hq|hq
 ·obtain⟨its,r,pl,hz⟩:=I.list hq;refine SeqAt.in_listAt (yn x) pl.isList (λw hw=>jq rx fx r fs w (by simpa using hw)) ⟨.bl _,H,I,rfl,?_⟩
  rw[show its.toArray.any (yn x)=its.any (yn x) by simp,lu r fs]
  exact q
 ·obtain⟨its,r,pl,hz⟩:=I.tuple hq;refine SeqAt.in_tupleAt (yn x) pl (λw hw=>jq rx fx r fs w (by simpa using hw)) ⟨.bl _,H,I,rfl,?_⟩
  rw[show its.toArray.any (yn x)=its.any (yn x) by simp,lu r fs]
  exact q
theorem lZ:bC X (.type "list") (λxs H Q=>∃p ys,xs=[.ref p]/\(bZ X.K H p ys\/b8 X.K H p ys)/\∀l,H l=none->Q (.ref l) (upd H l (.lst ys))):=by
 intro pins s σ H xs us Q I r h;obtain⟨p,ys,rfl,hq,q⟩:=h;obtain⟨u,rfl,rx⟩:=vals1 r;cases rx;have fin:∀(its:List Value),Vals ys its->ys.length<=sizeLine->∀(h':Heap) (c':Nat),(∀b o',s.heap.get? b=some o'->h'.get? b=some o') ->
   h'.get? s.heap.objs.size=some {cls:=.type "list",dict:=none,data:=.seq its.toArray c',slots:=#[]}->EP X pins σ Q (.ref s.heap.objs.size) {s with heap:=h'}:=λits r' hz h' c' kp e =>
  ⟨.ref s.heap.objs.size,_,I.laid (t':=s.toks) kp (Gs _) (show bp X.prog X.w _ h' _ (.lst ys) from⟨hz,its,c',r',e⟩),rfl,q _ (I.aX.fresh (Gs _))⟩
 rcases hq with hq|hq
 ·obtain⟨its,r',pl,hz⟩:=I.list hq;have hlen:=r'.length;obtain⟨o,ho,hc,n,hd⟩:=pl.isList;exact call_list_seq p (.inl rfl) ho hc hd (λh' c' kp e=>fin its r' hz h' c' kp e) (by simp only[G4]<;>lia)
 ·obtain⟨its,r',pl,hz⟩:=I.tuple hq;have hlen:=r'.length;obtain⟨o,ho,hc,n,hd⟩:=pl;exact call_list_seq p (.inr rfl) ho hc hd (λh' c' kp e=>fin its r' hz h' c' kp e) (by simp only[G4]<;>lia)
theorem eA:bC X (.type "tuple") (λxs H Q=>∃p ys,xs=[.ref p]/\((bZ X.K H p ys/\∀l,H l=none->Q (.ref l) (upd H l (.tup ys)))\/(b8 X.K H p ys/\Q (.ref p) H))):=by
 intro pins s σ H xs us Q I r h;obtain⟨p,ys,rfl,h⟩:=h;obtain⟨u,rfl,rx⟩:=vals1 r;cases rx;rcases h with ⟨hq,q⟩|⟨hq,q⟩
 ·obtain⟨its,r',pl,hz⟩:=I.list hq;have hlen:=r'.length;refine call_tuple_list pl.isList (λh' kp=>?_) (by simp only[G4]<;>lia)
  have I1:Inv X pins σ H {s with heap:=h'}:=I.kept (t':=s.toks) kp
  have I2:Inv X pins σ (upd H h'.objs.size (.tup ys)) {s with heap:=h'.push {cls:=.type "tuple",data:=.seq its.toArray}}:=
   I1.laid (t':=s.toks) (λb o e=>Gk _ e) (Gs _) (show bp X.prog X.w _ _ _ (.tup ys) from⟨hz,its,r',dI.new _ _⟩)
  exact⟨.ref h'.objs.size,_,I2,rfl,q _ (I1.aX.fresh (Gs _))⟩
 ·obtain⟨its,r',pl,hz⟩:=I.tuple hq;exact call_tuple_same pl ⟨.ref p,H,I,rfl,q⟩
noncomputable def DM(K:LA)(T:String)(x:V)(H:Hp):Prop:=match x with
 |.str _=>T="str"
 |.int _=>T="int"
 |.ref p=>(T="list"/\∃xs,bZ K H p xs)\/(T="tuple"/\∃o,K.lookup p=some o/\o.cls=.type "tuple"/\o.dict=none) \/
   (T="dict"/\((∃kvs,H p=some (.dK kvs))\/∃kvs,H p=some (.dT kvs)))\/(T="set"/\∃S n,H p=some (.set S n))
 |_=>False
theorem vh{s:Shared}{T:String}{v:Value}(I:Inv X pins σ H s)(r:RelV x v)(ty:DM X.K T x H):
  s.TypeIs v T/\∀a,v=.ref a->∃ob,s.heap.get? a=some ob/\ob.dict=none:=by
 cases x with
 |str z =>
  obtain⟨t,rfl⟩:=r
  cases (show T="str" from ty)
  exact⟨Lo s z t,λ_ e=>nomatch e⟩
 |int i =>
  obtain⟨t,rfl⟩:=r
  cases (show T="int" from ty)
  exact⟨Kt s i t,λ_ e=>nomatch e⟩
 |ref p =>
  cases r;rcases ty with ⟨rfl,xs,hq⟩|⟨rfl,o,hk,hc,hd⟩|⟨rfl,hk⟩|⟨rfl,S,n,hk⟩
  ·obtain⟨its,_,pl,_⟩:=I.list hq;refine⟨pl.isList.typeIs,λa e=>?_⟩;cases e;obtain⟨o,n,e,c,hd,_⟩:=pl;exact⟨o,e,hd⟩
  ·refine⟨⟨o,I.gO p o hk,hc⟩,λa e=>?_⟩;cases e;exact⟨o,I.gO _ o hk,hd⟩
  ·have z:∃o,s.heap.get? p=some o/\o.ExactDict:=by
    rcases hk with ⟨kvs,hk⟩|⟨kvs,hk⟩
    ·obtain⟨_,_,_,_,o,_,_,e,ex,_⟩:=I.aX p _ hk;exact⟨o,e,ex⟩
    ·obtain⟨_,_,_,_,o,_,_,e,ex,_⟩:=I.aX p _ hk;exact⟨o,e,ex⟩
   obtain⟨o,e,ex⟩:=z;refine⟨⟨o,e,ex.1⟩,λa e2=>?_⟩;cases e2;exact⟨o,e,ex.2.1⟩
  ·obtain⟨o,_,_,_,e,ex,_⟩:=I.aX p _ hk;refine⟨⟨o,e,ex.1⟩,λa e2=>?_⟩;cases e2;exact⟨o,e,ex.2.1⟩
 |_=>exact False.elim ty
noncomputable def vI(K:LA)(T:String)(r:V->List V->Hp->VK->Prop)(to:TE):TE:=λσ H Q=>to σ H λx H1=>DM K T x H1/\r x [] H1 Q
noncomputable def CJ(K:LA)(T:String)(r:V->List V->Hp->VK->Prop)(to:TE)(t:TA):TE:=λσ H Q=>to σ H λx H1=>DM K T x H1/\t σ H1 λxs H2=>r x xs H2 Q
variable {o e:Expr} {es:List Expr} {to:TE} {t:TA} {name:Str} {apos cpos:Pos} {T id:String} {r:V->List V->Hp->VK->Prop}
theorem A6(pa:PlainAttrs T)(slot:Slot T name id)(hty:typeOf (.builtin id)=pure (.type "method_descriptor"))(hm:rQ X id r)(ho:PE X o to)
  (hbase:autoParam (attributeBase o name X.env (eval o X.env)=eval o X.env) ℜ0) (hline:autoParam ((apos.endLine == cpos.line)=true) ℜ0):PE X (.Call (.Attribute o name apos) [] [] cpos) (vI X.K T r to):=by
 intro pins s σ H Q I h;refine wpAny_Call_method0_late hbase hline (bL (ho pins s σ H _ I h) λv s1 hq53=>?_);obtain⟨x,H1,I1,r1,ty,q1⟩:=hq53;obtain⟨h1,h2⟩:=vh I1 r1 ty;exact⟨T,id,pa,slot,hty,h1,h2,K_ rfl (PySem.evalArgs_none (hm pins s1 σ H1 x [] v [] Q I1 r1 .nil q1))⟩
theorem Ee(pa:PlainAttrs T)(slot:Slot T name id)(hty:typeOf (.builtin id)=pure (.type "method_descriptor"))(hm:rQ X id r)(ho:PE X o to)(ha:PA X (e::es) t)
  (hbase:autoParam (attributeBase o name X.env (eval o X.env)=eval o X.env) ℜ0)
  (hfew:autoParam (((backTo cpos (starEach (e::es) X.env)).all (λx=>!x.1) && (backToKw cpos (keywordEach [] X.env)).all (λx=>x.1.isSome)
   && decide ((e::es).length+([]:List Keyword).length+(if ([]:List Keyword).isEmpty then 0 else 1)<30))=true) ℜ0)
  (hline:autoParam ((apos.endLine == cpos.line)=true) ℜ0) (hs:autoParam (starEach (e::es) X.env=(false,eval e X.env)::starEach es X.env) ℜ0) (hplain:autoParam ((backTo cpos (starEach es X.env)).any (·.1)=false) ℜ0) :
  PE X (.Call (.Attribute o name apos) (e::es) [] cpos) (CJ X.K T r to t):=by
 intro pins s σ H Q I h;refine wpAny_Call_method_late hbase hfew hline rfl (bL (ho pins s σ H _ I h) λv s1 hq54=>?_);obtain⟨x,H1,I1,r1,ty,q1⟩:=hq54;obtain⟨h1,h2⟩:=vh I1 r1 ty;refine⟨T,id,pa,slot,hty,h1,h2,?_⟩;have hA:=ha cpos pins s1 σ H1 _ I1 q1;rw[hs] at hA ⊢;refine K_ (by show (false || (backTo cpos (starEach es X.env)).any (·.1))=false;rw[hplain]<;>rfl) (Calls.evalArgs_plain ?_)
 exact bL hA λus s2 ⟨vs,H2,I2,r2,q2⟩=>hm pins s2 σ H2 x vs v us Q I2 r1 r2 q2
/- xs.append(e),list.index on a module's tuple .. are rQ facts of 06m -/
end
noncomputable def EC(X:Cx)(id:String)(r:V->List V->Hp->VK->Prop):Prop:=
 ∀(pins:List (Addr×Obj)) (s:Shared) (σ:St) (H:Hp) (x:V) (xs:List V) (v:Value) (us:List Value) (Q:VK),Inv X pins σ H s->RelV x v->Vals xs us->r x xs H Q ->
  wpAny (model X.prog X.w) X.A (call (.builtin id) (v::us)) (EP X pins σ Q) X.xe s
theorem Vals.one:∀{x:V} {us:List Value},Vals [x] us->∃u,us=[u]/\RelV x u
 |_,_,.cons r .nil=>⟨_,rfl,r⟩
theorem Vals.eraseIdx:∀{xs:List V} {us:List Value} (i:Nat),Vals xs us->Vals (xs.eraseIdx i) (us.eraseIdx i)
 |_,_,_,.nil=>.nil
 |_,_,0,.cons _ t=>t
 |_,_,i+1,.cons r t=>.cons r (Vals.eraseIdx i t)
theorem Vals.rep{xs:List V}(h:Vals xs us):∀k:Nat,Vals (List.replicate k xs).flatten (List.replicate k us).flatten
 |0=>.nil
 |k+1=>by
  rw[Hf,Hf,Ib,Ib];exact Vals.append h (Vals.rep h k)
theorem kJ:∀(l:List α) (i:Nat),(l.eraseIdx i).length<=l.length
 |[],_=>Gs _
 |_::_,0=>HA _
 |_::r,i+1=>Nat.succ_le_succ (kJ r i)
theorem foldl_rep(its:List Value):∀(k:Nat) (acc:List Value),
  List.foldl (λx1 x2=>x1++x2) acc.toArray (List.replicate k its.toArray)=(acc++(List.replicate k its).flatten).toArray
 |0,acc=>by simp
 |k+1,acc=>by
  have e:acc.toArray++its.toArray=(acc++its).toArray:=by simp
  have e2:(acc++its)++(List.replicate k its).flatten=acc++(List.replicate (k+1) its).flatten:=by
   rw[Hf,Ib,GS]
  rw[<- e2,<- foldl_rep its k (acc++its),<- e,Hf,KP]
section
variable {X:Cx} {pins:List (Addr×Obj)} {σ:St} {H:Hp} {s:Shared} {l b:Addr} {xs ys zs:List V}
theorem Inv.A5{n:Nat}{f:Array Value->Array Value}{t':Nat}(I:Inv X pins σ H s)(hH:H l=some (.lst xs))
  (e:s.heap.get? l=some {cls:=.type "list",data:=.seq its.toArray n}) (hf:f its.toArray=its'.toArray) (hv:Vals ys its') (hz:ys.length<=sizeLine) :
  Inv X pins σ (upd H l (.lst ys)) {s with heap:=s.heap.update l (Obj.mapSeq f),toks:=t'}:=by
 have q:=PySem.IsL.update e f;rw[hf] at q;refine I.write (x:=l) (e:=l) (by rw[hH];exact trivial) (.inl rfl) (λb' u hb hu=>(Jt s.heap (Obj.mapSeq f) (Hy hb)).trans hu) ⟨_,q⟩ ?_
 exact⟨hz,its',_,hv,q⟩
theorem Inv.CC{t':Nat}(I:Inv X pins σ H s)(hv:Vals ys its)(hz:ys.length<=sizeLine):
  Inv X pins σ (upd H s.heap.objs.size (.lst ys)) {s with heap:=s.heap.push {cls:=.type "list",data:=.seq its.toArray},toks:=t'}:=
 I.laid (λ_ _ q=>Gk _ q) (Gs _) ⟨hz,its,0,hv,G0 _ rfl⟩
theorem Inv.fresh(I:Inv X pins σ H s):H s.heap.objs.size=none:=I.aX.fresh (Gs _)
theorem Inv.oQ(I:Inv X pins σ H s)(hH:H l=some (.lst xs)):xs.length<=sizeLine/\∃(its:List Value) (n:Nat),Vals xs its/\xs.length=its.length/\s.heap.get? l=some {cls:=.type "list",data:=.seq its.toArray n}:=by
 obtain⟨z,its,n,r,e⟩:=I.aX l _ hH;exact⟨z,its,n,r,r.length,e⟩
theorem vm{n:Nat}(h:n<=sizeLine):Builtin.List.listTooLong n=false:=by
 unfold Builtin.List.listTooLong;exact GH (by lia)
end
section
variable {X:Cx}
noncomputable def y8:V->List V->Hp->VK->Prop:=λx vs H Q=>∃l xs y,x=.ref l/\vs=[y]/\H l=some (.lst xs)/\xs.length<sizeLine/\Q .aQ (upd H l (.lst (xs++[y])))
theorem cK:EC X "list.append" y8:=by
 intro pins s σ H x vs v us Q I rx rv h;obtain⟨l,xs,y,rfl,rfl,hH,hz,q⟩:=h;cases rx;obtain⟨u,rfl,ru⟩:=rv.one;obtain⟨z,its,n,r,hl,e⟩:=I.oQ hH;refine IX F.slot_list_append ⟨_,e,rfl⟩ F.entry_list_append (F.args_list_append_2 _ _) (PySem.list_append l its.toArray n u (by rw[G4];lia)) ⟨e,?_⟩
 refine⟨.aQ,_,I.A5 (its':=its++[u]) hH e (by simp) (r.append (.cons ru .nil)) ?_,rfl,q⟩
 rw[Gr,IT];lia
noncomputable def BU:V->List V->Hp->VK->Prop:=λx vs H Q=>∃l xs i k y,x=.ref l/\vs=[.int i]/\H l=some (.lst xs)/\-(2^63)<=i/\i<2^63/\seqIndex? i xs.length=some k/\xs[k]?=some y/\Q y (upd H l (.lst (xs.eraseIdx k)))
theorem nR:EC X "list.pop" BU:=by
 intro pins s σ H x vs v us Q I rx rv h;obtain⟨l,xs,i,k,y,rfl,rfl,hH,h1,h2,hk,hy,q⟩:=h;cases rx;obtain⟨u,rfl,ru⟩:=rv.one;obtain⟨t,rfl⟩:=ru;obtain⟨z,its,n,r,hl,e⟩:=I.oQ hH;obtain⟨w,hw,rw'⟩:=r.get hy;refine IX F.slot_list_pop ⟨_,e,rfl⟩ F.entry_list_pop (F.args_list_pop_2 _ _)
  (MeetsSeq.list_pop_at l its.toArray n i t k w (Lh h1 h2) (by rw[G4,<- hl];exact hk) (by rw[<- GW];exact hw) (by rw[G4];lia)) ⟨e,?_⟩
 refine⟨y,_,I.A5 (its':=its.eraseIdx k) hH e ?_ (r.eraseIdx k) ?_,rw',q⟩
 ·show its.toArray.eraseIdxIfInBounds k=(its.eraseIdx k).toArray;rw[List.eraseIdxIfInBounds_toArray]
 ·have:=kJ xs k;lia
noncomputable def FC:R2:=λx y H Q=>∃l b xs zs,x=.ref l/\y=.ref b/\H l=some (.lst xs)/\H b=some (.lst zs)/\xs.length+zs.length<=sizeLine/\∀p,H p=none->Q (.ref p) (upd H p (.lst (xs++zs)))
theorem CI:dz X (binaryOp .Add) FC:=by
 intro pins s σ H x y v u Q I rx ry h;obtain⟨l,b,xs,zs,rfl,rfl,hH,hB,hz,q⟩:=h;cases rx;cases ry;obtain⟨z,its,n,r,hl,e⟩:=I.oQ hH;obtain⟨z2,its2,n2,r2,hl2,e2⟩:=I.oQ hB;refine PySem.P.add_list e e2 ?_ (by rw[G4,G4];lia)
 have ea:its.toArray++its2.toArray=(its++its2).toArray:=by simp
 rw[ea];exact⟨.ref _,_,I.CC (t':=s.toks) (r.append r2) (by rw[Gr];lia),rfl,q _ I.fresh⟩
noncomputable def Ef:R2:=λx y H Q=>∃l k xs,x=.ref l/\y=.int k/\H l=some (.lst xs)/\-(2^63)<=k/\k<2^63/\xs.length*k.toNat<=sizeLine /\
 ∀p,H p=none->Q (.ref p) (upd H p (.lst (List.replicate k.toNat xs).flatten))
theorem len_rep(xs:List α)(k:Nat):(List.replicate k xs).flatten.length=k*xs.length:=by
 induction k with
 |zero=>simp
 |succ k ih=>rw[Hf,Ib,Gr,ih,Jl,Nat.add_comm]
theorem BF:dz X (binaryOp .Mult) Ef:=by
 intro pins s σ H x y v u Q I rx ry h;obtain⟨l,k,xs,rfl,rfl,hH,h1,h2,hz,q⟩:=h;cases rx;obtain⟨t,rfl⟩:=ry;obtain⟨z,its,n,r,hl,e⟩:=I.oQ hH;have hlen:its.toArray.size*k.toNat<=sizeLine:=by rw[G4,<- hl];exact hz
 have hcap:¬ its.toArray.size*k.toNat >(2^63-1) / 8:=by
  have:(sizeLine:Nat)<=(2^63-1) / 8:=by decide
  lia
 have hfit:¬ (!Builtin.List.listFitsIndex k)=true:=by
  rw[Lh h1 h2];exact Gz
 have hlong:¬ Builtin.List.listTooLong (its.toArray.size*k.toNat)=true:=by
  rw[vm hlen];exact Gz
 have hnew:List.foldl (λx1 x2=>x1++x2) #[] (List.replicate (if its.toArray.isEmpty=true then 0 else k.toNat) its.toArray)=(List.replicate k.toNat its).flatten.toArray:=by
  have f0:∀m:Nat,List.foldl (λx1 x2=>x1++x2) #[] (List.replicate m its.toArray)=(List.replicate m its).flatten.toArray:=λm=>by
   have:=foldl_rep its m [];rw[HC] at this;exact this
  rw[f0]
  cases its with
  |nil=>simp
  |cons a r'=>rw[Gn (by simp)]
 refine Ku (T:="list") (U:="int") (by decide) ⟨_,e,rfl⟩ (λs'=>Kt s' k t) noFill_list_mul F.fills_int_mul F.slot_int_rmul repeat_list F.slot_int_index.lookup
  (IX F.slot_int_rmul (Kt s k t) F.entry_int_rmul (F.args_int_rmul_2 _ _) (int___rmul___int_list k t l its.toArray n)
   ⟨e,rfl,⟨_,e,rfl⟩,IX F.slot_list_mul ⟨_,e,rfl⟩ F.entry_list_mul (F.args_list_mul_2 _ _) (AutoListH.list___mul___list_int_3 l its.toArray n k t hfit hcap hlong) ⟨e,?_⟩⟩)
 rw[hnew];exact⟨.ref _,_,I.CC (t':=s.toks) (r.rep k.toNat) (by rw[len_rep,Nat.mul_comm];exact hz),rfl,q _ I.fresh⟩
end
section
variable {κ:Type} [DecidableEq κ]
noncomputable def cR(kvs:List (κ×V))(k:κ):Option V:=(kvs.find? λkv=>decide (kv.1=k)).map (·.2)
noncomputable def putK(kvs:List (κ×V))(k:κ)(v:V):List (κ×V):=
 if (kvs.any λkv=>decide (kv.1=k))=true then kvs.map (λkv=>if kv.1=k then (kv.1,v) else kv) else kvs++[(k,v)]
theorem bH{p:κ×V}{r:List (κ×V)}{k:κ}(e:p.1=k):cR (p::r) k=some p.2:=by simp[cR,Ia,e]
theorem bF{p:κ×V}{r:List (κ×V)}{k:κ}(e:¬ p.1=k):cR (p::r) k=cR r k:=by simp[cR,Ia,e]
theorem eN(k:κ):∀kvs:List (κ×V),(kvs.any λkv=>decide (kv.1=k))=(cR kvs k).isSome
 |[]=>rfl
 |p::r=>by
  rw[Jy];by_cases e:p.1=k
  ·simp only[bH e,GX e,Bool.true_or,Option.isSome_some]
  ·rw[bF e,GH e,Bool.false_or];exact eN k r
theorem nc(k j:κ)(y:V):∀kvs:List (κ×V),cR (kvs.map λkv=>if kv.1=k then (kv.1,y) else kv) j=(cR kvs j).map λx=>if j=k then y else x
 |[]=>rfl
 |p::r=>by
  have ih:=nc k j y r;rw[GV];by_cases h:p.1=k
  ·rw[Gp h];by_cases e:p.1=j
   ·rw[bH (p:=(p.1,y)) e,bH e,Jg,Gp (e.symm.trans h)]
   ·rw[bF (p:=(p.1,y)) e,bF e,ih]
  ·rw[Gn h];by_cases e:p.1=j
   ·rw[bH (p:=p) e,bH e,Jg,Gn (λz=>h (e.trans z))]
   ·rw[bF (p:=p) e,bF e,ih]
theorem kH(k j:κ)(y:V):∀kvs:List (κ×V),cR kvs k=none->cR (kvs++[(k,y)]) j=if j=k then some y else cR kvs j
 |[],_=>by
  by_cases e:k=j
  ·rw[Gp e.symm];exact bH (p:=(k,y)) e
  ·rw[Gn (λz=>e z.symm)];exact bF (p:=(k,y)) e
 |p::r,hn=>by
  rw[Ii];have hk:¬ p.1=k:=λz=>by rw[bH z] at hn;cases hn
  rw[bF hk] at hn;have ih:=kH k j y r hn;by_cases e:p.1=j
  ·rw[bH e,bH e,Gn (λz=>hk (e.trans z))]
  ·rw[bF e,bF e,ih]
theorem mX(kvs:List (κ×V))(k j:κ)(y:V):cR (putK kvs k y) j=if j=k then some y else cR kvs j:=by
 unfold putK;by_cases a:(kvs.any λkv=>decide (kv.1=k))=true
 ·rw[Gp a,nc];rw[eN] at a;by_cases e:j=k
  ·obtain⟨x,hx⟩:=Jk.mp a;rw[Gp e,e,hx,Jg,Gp rfl]
  ·rw[Gn e]
   cases cR kvs j with
   |none=>rfl
   |some x=>rw[Jg,Gn e]
 ·rw[Gn a];refine kH k j y kvs ?_;rw[eN] at a
  cases q:cR kvs k with
  |none=>rfl
  |some x=>rw[q] at a;exact (a rfl).elim
theorem fB(kvs:List (κ×V))(k:κ)(v:V):(putK kvs k v).length<=kvs.length+1:=by
 unfold putK;split
 ·rw[Gx];lia
 ·rw[Gr,GC,Hs];lia
theorem nk{kvs:List (κ×V)}{k:κ}(v:V)(h:cR kvs k=none):putK kvs k v=kvs++[(k,v)]:=by
 unfold putK;rw[eN,h];exact Gn (by decide)
theorem gc.ic{u:Option Value}(r:gc o u):o.isSome=u.isSome:=by
 cases o with
 |none=>cases u with
  |none=>rfl
  |some _=>exact (show False from r).elim
 |some _=>cases u with
  |none=>exact (show False from r).elim
  |some _=>rfl
theorem KV.val{kvs:List (κ×V)}{vs:List (κ×Value)}(r:KV kvs vs)(k:κ):gc (cR kvs k) (valueAt vs k):=by
 unfold KV at r
 induction r with
 |nil=>exact True.intro
 |@cons p q ps qs h t ih =>
  obtain⟨h1,h2⟩:=h;by_cases e:p.1=k
  ·have e':q.1=k:=h1.symm.trans e;have b:valueAt (q::qs) k=some q.2:=by simp[valueAt,Ia,e']
   rw[bH e,b];exact h2
  ·have e':¬ q.1=k:=λz=>e (h1.trans z);have b:valueAt (q::qs) k=valueAt qs k:=by simp[valueAt,Ia,e']
   rw[bF e,b];exact ih
theorem KV.any{kvs:List (κ×V)}{vs:List (κ×Value)}(r:KV kvs vs)(k:κ):(kvs.any λkv=>decide (kv.1=k))=vs.any λkv=>decide (kv.1=k):=by
 unfold KV at r
 induction r with
 |nil=>rfl
 |cons h t ih=>rw[Jy,Jy,ih,h.1]
theorem KV.Bs{kvs:List (κ×V)}{vs:List (κ×Value)}(r:KV kvs vs)(k:κ)(ry:RelV y u):
  KV (kvs.map λkv=>if kv.1=k then (kv.1,y) else kv) (vs.map λkv=>if kv.1=k then (kv.1,u) else kv):=by
 unfold KV at r ⊢
 induction r with
 |nil=>exact .nil
 |@cons p q ps qs h t ih =>
  rw[GV,GV];refine .cons ?_ ih;obtain⟨h1,h2⟩:=h;by_cases e:p.1=k
  ·rw[Gp e,Gp (h1.symm.trans e)];exact⟨h1,ry⟩
  ·rw[Gn e,Gn (λz=>e (h1.trans z))];exact⟨h1,h2⟩
theorem KV.put{kvs:List (κ×V)}{vs:List (κ×Value)}(r:KV kvs vs)(k:κ)(ry:RelV y u):KV (putK kvs k y) (stored vs k u):=by
 unfold putK stored;rw[r.any k];by_cases e:(vs.any λkv=>decide (kv.1=k))=true
 ·rw[Gp e,Gp e];exact r.Bs k ry
 ·rw[Gn e,Gn e];exact Paired.snoc r ⟨rfl,ry⟩
theorem KV.length{kvs:List (κ×V)}{vs:List (κ×Value)}(r:KV kvs vs):kvs.length=vs.length:=Paired.length r
end
theorem kT{k:Key}(r:RelV (kV k) u):(bG P w).is k u=true:=by
 cases k with
 |inl i=>obtain⟨t,e⟩:=(show ∃t,u=Value.int i t from r);subst e;exact oC P w i t
 |inr x=>obtain⟨t,e⟩:=(show ∃t,u=Value.str x t from r);subst e;exact oi P w x t
theorem jX:∀{ks:List Key} {us:List Value},Vals (ks.map kV) us->ItemsAre (bG P w) ks us
 |[],_,r=>by rw[JK] at r;cases r;exact .nil
 |k::ks,_,r=>by
  rw[GV] at r
  cases r with
  |cons h t=>exact .cons (kT h) (jX t)
abbrev KT(H:Hp):List (List Key×V)->List (List Key×Addr×Value)->Prop:=Paired λp q=>p.1=q.1/\H q.2.1=some (.tup (p.1.map kV))/\RelV p.2 q.2.2
theorem KT.val(r:KT H kvs xs)(k:List Key):gc (cR kvs k) ((atKey xs k).map (·.2)):=by
 induction r with
 |nil=>exact True.intro
 |@cons p q ps qs h t ih =>
  obtain⟨h1,_,h2⟩:=h;by_cases e:p.1=k
  ·have e':q.1=k:=h1.symm.trans e;have b:atKey (q::qs) k=some q.2:=by simp[atKey,Ia,e']
   rw[bH e,b];exact h2
  ·have e':¬ q.1=k:=λz=>e (h1.trans z);have b:atKey (q::qs) k=atKey qs k:=by simp[atKey,Ia,e']
   rw[bF e,b];exact ih
theorem KT.Bs(r:KT H kvs xs)(k:List Key)(ry:RelV y u):
  KT H (kvs.map λkv=>if kv.1=k then (kv.1,y) else kv) (xs.map (putAt k u)):=by
 induction r with
 |nil=>exact .nil
 |@cons p q ps qs h t ih =>
  rw[GV,GV];refine .cons ?_ ih;obtain⟨h1,h2,h3⟩:=h;unfold putAt;by_cases e:p.1=k
  ·rw[Gp e,Gp (h1.symm.trans e)];exact⟨h1,h2,ry⟩
  ·rw[Gn e,Gn (λz=>e (h1.trans z))];exact⟨h1,h2,h3⟩
theorem KT.put(r:KT H kvs xs)(k:List Key){b:Addr}(hb:H b=some (.tup (k.map kV)))(ry:RelV y u):
  KT H (putK kvs k y) (storedH xs k b u):=by
 have e:(kvs.any λkv=>decide (kv.1=k))=(atKey xs k).isSome:=by
  rw[eN,(r.val k).ic,Option.isSome_map]
 unfold putK storedH;rw[e];by_cases q:(atKey xs k).isSome=true
 ·rw[Gp q,Gp q];exact r.Bs k ry
 ·rw[Gn q,Gn q];exact Paired.snoc r ⟨rfl,hb,ry⟩
theorem KT.keeps(r:KT H kvs xs)(ht:∀b ys,H b=some (.tup ys)->H' b=some (.tup ys)):KT H' kvs xs:=
 Paired.vv r λ_ _ z=>⟨z.1,ht _ _ z.2.1,z.2.2⟩
section
variable {P:Program} {w:World} {H:Hp} {h:Heap} {a:Addr}
theorem Ar{u:HO}(ok:gy P w H h)(e:Rd H a u):bp P w H h a u:=e.ok ok
theorem rm{kvs:List (Key×V)}(ok:gy P w H h)(e:Rd H a (.dK kvs)):kvs.length<=sizeLine/\(a == sysModules)=false/\∃vs,KV kvs vs/\h.DictOf (bG P w) a vs:=
 show bp P w H h a (.dK kvs) from Ar ok e
theorem Ay{kvs:List (Key×V)}(ok:gy P w H h)(e:H a=some (.dK kvs)):kvs.length<=sizeLine/\(a == sysModules)=false/\∃vs,KV kvs vs/\h.DictOf (bG P w) a vs:=rm ok (.inl e)
theorem lB{ks:List Key}(ok:gy P w H h)(e:H a=some (.tup (ks.map kV))):(tupleKind (bG P w)).is h ks a:=by
 obtain⟨_,its,r,o,h1,h2,n,h3,_⟩:=(show bp P w H h a (.tup (ks.map kV)) from ok a _ e);exact⟨o,its.toArray,n,h1,h2,h3,by simpa using jX r⟩
theorem qG(ok:gy P w H h)(e:Rd H a (.dT kvs)):kvs.length<=sizeLine/\(a == sysModules)=false /\
  ∃xs,KT H kvs xs/\h.DictOfH (tupleKind (bG P w)) a xs:=by
 obtain⟨z,y,xs,r,o,es,ep,h1,h2,h3,h4,h5⟩:=(show bp P w H h a (.dT kvs) from Ar ok e);refine⟨z,y,xs,r,o,es,ep,h1,h2,h3,h4,λx hx=>?_,h5⟩;have all:∀{l:List (List Key×V)} {m:List (List Key×Addr×Value)},KT H l m->∀x∈m,(tupleKind (bG P w)).is h x.1 x.2.1:=by
  intro l m q
  induction q with
  |nil=>intro x hx;exact nomatch hx
  |@cons p q ps qs hq t ih =>
   intro x hx;rcases Gv.mp hx with e|hx
   ·subst e;exact lB ok (by rw[<- hq.1];exact hq.2.1)
   ·exact ih x hx
 exact all r x hx
theorem Dd(ok:gy P w H h)(e:H a=some (.dT kvs)):kvs.length<=sizeLine/\(a == sysModules)=false /\
  ∃xs,KT H kvs xs/\h.DictOfH (tupleKind (bG P w)) a xs:=qG ok (.inl e)
end
noncomputable def fZ(H:Hp)(a:Addr)(y:V)(r:Option V):Prop:=
 (∃kvs k,Rd H a (.dK kvs)/\y=kV k/\r=cR kvs k)\/∃kvs k b,Rd H a (.dT kvs)/\y=.ref b/\H b=some (.tup (k.map kV))/\r=cR kvs k
noncomputable def sL(H:Hp)(a:Addr)(y v:V)(H':Hp):Prop:=
 (∃kvs k,H a=some (.dK kvs)/\y=kV k/\kvs.length<sizeLine/\H'=upd H a (.dK (putK kvs k v))) \/
 ∃kvs k b,H a=some (.dT kvs)/\y=.ref b/\H b=some (.tup (k.map kV))/\kvs.length<sizeLine/\H'=upd H a (.dT (putK kvs k v))
theorem fZ.k{kvs:List (Key×V)}{k:Key}(e:H a=some (.dK kvs)):fZ H a (kV k) (cR kvs k):=.inl ⟨kvs,k,.inl e,rfl,rfl⟩
theorem sL.k{kvs:List (Key×V)}{k:Key}{v:V}(e:H a=some (.dK kvs))(hl:kvs.length<sizeLine):sL H a (kV k) v (upd H a (.dK (putK kvs k v))):=.inl ⟨kvs,k,e,rfl,hl,rfl⟩
section
variable {X:Cx} {pins:List (Addr×Obj)} {σ:St} {H:Hp} {s:Shared} {a:Addr} {y v:V} {u r:Value} {o:Option V} {A:Around} {E:Value->Shared->Prop}
theorem Inv.big(I:Inv X pins σ H s):sysModules<s.heap.objs.size:=by
 have h:mainGlobals<s.heap.objs.size:=(I.mod.glob.keeps I.bk).lt;exact JL (by decide) h
theorem tM(hu:A.units+1<cLine)(I:Inv X pins σ H s)(g:fZ H a y (some v))(ry:RelV y u)(h:∀w' s',Inv X pins σ H s'->RelV v w'->Q w' s'):
  wpAny (model X.prog X.w) A (getItem (.ref a) u) Q E s:=by
 rcases g with ⟨kvs,k,e,ey,l⟩|⟨kvs,k,b,e,ey,eb,l⟩
 ·subst ey;obtain⟨z,hd,vs,rel,dd⟩:=rm I.aX e;obtain⟨w',hw,rw'⟩:=gc.some_of (v:=v) (o:=valueAt vs k) (by rw[l];exact rel.val k)
  exact wpAny_getItem_of (kT ry) dd.mapOf hw (h w' _ (I.tok _) rw')
 ·subst ey
  cases (show u=Value.ref b from ry)
  obtain⟨z,hd,xs,rel,dd⟩:=qG I.aX e;obtain⟨w',hw,rw'⟩:=gc.some_of (v:=v) (o:=(atKey xs k).map (·.2)) (by rw[l];exact rel.val k)
  obtain⟨p,hp,hp2⟩:=GK.mp hw;refine wpAny_getItem_heap (Kg hu) (lB I.aX eb) dd hp ?_;rw[hp2];exact h w' _ (I.tok _) rw'
theorem E_(hu:A.units+1<cLine)(I:Inv X pins σ H s)(g:fZ H a y o)(ry:RelV y u)(h:∀s',Inv X pins σ H s'->Q (.bool o.isSome) s'):
  wpAny (model X.prog X.w) A (compareOp .In u (.ref a)) Q E s:=by
 rcases g with ⟨kvs,k,e,ey,l⟩|⟨kvs,k,b,e,ey,eb,l⟩
 ·subst ey;obtain⟨z,hd,vs,rel,dd⟩:=rm I.aX e;refine wpAny_in_of (kT ry) hd dd.mapOf ?_;rw[<- (rel.val k).ic,<- l];exact h _ (I.tok _)
 ·subst ey
  cases (show u=Value.ref b from ry)
  obtain⟨z,hd,xs,rel,dd⟩:=qG I.aX e;refine wpAny_in_heap (Kg hu) (lB I.aX eb) hd dd ?_;have q:=(rel.val k).ic;rw[Option.isSome_map] at q;rw[<- q,<- l];exact h _ (I.tok _)
theorem lP{h':Heap}{t':Nat}{ob:HO}(I:Inv X pins σ H s)(mu:DX (H a))(hs:Heap.SameBut a s.heap h')(he:∃q,h'.get? a=some q)(new:bp X.prog X.w (upd H a ob) h' a ob):
  Inv X pins σ (upd H a ob) {s with heap:=h',toks:=t'}:=
 I.write (x:=a) (e:=a) mu (.inl rfl) (λb q hb z=>(hs.2 b hb).trans z) he new
theorem pJ{h':Heap}{kvs:List (Key×V)}{vs:List (Key×Value)}(z:kvs.length<=sizeLine)(hd:(a == sysModules)=false)(rel:KV kvs vs)(dd:h'.DictOf (bG P w) a vs):
  bp P w H' h' a (.dK kvs):=⟨z,hd,vs,rel,dd⟩
theorem su{Q:Unit->Shared->Prop}(hu:A.units+1<cLine)(I:Inv X pins σ H s)(g:sL H a y v H')(ry:RelV y u)(rv:RelV v r)(h:∀s',Inv X pins σ H' s'->Q () s'):
  wpAny (model X.prog X.w) A (setItem (.ref a) u r) Q E s:=by
 rcases g with ⟨kvs,k,e,ey,l,eH⟩|⟨kvs,k,b,e,ey,eb,l,eH⟩
 ·subst ey eH;obtain⟨z,hd,vs,rel,dd⟩:=Ay I.aX e;have hz:vs.length<=sizeLine:=by rw[<- rel.length];exact z
  have hl:(putK kvs k v).length<=sizeLine:=by have:=fB kvs k v;lia
  refine wpAny_setItem_pairs (hsz:=hz) (kT ry) dd λh' dd' hs=>h _ ?_;have he:∃q,h'.get? a=some q:=let ⟨q,_,_,hq,_⟩:=dd';⟨q,hq⟩
  exact lP I (by rw[e];exact True.intro) hs he (pJ hl hd (rel.put k rv) dd')
 ·subst ey eH
  cases (show u=Value.ref b from ry)
  obtain⟨z,hd,xs,rel,dd⟩:=Dd I.aX e;have hz:xs.length<=sizeLine:=by rw[<- Paired.length rel];exact z
  have hl:(putK kvs k v).length<=sizeLine:=by have:=fB kvs k v;lia
  refine wpAny_setItem_heap (hsz:=hz) (Kg hu) (lB I.aX eb) dd λh' dd' hs=>h _ ?_;obtain⟨q,es,ep,hq,h2,h3,h4,_,h5⟩:=dd';refine lP I (by rw[e];exact True.intro) hs ⟨q,hq⟩ ⟨hl,hd,_,(rel.put k eb rv).keeps λc ys ec=>?_,q,es,ep,hq,h2,h3,h4,h5⟩
  rw[ae (CZ ec e (λz=>nomatch z))];exact ec
end
noncomputable def vR(i:Expr):Prop:=∀ov iv,subscripted i false ov iv=operate [ov,iv] (getItem ov iv)
theorem rB{prog:Program}{A:Around}{E:Value->Shared->Prop}{s:Shared}{env:Env}{value slice:Expr}{pos:Pos}{T id:String}
  (hl:typeLookup (.type T) "__getitem__"=pure (some (.builtin id))) (hs:vR slice)
  (h:wpAny (model prog w) A (eval value env) (λo s₁=>wpAny (model prog w) A (eval slice env) (λi s₂=>s₂.TypeIs o T/\wpAny (model prog w) A (getItem o i) Q E s₂) E s₁) E s) :
  wpAny (model prog w) A (eval (.Subscript value slice pos) env) Q E s:=by
 refine Subscript_ (Hn h (λo s₁ h₁=>Hn h₁ (λi s₂ h₂=>?_) λ_ _ x=>x) λ_ _ x=>x);obtain⟨hT,h₂⟩:=h₂;unfold subscriptTail;refine Gj ?_;rw[getitemInPython_of_ne hT.not_modules];refine Gj (wpAny_specialOf hT hl ?_);have fin:wpAny (model prog w) A (subscripted slice false o i) (λr s₃=>wpAny (model prog w) A (letTemporaryGo value o r >>= λ_=>pure r) Q E s₃) E s₂:=by
  rw[hs o i];exact wpAny_operating (Hn h₂ (λr s₃ h₃=>Gj (wpAny_letTemporaryGo (Gu h₃))) λ_ _ x=>x)
 first
  |exact Gu (Gj fin)
  |exact Gj (Gu (Gj fin))
  |exact Gj fin
theorem oB{s:Shared}(I:Inv X pins σ H s)(g:fZ H a y o):s.TypeIs (.ref a) "dict":=by
 rcases g with ⟨kvs,k,e,_,_⟩|⟨kvs,k,b,e,_,_,_⟩
 ·obtain⟨_,_,vs,_,dd⟩:=rm I.aX e;exact dd.typeIs
 ·obtain⟨_,_,xs,_,dd⟩:=qG I.aX e;exact dd.typeIs
noncomputable def nW(td ty:TE):TE:=λσ H Q=>td σ H λx H1=>ty σ H1 λy H2=>∃a v,x=.ref a/\fZ H2 a y (some v)/\Q v H2
noncomputable def nK(td ty tv:TE):TS:=λD σ H=>tv σ H λv H1=>td σ H1 λx H2=>ty σ H2 λy H3=>∃a H4,x=.ref a/\sL H3 a y v H4/\D.nx σ H4
section
variable {X:Cx} {o i e value:Expr} {pos pos' tpos:Pos} {td ty tv:TE}
theorem zD(hu:X.A.units+1<cLine)(ho:PE X o td)(hi:PE X i ty)(hs:vR i):PE X (.Subscript o i pos) (nW td ty):=by
 intro pins s σ H Q I h;refine rB PySem.F.slot_dict_getitem.lookup hs (bL (ho pins s σ H _ I h) λu s1 ⟨x,H1,I1,rx,q1⟩=>bL (hi pins s1 σ H1 _ I1 q1) λiv s2 hq55=>?_);obtain⟨y,H2,I2,ry,a,v,ex,g,q2⟩:=hq55;subst ex;obtain rfl:u=Value.ref a:=rx;exact⟨oB I2 g,tM hu I2 g ry λw' s3 I3 rw'=>⟨v,H2,I3,rw',q2⟩⟩
theorem yU(hu:X.A.units+1<cLine)(ho:PE X o td)(hi:PE X i ty)(hv:PE X value tv)(hs:swapsWith value (some (.Subscript o i pos')) pos.line X.env=pure false):
  PS X (.Assign [.Subscript o i pos'] value pos) (nK td ty tv):=by
 intro pins s σ H D I h;refine wpAny_Assign_Subscript (bL (hv pins s σ H _ I h) λr s1 ⟨v,H1,I1,rv,q1⟩=>bL (ho pins s1 σ H1 _ I1 q1) λu s2 ⟨x,H2,I2,rx,q2⟩=>bL (hi pins s2 σ H2 _ I2 q2) λiv s3 hq58=>?_) hs;obtain⟨y,H3,I3,ry,a,H4,ex,g,q3⟩:=hq58;subst ex;obtain rfl:u=Value.ref a:=rx;exact su hu I3 g ry rv λs4 I4=>⟨σ,H4,I4,q3⟩
end
theorem ou(h:Heap)(hb:sysModules<h.objs.size):bp P w H (h.push {cls:=.type "dict",data:=.dict #[]}) h.objs.size (.dK []):=
 ⟨GF _,G_.mpr (Hy (GD hb)),[],.nil,Heap.DictOf.new h⟩
noncomputable def jw:TE:=λ_ H Q=>∀p,H p=none->Q (.ref p) (upd H p (.dK []))
section
variable {X:Cx} {pos:Pos}
theorem vf:PE X (.Dict [] [] pos) jw:=λpins s σ H Q I h =>
 wpAny_Dict_empty ⟨.ref s.heap.objs.size,_,I.laid (a:=s.heap.objs.size) (o:=.dK []) (t':=s.toks) (λ_ _ q=>Gk _ q) (Gs _) (ou s.heap I.big),rfl,h _ (I.aX.fresh (Gs _))⟩
end
noncomputable def gu:List (TE×TE)->St->Hp->(List (V×V)->Hp->Prop)->Prop
 |[],_,H,Q=>Q [] H
 | (tk,tv)::r,σ,H,Q=>tk σ H λx H1=>tv σ H1 λy H2=>gu r σ H2 λps H3=>Q ((x,y)::ps) H3
abbrev VV:List (V×V)->List (Value×Value)->Prop:=Paired λp q=>RelV p.1 q.1/\RelV p.2 q.2
noncomputable def DJ(X:Cx)(pos:Pos)(keys:List (Option Expr))(values:List Expr)(trs:List (TE×TE)):Prop:=
 ∀(pins:List (Addr×Obj)) (s:Shared) (σ:St) (H:Hp) (Q:List (V×V)->Hp->Prop),Inv X pins σ H s->gu trs σ H Q ->
  wpAny (model X.prog X.w) X.A (evalPairs (pairTrees keys values X.env pos)) (λvs s'=>∃ps H',Inv X pins σ H' s'/\VV ps vs/\Q ps H') X.xe s
theorem zi{pos:Pos}:DJ X pos [] [] []:=λpins s σ H Q I h=>pairTrees_nil_walk ⟨[],H,I,.nil,h⟩
theorem uD{pos:Pos}{k v:Expr}{ks:List (Option Expr)}{vs:List Expr}{tk tv:TE}(hk:PE X k tk)(hv:PE X v tv)(hr:DJ X pos ks vs trs):
  DJ X pos (some k::ks) (v::vs) ((tk,tv)::trs):=λpins s σ H Q I h =>
 pairTrees_cons_walk (bL (hk pins s σ H _ I h) λu s1 ⟨x,H1,I1,rx,q1⟩=>bL (hv pins s1 σ H1 _ I1 q1) λw2 s2 ⟨y,H2,I2,ry,q2⟩=>
  bL (hr pins s2 σ H2 _ I2 q2) λws s3 ⟨ps,H3,I3,rel,q3⟩=>⟨(x,y)::ps,H3,I3,.cons ⟨rx,ry⟩ rel,q3⟩)
noncomputable def cB(kvs more:List (Key×V)):List (Key×V):=more.foldl (λacc kv=>putK acc kv.1 kv.2) kvs
theorem KV.merge:∀{more:List (Key×V)} {rs:List (Key×Value)} {kvs:List (Key×V)} {vs:List (Key×Value)},KV more rs->KV kvs vs->KV (cB kvs more) (merged vs rs):=by
 intro more rs kvs vs r;unfold KV at r
 induction r generalizing kvs vs with
 |nil=>intro q;exact q
 |@cons p q ps qs h t ih =>
  intro r0;have e:KV (putK kvs p.1 p.2) (stored vs q.1 q.2):=by
   have:=r0.put p.1 h.2;rw[<- h.1];exact this
  exact ih e
theorem e8:∀(more kvs:List (Key×V)),(cB kvs more).length<=kvs.length+more.length
 |[],kvs=>by show kvs.length<=kvs.length+0;lia
 |p::r,kvs=>by
  have h1:=e8 r (putK kvs p.1 p.2);have h2:=fB kvs p.1 p.2;show (cB (putK kvs p.1 p.2) r).length<=_;rw[GC];lia
theorem jb{P:Program}{w:World}:∀{kvs:List (Key×V)} {ws:List (Value×Value)},VV (kvs.map λkv=>(kV kv.1,kv.2)) ws->∃rs,Carries (bG P w) ws rs/\KV kvs rs
 |[],_,r=>by rw[JK] at r;cases r;exact⟨[],True.intro,.nil⟩
 |p::kvs,_,r=>by
  rw[GV] at r
  cases r with
  |@cons a b as bs h t =>
   obtain⟨rs,c,q⟩:=jb (P:=P) (w:=w) t;obtain⟨b1,b2⟩:=b;exact⟨(p.1,b2)::rs,⟨kT h.1,rfl,c⟩,.cons ⟨rfl,h.2⟩ q⟩
noncomputable def nr(trs:List (TE×TE)):TE:=λσ H Q=>∀p,H p=none->gu trs σ (upd H p (.dK [])) λps H2=>H2 p=some (.dK [])/\∃kvs:List (Key×V),ps=kvs.map (λkv=>(kV kv.1,kv.2))/\kvs.length<=15/\Q (.ref p) (upd H2 p (.dK (cB [] kvs)))
theorem y6{pos:Pos}{keys:List (Option Expr)}{values:List Expr}(h:DJ X pos keys values trs)(hall:keys.all (·.isSome)=true)(hl:keys.length=values.length)(h0:keys≠[])
  (h15:keys.length<=15):PE X (.Dict keys values pos) (nr trs):=by
 intro pins s σ H Q I q;have hn:=I.aX.fresh (Gs s.heap.objs.size);have I1:=I.laid (a:=s.heap.objs.size) (o:=.dK []) (h':=s.heap.push {cls:=.type "dict",data:=.dict #[]}) (t':=s.toks) (λ_ _ q=>Gk _ q) (Gs _) (ou s.heap I.big);refine wpAny_Dict_walk (knd:=bG X.prog X.w) hall hl h0 h15 (bL (h pins _ σ _ _ I1 (q _ hn)) λws s2 hq62=>?_);obtain⟨ps,H2,I2,rel,e,kvs,ep,lk,q2⟩:=hq62;subst ep;obtain⟨rs,c,rk⟩:=jb (P:=X.prog) (w:=X.w) rel;obtain⟨z,hd,vs0,r0,dd⟩:=Ay I2.aX e;cases r0;refine⟨rs,c,dd,λh' dd' hs=>⟨.ref s.heap.objs.size,_,?_,rfl,q2⟩⟩;have hz:(cB [] kvs).length<=sizeLine:=by
  have h1:=e8 kvs [];rw[Hs] at h1;rw[Hz];lia
 have he:∃q,h'.get? s.heap.objs.size=some q:=let ⟨q,_,_,hq,_⟩:=dd';⟨q,hq⟩
 exact lP I2 (by rw[e];exact True.intro) hs he (pJ hz hd (rk.merge .nil) dd')
end L2
namespace Att
open PySem PySem.W PySem.Calls PyProof.Rows
theorem iH{P:Params}{h:Heap}:∀(ns:List Int) (vs:List Value),WellAll P h vs (ns.map WData.int)->IntsAre vs ns:=by
 intro ns
 induction ns with
 |nil =>
  intro vs w;rw[List.map_nil] at w;cases w;exact .nil
 |cons n ns ih =>
  intro vs w;rw[List.map_cons] at w
  cases w with
  |cons a b =>
   cases a;exact .cons _ _ (ih _ b)
theorem rM{l:OpenLaw}{n:Nat}(hn:l.most=some n){P:Params}{h:Heap}{args:List WData}{vals:List Value}
  (hpre:l.row.toRowW.claim.pre args=true) (hwl:WellAll P h vals args) :
  ∃a vs ns,vals=[Value.ref a]/\args=[WData.list (ns.map WData.int)]/\h.get? a=some {cls:=.type "list",data:=.seq vs.toArray}/\IntsAre vs ns/\ns.length<=n:=by
 have hsh:WShape.hasAll [] args [.list .int]=true:=(pre_splitW hpre).1;have hc:l.pre.holds [] {args:=args}=true:=(pre_splitW hpre).2;obtain⟨d,r,rfl,h1,h2⟩:=hasAllW_cons hsh;obtain rfl:=hasAllW_nil h2;obtain⟨xs,rfl,h3⟩:=hasW_list h1;obtain⟨ns,rfl⟩:=items_int h3;have hlen:ns.length<=n:=by
  unfold OpenLaw.pre at hc;have h4:(WTm.not (.lt (.lit (.int (n:Int))) (.len (.arg 0)))).holds [] {args:=[.list (ns.map .int)]}=true:=by
   have h4:=(holds_andW hc).1;rw[hn] at h4;exact h4
  have h5:=condW_of h4 (w_not (w_lt w_lit (w_len_list (w_arg rfl))));rw[List.length_map] at h5;refine Nat.le_of_not_lt λq=>?_;have q':(n:Int)<((ns.length:Nat):Int):=by lia
  first
   | (rw[decide_eq_true q'] at h5;exact absurd h5 (by decide))
   | (simp at h5;lia)
 cases hwl with
 |cons w1 w2 =>
  cases w2
  cases w1 with
  |list ho hall=>exact⟨_,_,ns,rfl,rfl,ho,iH ns _ hall,hlen⟩
theorem sf(l:OpenLaw)(args:List WData):l.row.toRowW.claim.post args (.bool true) args=true:=
 postW_of (r:=l.row.toRowW) (X:=(true == true))
  (show WShape.has [] (.bool true) .bool=true by first|rfl|decide|simp[WShape.has,WShape.arms,WShape.armsAll])
  (show (WTm.eq .res (.lit (.bool true))).value [] {args:=args,res:=some (.bool true),after:=args}=some (.bool (true == true)) from w_eq_bool (w_res rfl) w_lit) rfl
theorem nE{l:OpenLaw}{n:Nat}{q:Program}{loose:List Str}{XP:(Str->Option Value)->Heap->Prop}{YP:World->Heap->Prop}{d:DefRec}
  (hn:l.most=some n) (hdf:d.params.defaults=[])
  (call:∀(w:World) (s₀ s₁:Shared) (mg mb:Str->Option Value) (fa:Addr) (o:Obj) (pm cd doc:Value) (a:Addr) (vs:List Value) (ns:List Int),
   Ground q loose [] XP w s₀ mg mb s₁.heap->YP w s₁.heap ->
   s₁.heap.get? fa=some o->o.data=.func (docDef d.name d.params d.body d.scope pm cd doc)->s₁.heap.CodeRec cd d.name->mg d.name=some (.ref fa) ->
   s₁.heap.get? a=some {cls:=.type "list",data:=.seq vs.toArray}->IntsAre vs ns->ns.length<=n->s₁.gens=#[] ->
   codeAny (model l.prog w) callerA (.call (.ref fa) ⟨[.ref a],[]⟩) (λr s'=>r=.ok (.ret (.bool true))/\OldK s₁.heap s'.heap/\s'.os=s₁.os/\AllBare s'.gens) s₁) :
  WalkO q loose XP YP l.row.toRowW d [] (λf vs=>PySem.call f vs):=by
 intro w s₀ s₁ mg mb G Y fa o pm cd doc dV kV ho hd gz hD hmg hg args vals as hpre hlay hrd hwl hlo;obtain rfl:dV=.none:=Dflts.none hD hdf;obtain rfl:kV=.none:=Dflts.noKw hD;obtain⟨a,vs,ns,rfl,rfl,hobj,hints,hlen⟩:=rM hn hpre hwl;refine enter_call (codeAny_mono (call w s₀ s₁ mg mb fa o pm cd doc a vs ns G Y ho (fd_plain hd) gz hmg hobj hints hlen hg) λr s' hq=>?_);obtain⟨rfl,h2,h3,h4⟩:=hq;exact⟨.inl ⟨.bool true,.bool true,[],rfl,λ_=>rfl,.bool true,sf l _,λ_=>⟨List.Pairwise.nil,λ_ hm=>(nomatch hm)⟩⟩,h2,h3,h4⟩
end Att
namespace L2
open PySem PySem.Spec PyProof.Rows
variable{P prog q:Program}{K:LA}{N ON loose own:List Str}{mb mg:Str->Option Value}{base h:Heap}{b e elt iter tg:Expr}{o:HO}{t:String}{w:World}{CX:nY}{a f i1 i2 it l1 l2 p z:Addr}{fd:FuncData}{qual x:Str}{sp:Sp}{ns:List Int}{X:Cx}{st:Stmt}{osc scope:Scope}{env:Env}{cells:List (Str×Addr)}{α:Type}{E Q:Value->Shared->Prop}{es ifs:List Expr}{g:TG}{tc:TT}{te tl:TE}{pins:List (Addr×Obj)}{σ:St}{H H':Hp}{RR:Value->Addr->Result->Shared->Prop}{i j:Nat}{r:List V->Hp->VK->Prop}{ta:TA}{xs:List V}{items:Array Value}{ex fp:List Addr}{tp:Pos}{lo:Int}{P1 P2:Nat->Value->Prop}{S1 S2:Nat->Heap->Prop}
theorem kD:∀{vs:List Value} {ns:List Int},IntsAre vs ns->Vals (ns.map V.int) vs
 |_,_,.nil=>.nil
 |_,_,.cons n t h=>.cons ⟨t,rfl⟩ (kD h)
structure gX (q:Program) (K:LA):Prop where
 nt:PySem.W.noTabs K=true
 nd:((bV K).map (·.2.1)).Nodup
 fd:∀x∈dJ,PySem.W.tabIn K x=none\/((recsOf q).find? (λe=>e.name == x)).isSome=true
theorem gX.at{mean:ExcName->Option Value}(L:gX q K)(T:Top q loose mean mg mb h)(X:K.In h):∀t∈bV K,PySem.W.CodeHd h t.1 t.2.1/\h.get? t.2.1=some (PySem.W.tabObj #[]):=λt ht=>by
 unfold bV at ht;obtain⟨x,hx,e⟩:=Jj.mp ht;obtain⟨p,e1,e2⟩:=GK.mp e;obtain⟨c,Pt⟩:=p;subst e2;rcases L.fd x hx with z|z
 ·rw[z] at e1;cases e1
 ·obtain⟨d,hd⟩:=Jk.mp z;exact PySem.W.tab_of T X hd e1
noncomputable def lR:List (Addr×Addr×Str)->Addr->Option HO
 |[],_=>none
 |t::r,b=>if b=t.2.1 then some (.uF #[.str t.2.2 0]) else lR r b
theorem fY{b:Addr}:∀{l:List (Addr×Addr×Str)},lR l b=some o->∃t∈l,b=t.2.1/\o=.uF #[.str t.2.2 0]
 |t::r,e=>by
  unfold lR at e;by_cases z:b=t.2.1
  ·rw[Gp z] at e;cases e;exact⟨t,.head _,z,rfl⟩
  ·rw[Gn z] at e;obtain⟨u,hu,q⟩:=fY e;exact⟨u,.tail _ hu,q⟩
theorem oa{t:Addr×Addr×Str}:∀{l:List (Addr×Addr×Str)},(l.map (·.2.1)).Nodup->t∈l->lR l t.2.1=some (.uF #[.str t.2.2 0])
 |u::r,nd,m=>by
  obtain⟨n1,n2⟩:=IK.mp nd;unfold lR;rcases Gv.mp m with rfl|m
  ·rw[Gp rfl]
  ·rw[Gn λz=>n1 (HP.mpr ⟨t,m,z⟩)];exact oa n2 m
theorem uf{k:Nat}{fa:Addr}{s₁:Shared}{vs:List Value}
  (KX:K.In s₁.heap) (hns:s₁.heap.Ns mainGlobals mg) (hb:s₁.heap.Ns builtinsNs mb) (hbb:∀x:Str,x≠"__name__"->mb x=bootBuiltins x) (hlim:s₁.heap.NoLimit) (hbm:BR mg s₁.heap)
  (hT:∀t∈bV K,PySem.W.CodeHd s₁.heap t.1 t.2.1/\s₁.heap.get? t.2.1=some (PySem.W.tabObj #[])) (L:gX q K) (hg:s₁.gens=#[])
  (ha:s₁.heap.get? a=some {cls:=.type "list",data:=.seq vs.toArray}) (hi:IntsAre vs ns) (hl:ns.length<=sizeLine) (hr:bE k callerA)
  (F:∀base:Heap,K.In base->base.Ns mainGlobals mg->cC P w K mg base CX k fa fd [x] sp) (hbind:∀(s:Shared) (u:Value),BindsTo s fd ⟨[u],[]⟩ [(x,u)])
  (hsp:∀H:Hp,True->bZ K H a (ns.map V.int)->sp [.ref a] H (λv _=>v=.bl true) λ_ _ _=>False)
  (hCX:∀H e s',CX [] H s₁ (λ_ _ _=>False) e s'->False) :
  codeAny (model P w) callerA (.call (.ref fa) ⟨[.ref a],[]⟩) (λr s'=>r=.ok (.ret (.bool true))/\OldK s₁.heap s'.heap/\s'.os=s₁.os/\AllBare s'.gens) s₁:=by
 have rv:=kD hi;have lenV:=hi.length;have naT:∀t∈bV K,t.2.1≠a:=λt ht z=>by
  have e:=(hT t ht).2;rw[z,ha] at e;cases e
 let oS:Obj:={cls:=.type "list",data:=.seq vs.toArray}
 have core:∀S:Option HO,(S=none\/S=some (.hZ oS (.lst (ns.map V.int))))->(S≠none->K.lookup a=none)->bZ K (λb=>if b=a then S else lR (bV K) b) a (ns.map V.int) ->
   codeAny (model P w) callerA (.call (.ref fa) ⟨[.ref a],[]⟩) (λr s'=>r=.ok (.ret (.bool true))/\OldK s₁.heap s'.heap/\s'.os=s₁.os/\AllBare s'.gens) s₁:=by
  intro S hS hK hSq;generalize hH:(λb=>if b=a then S else lR (bV K) b)=H at hSq
  have hA:H a=S:=by rw[<- hH];exact Gp rfl
  have hB:∀b,b≠a->H b=lR (bV K) b:=λb z=>by rw[<- hH];exact Gn z
  have free:∀{b:Addr} {o:Obj},s₁.heap.get? b=some o->o≠PySem.W.tabObj #[]->(b=a->S=none)->H b=none:=λ{b o} e hn hz=>by
   by_cases z:b=a
   ·rw[z,hA];exact hz z
   ·rw[hB b z]
    cases q:lR (bV K) b with
    |none=>rfl
    |some u =>
     obtain⟨t,ht,e1,_⟩:=fY q;have e2:=(hT t ht).2;rw[<- e1,e] at e2;exact absurd (Option.some.inj e2) hn
  have nsK:∀{b:Addr} {m:Str->Option Value},s₁.heap.Ns b m->(jW s₁.heap H).Ns b m:=λ{b m} ⟨o,es,ep,e,d,r⟩=>⟨o,es,ep,gW e (free e (λz=>by rw[z] at d;cases d) λz=>by rw[z,ha] at e;cases e;cases d),d,r⟩
  have hKb:K.In (jW s₁.heap H):=λb o e=>gW (KX b o e) (free (KX b o e) (λz=>by
    have h2:=K4.mp L.nt (b,o) (PySem.W.mem_of_lookupK e);subst z;exact absurd (show false=true from h2) Gz) λz=>by
    cases q:S with
    |none=>rfl
    |some u=>rw[z,hK (by rw[q];simp)] at e;cases e)
  have gz:∀t∈bV K,PySem.W.CodeHd (jW s₁.heap H) t.1 t.2.1:=λt ht=>by
   obtain⟨o,us,fl,tf,fg,tg,inF,tx,tt,e1,e2,r⟩:=(hT t ht).1;exact⟨o,us,fl,tf,fg,tg,inF,tx,tt,gW e1 (free e1 (λz=>by rw[z] at e2;cases e2) λz=>by rw[z,ha] at e1;cases e1;exact absurd (Value.type.inj e2) (by decide)),e2,r⟩
  have hbm':BR mg (jW s₁.heap H):=by
   obtain⟨bm,ob,b1,b2,b3,b4,b5⟩:=hbm;exact⟨bm,ob,b1,b2,gW b3 (free b3 (λz=>by rw[z] at b4;cases b4) λz=>by rw[z,ha] at b3;cases b3;exact absurd (Value.type.inj b4) (by decide)),b4,b5⟩
  have aX:gy P w H s₁.heap:=λb u e=>by
   by_cases z:b=a
   ·rw[z,hA] at e;rcases hS with h0|h0
    ·rw[h0] at e;cases e
    ·rw[h0] at e;cases e;subst z;exact⟨ha,by rw[Gx];exact hl,vs,_,rv,ha⟩
   ·rw[hB b z] at e;obtain⟨t,ht,e1,e2⟩:=fY e;subst e2;exact⟨#[],by rw[e1];exact (hT t ht).2,trivial,λpos cv c=>by cases (show (none:Option Value)=some cv from c)⟩
  have hM:Mod K mg (jW s₁.heap H):=⟨hKb,nsK hns,⟨mb,nsK hb,hbb⟩,let ⟨mc,h1,h2⟩:=hlim;⟨mc,nsK h1,h2⟩,gz,hbm'⟩
  have e0:p8 P w K mg (jW s₁.heap H) callerA [] s₁ H:=⟨rfl,hM,λb o e=>yv e,K2 (tR _ _),trivial,λb hb=>absurd (show b∈([]:List Addr) from hb) (by simp),aX,.of_eq hg,λt ht=>⟨#[],by
   rw[hB _ (naT t ht),oa L.nd ht,Kh]⟩⟩
  refine Lr ((F _ hKb (nsK hns)).run callerA [] s₁ H ⟨[.ref a],[]⟩ [.ref a] [.ref a] _ _ hr e0 (hbind s₁ (.ref a)) (.cons rfl .nil) (hsp H trivial hSq)) λr s' h=>?_
  cases r with
  |error e=>exact (hCX H e s' h).elim
  |ok fl =>
   cases fl with
   |next=>exact False.elim h
   |brk=>exact False.elim h
   |cont=>exact False.elim h
   |ret u =>
    obtain⟨v,H',os,bare,un,hok',r',qv⟩:=h;have q':v=.bl true:=qv;subst q';obtain rfl:u=Value.bool true:=r';have each:∀b o,s₁.heap.get? b=some o->s'.heap.get? b=some o\/∃c,PySem.W.CodeHd s₁.heap c b/\o=PySem.W.tabObj #[]/\∃ps,s'.heap.get? b=some (PySem.W.tabObj ps):=λb o e=>by
     cases qb:H b with
     |none=>exact .inl (un.keep b o e qb (by intro z;exact absurd (show b∈([]:List Addr) from z) (by simp)) (by simp))
     |some u =>
      by_cases z:b=a
      ·rw[z,hA] at qb;rcases hS with h0|h0
       ·rw[h0] at qb;cases qb
       ·have z2:=un.lX a oS _ (by rw[hA,h0])
        obtain⟨e2,_⟩:=hok' a _ z2;rw[z,ha] at e;cases e;exact .inl (by rw[z];exact e2)
      ·have qt:=qb;rw[hB b z] at qt;obtain⟨t,ht,e1,e2⟩:=fY qt;obtain⟨h1,h2⟩:=hT t ht;rw[<- e1] at h1 h2;rw[e] at h2;cases h2;subst e2;obtain⟨more,e3⟩:=un.jT b _ qb;obtain⟨qs,e4,_⟩:=hok' b _ e3;exact .inr ⟨_,h1,rfl,qs,e4⟩
    refine⟨rfl,⟨λb o e=>?_,λb o e=>?_⟩,os,bare⟩
    ·rcases each b o e with z|⟨c,hc,z,ps,hp⟩
     ·exact .inl z
     ·subst z;exact .inr (.inl ⟨(hc.tab e).isCodeTable,rfl,#[],ps,rfl,by rw[Array.empty_append];exact hp⟩)
    ·rcases each b o e with z|⟨c,hc,z,ps,hp⟩
     ·exact⟨o,z⟩
     ·exact⟨_,hp⟩
 cases hk:K.lookup a with
 |some o =>
  have e:=KX a o hk;rw[ha] at e;cases e;exact core none (.inl rfl) (λz=>absurd rfl z) (.inr ⟨_,vs.toArray,_,hk,rfl,rfl,rfl,by rw[G4,lenV];exact hl,by simpa using rv⟩)
 |none=>exact core (some (.hZ oS (.lst (ns.map V.int)))) (.inr rfl) (λ_=>hk) (.inl (.inr ⟨oS,Gp rfl⟩))
theorem yi{l:PySem.W.OpenLaw}{n k:Nat}{XP:(Str->Option Value)->Heap->Prop}{YP:World->Heap->Prop}{d:DefRec}{K:Params->LA}{CX:World->nY}{sp:World->Sp}
  (hn:l.most=some n) (hn2:n<=sizeLine) (hdf:d.params.defaults=[]) (hr:bE k callerA)
  (hY:∀(w:World) (h:Heap),YP w h->(K w.params).In h)
  (F:∀(w:World) (mg:Str->Option Value) (fa:Addr) (h:Heap),(K w.params).In h->h.Ns mainGlobals mg->mg d.name=some (.ref fa) ->
   ∃fd:FuncData,(∀(s:Shared) (u:Value),BindsTo s fd ⟨[u],[]⟩ [(x,u)]) /\
    ∀base:Heap,(K w.params).In base->base.Ns mainGlobals mg->cC l.prog w (K w.params) mg base (CX w) k fa fd [x] (sp w))
  (hsp:∀(w:World) (H:Hp) (a:Addr) (ns:List Int),ns.length<=n->True->bZ (K w.params) H a (ns.map V.int)->sp w [.ref a] H (λv _=>v=.bl true) λ_ _ _=>False)
  (hCX:∀(w:World) (H:Hp) (s:Shared) (e:Value) (s':Shared),CX w [] H s (λ_ _ _=>False) e s'->False) (hL:∀(w:World) (h:Heap),(K w.params).In h->gX q (K w.params)) :
  PySem.W.WalkO q loose XP YP l.row.toRowW d [] (λf vs=>PySem.call f vs):=by
 refine Att.nE hn hdf λw s₀ s₁ mg mb fa o pm cd doc a vs ns G Y ho hd gz hmg hobj hints hlen hg=>?_;have KX:=hY w _ Y;obtain⟨fd,hb,hF⟩:=F w mg fa _ KX G.T.g hmg;have L:=hL w _ KX;exact uf KX G.T.g G.T.b G.T.builtins G.T.nolimit G.T.bmain (L.at G.T KX) L hg hobj hints (Gw hlen hn2) hr hF hb (λH hO hS=>hsp w H a ns hlen hO hS) λH e s'=>hCX w H s₁ e s'
noncomputable def inClass(s:Stmt)(j:Nat):Stmt:=match s with
 |.ClassDef _ _ _ body _ _ _ _ _ _ _=>body.getD j (.Pass ⟨0,0,0,0⟩)
 |_=>.Pass ⟨0,0,0,0⟩
noncomputable def bM(s:Stmt):Arguments:=match s with
 |.FunctionDef _ a _ _ _ _ _ _ _ _=>a
 |_=>{posonlyargs:=[],args:=[],vararg:=none,kwonlyargs:=[],kw_defaults:=[],kwarg:=none,defaults:=[]}
noncomputable def aS(s:Stmt):List Stmt:=match s with
 |.FunctionDef _ _ b _ _ _ _ _ _ _=>b
 |_=>[]
noncomputable def af(s:Stmt):Scope:=match s with
 |.FunctionDef _ _ _ _ _ _ sc _ _ _=>sc
 |_=>{kind:=.function,names:=[],isGenerator:=false,isCoroutine:=false}
abbrev bf:nY:=λ_ _ _ _ _ _=>False
abbrev E0:XK:=λ_ _ _=>False
theorem au:Passes bf X E0:=λ_ _ _ _ _ _ _ h=>h.elim
structure jz (K:LA) (x qual:Str) (st:Stmt) (f:Addr) (fd:FuncData):Prop where
 ex:∃(oc:Value) (od:Option Addr) (kV doc pm:Value) (an:Option Addr) (cdv ct:Value) (osl:Array (Option Value)),
  fd=PySem.W.fnOf x qual (bM st) (aS st) (af st) .none kV doc pm an cdv ct/\K.lookup f=some ⟨oc,od,.func fd,osl⟩/\PySem.W.codeIn K cdv qual=true
 kp:PySem.W.keepIn K (.ref f)=true
section
variable {P:Program} {w:World} {K:LA} {mg:Str->Option Value} {base:Heap}
theorem jz.ok{ps:List Str}{k:Nat}(F:jz K x qual st f fd)(S:av N ps (af st))(len:∀vs H Q E,sp vs H Q E->vs.length=ps.length)
  (hbody:∀(cdv:Value) (A:Around) (outer:List Env) (s:Shared) (H:Hp) (vs:List V) (Q:VK) (E:XK),bE k (A.deeper (envOfC qual (af st) s.heap.objs.size f cdv))->sp vs H Q E ->
   ∃t,oY (fC bf P w K mg base N qual (af st) f cdv A outer s H E).oJ (aS st) t/\t {nx:=λ_ H'=>Q .aQ H',rt:=Q} (start N vs) H):cC P w K mg base bf (k+1) f fd ps sp:=by
 obtain⟨oc,od,kV,doc,pm,an,cdv,ct,osl,rfl,lk,gz⟩:=F.ex;refine zZ lk gz S len λA outer s H vs Q E hr hsp=>?_;obtain⟨t,h,q⟩:=hbody cdv A outer s H vs Q E hr hsp;exact⟨t,h.oJ,q⟩
theorem jz.binds{ps:List Str}(F:jz K x qual st f fd)
  (h:∀(kV doc pm:Value) (an:Option Addr) (cdv ct:Value) (us:List Value),us.length=ps.length->bindArgs (PySem.W.fnOf x qual (bM st) (aS st) (af st) .none kV doc pm an cdv ct) ⟨us,[]⟩=pure (ps.zip us)):Binds K fd ps []:=by
 obtain⟨oc,od,kV,doc,pm,an,cdv,ct,osl,rfl,lk,gz⟩:=F.ex;exact .all (h kV doc pm an cdv ct)
theorem cq{oc:Value}{od an:Option Addr}{osl:Array (Option Value)}{kV doc pm cdv ct:Value}(l:K.lookup f=some ⟨oc,od,.func (PySem.W.fnOf x qual (bM st) (aS st) (af st) .none kV doc pm an cdv ct),osl⟩)
  (c:PySem.W.codeIn K cdv qual=true) (k:PySem.W.keepIn K (.ref f)=true):jz K x qual st f (PySem.W.fnOf x qual (bM st) (aS st) (af st) .none kV doc pm an cdv ct):=⟨⟨oc,od,kV,doc,pm,an,cdv,ct,osl,rfl,l,c⟩,k⟩
end
theorem aZ{A:Around}{k:Nat}(hr:bE k A):A.units+1<cLine:=HU (Nat.add_le_add_left (by decide:1<=64) _) hr.units
section
variable {X:Cx}
theorem pv(i:Nat){pos:Pos}(hN:autoParam (X.N[i]?=some x) ℜ0)(hv:autoParam (DG X.env.scope x) ℜ4)(hd:autoParam ((x ==("__debug__":Str))=false) ℜ1)
  (gz:autoParam ((x ==("__classdict__":Str))=false) ℜ1):PE X (.Name x pos) (pO i):=C1 hN hv hd gz
end
noncomputable def u_(H H':Hp):Prop:=∀b o,H b=some o->H' b=some o
theorem u_.refl(H:Hp):u_ H H:=λ_ _ h=>h
section
variable {κ:Type} [DecidableEq κ]
theorem yC{kvs:List (κ×V)}{k:κ}{v:V}(h:cR kvs k=some v):k∈kvs.map (·.1):=by
 have q:(kvs.any λkv=>decide (kv.1=k))=true:=by
  rw[eN,h]
  all_goals rfl
 obtain⟨p,hp,e⟩:=List.any_eq_true.mp q;exact HP.mpr ⟨p,hp,Hr e⟩
end
noncomputable def dR(cells:List (Str×Addr)):List (Str×NameKind)->List (Str×Addr)->List (Str×Addr)
 |[],acc=>acc
 | (n,k)::r,acc=>if k=.free then dR cells r ((n,(cells.lookup n).getD 0)::acc) else dR cells r acc
theorem gm(h:∀x∈scope.names,x.2=.free->∃c,env.cells.lookup x.1=some c):closureFor scope env=pure (dR env.cells scope.names []):=by
 have all:∀(l:List (Str×NameKind)) (acc:List (Str×Addr)),(∀x∈l,x.2=.free->∃c,env.cells.lookup x.1=some c) ->
   (forIn l acc λ(x:Str×NameKind) (cs:List (Str×Addr))=>(match x with | (name,kind)=>if (kind == NameKind.free)=true then (do let c <- cellOf env name;pure (ForInStep.yield ((name,c)::cs))) else pure (ForInStep.yield cs):Sem (ForInStep (List (Str×Addr)))))=(pure (dR env.cells l acc):Sem (List (Str×Addr))):=by
  intro l
  induction l with
  |nil=>intro acc _;rfl
  |cons x r ih =>
   intro acc hl;obtain⟨n,k⟩:=x;rw[KQ];by_cases hk:k=.free
   ·subst hk;obtain⟨c,hc⟩:=hl (n,.free) GB rfl;have e:cellOf env n=pure c:=by unfold cellOf;rw[hc]
    simp only[J8,Jn,e,dR,pure_bind];rw[ih _ λy hy=>hl y (GA _ hy),hc];rfl
   ·have hb:(k == NameKind.free)=false:=by simpa using hk
    simp only[hb,HE,Ih,dR,hk,pure_bind];exact ih _ λy hy=>hl y (GA _ hy)
 unfold closureFor;simp only[bind_pure];exact all scope.names [] h
theorem h_:∀{l:List (Str×NameKind)} {acc:List (Str×Addr)},(∀x∈l,x.2=.free->∃c,cells.lookup x.1=some c)->(∀x c,acc.lookup x=some c->cells.lookup x=some c) ->
  ∀x c,(dR cells l acc).lookup x=some c->cells.lookup x=some c
 |[],_,_,h,x,c,e=>h x c e
 | (n,k)::r,acc,hl,h,x,c,e=>by
  unfold dR at e;have hr:∀y∈r,y.2=.free->∃c,cells.lookup y.1=some c:=λy hy=>hl y (GA _ hy)
  split at e
  ·rename_i hk;refine h_ hr (λy d q=>?_) x c e;rw[Hi] at q
   split at q
   ·rename_i hy;obtain⟨c',hc'⟩:=hl (n,k) GB hk;have hy':y=n:=by simpa using hy
    subst hy';simp only[] at hc';rw[hc'] at q ⊢;exact q
   ·exact h y d q
  ·exact h_ hr h x c e
theorem ik:∀{l:List (Str×NameKind)} {acc:List (Str×Addr)},(∃c,acc.lookup x=some c)->∃c,(dR cells l acc).lookup x=some c
 |[],_,h=>h
 | (n,k)::r,acc,h=>by
  unfold dR;split
  ·refine ik ?_;rw[Hi];split
   ·exact⟨_,rfl⟩
   ·exact h
  ·exact ik h
theorem fM:∀{l:List (Str×NameKind)} {acc:List (Str×Addr)},(x,NameKind.free)∈l->∃c,(dR cells l acc).lookup x=some c
 |[],_,h=>by simp at h
 | (n,k)::r,acc,h=>by
  unfold dR;rcases Gv.mp h with e|h
  ·cases e;rw[Gp rfl];exact ik ⟨(cells.lookup x).getD 0,by rw[Hi];simp⟩
  ·split
   ·exact fM h
   ·exact fM h
noncomputable def a_(X:Cx)(scope:Scope)(N:List Str)(C:Addr)(s:Shared)(H:Hp)(fp:List Addr):Cx where
 prog:=X.prog
 w:=X.w
 K:=X.K
 mg:=X.mg
 base:=X.base
 A:=X.A
 N:=N
 s₀:=s
 H₀:=H
 env:=compEnvC scope (dR X.env.cells scope.names []) C X.env
 outer:=X.stack
 stack:=X.stack
 ex:=fp
 calm:=X.calm
 fn:=λ_=>false
 pn:=[]
 xe:=λ_ _=>False
structure dC (osc:Scope) (ON:List Str) (scope:Scope) (own N:List Str):Prop where
 kind:scope.kind=.function
 nd:N.Nodup
 len:N.length=own.length+ON.length
 ju:∀y∈scope.names,y.2≠.cell
 loc:∀y∈scope.names,y.2=.local->scope.names.lookup y.1=some .local
 free:∀y∈scope.names,y.2=.free->osc.names.lookup y.1=some .cell\/osc.names.lookup y.1=some .free
 out:∀p∈ON.zip (N.drop own.length),p.1=p.2\/scope.names.lookup p.2=none
 own:∀x∈N.drop own.length,scope.names.lookup x≠some .local
theorem cO(x:Str)(hn:∀y∈scope.names,y.2≠.cell):((relabel scope env).names.lookup x=some .local->scope.names.lookup x=some .local) /\
  ((relabel scope env).names.lookup x=some .cell\/(relabel scope env).names.lookup x=some .free->scope.names.lookup x=some .free):=by
 unfold relabel;simp only;revert hn;generalize scope.names=l;intro hn
 induction l with
 |nil=>simp
 |cons y r ih =>
  obtain⟨n,k⟩:=y;have ih:=ih λy hy=>hn y (GA _ hy);have hk:k≠.cell:=hn (n,k) GB;rw[GV];simp only;by_cases hc:(k == NameKind.free && env.scope.kind == ScopeKind.function && env.kindOf n == some NameKind.cell)=true
  ·rw[Gp hc,Hi,Hi];have hf:k=.free:=by
    simp only[Hv] at hc
    simpa using hc.1.1
   split
   ·subst hf;simp
   ·exact ih
  ·rw[Gn hc,Hi,Hi];split
   ·constructor
    ·exactλh=>h
    ·rintro (h|h)
     ·exact absurd (Option.some.inj h) hk
     ·exact h
   ·exact ih
noncomputable def Bw(X:Cx)(ifs:List Expr)(t:TT):Prop:=
 ∀(pins:List (Addr×Obj)) (s:Shared) (σ:St) (H:Hp) (Q:Bool->Hp->Prop),Inv X pins σ H s->t σ H Q ->
  wpAny (model X.prog X.w) X.A (forIn ifs true λc r=>if r=true then do let ok <- isTrue c X.env (eval c X.env);pure (ForInStep.yield ok) else pure (ForInStep.yield r)) (TP X pins σ Q) X.xe s
noncomputable def gi:TT:=λ_ H Q=>Q true H
theorem yz:Bw X [] gi:=λ_ _ _ H _ I h=>wpAny_tests_nil ⟨H,I,h⟩
theorem zP{c:Expr}{t:TT}(h:PT X c t):Bw X [c] t:=λpins s σ H Q I hw=>wpAny_tests_one (h pins s σ H Q I hw)
theorem tW{M:Model}{A:Around}{s:Shared}{m:Sem α}{Q' Q:α->Shared->Prop}(h:wpAny M A m Q' (λ_ _=>False) s)(k:∀x s',Q' x s'->Q x s'):wpAny M A m Q E s:=Hn h k λ_ _ z=>z.elim
theorem jL{A:Around}{R:Result->Shared->Prop}{s:Shared}{target:Expr}{pos:Pos}{it acc:Value}{XE:Value->Shared->Prop}(I:Nat->Shared->Prop)(hx:∀x s',XE x s'->notedBy (model prog w) A env (λv s''=>R (.error v) s'') x s')
  (turn:∀n s,I n s->wpAny (model prog w) A (pyNext it) (λr s₁=>match r with
   |none=>R (.ok .next) s₁
   |some v=>wpAny (model prog w) A (letOwnedTupleGo target it v) (λ_ s₁'=>wpAny (model prog w) A (assign target env v) (λ_ s₂ =>
     wpAny (model prog w) A (forIn ifs true λc r=>if r=true then do let ok <- isTrue c env (eval c env);pure (ForInStep.yield ok) else pure (ForInStep.yield r)) (λok s₃ =>
      if ok=true then wpAny (model prog w) A (eval elt env) (λx s₄ =>
       wpAny (model prog w) A (call (.builtin "list.append") [acc,x]) (λ_ s₅=>∃m,m<n/\I m s₅) XE s₄) XE s₃
      else ∃m,m<n/\I m s₃) XE s₂) XE s₁') XE s₁) XE s)
  (n:Nat) (h:I n s):codeAny (model prog w) A (.compLoop (.ListComp elt [⟨target,iter,ifs,0⟩] scope pos) 0 it acc env) R s:=by
 refine codeAny_loop rfl I (λn s hI=>?_) n h;show wpAny _ A ((compTurn (.ListComp elt [⟨target,iter,ifs,0⟩] scope pos) 0 it acc env).onRaise (λx=>do noteFrame x env;theTreesLotGoes x)) _ _ s
 refine wpAny_noted ?_;rw[compTurn_list];refine Gj (Jx (Gj (Hn (turn n s hI) (λr s₁ h₁=>?_) hx)))
 cases r with
 |none=>exact Gu h₁
 |some v =>
  refine Gj (Hn h₁ (λ_ s₁' h₁'=>?_) hx);refine Gj (Hn h₁' (λ_ s₂ h₂=>Gj (Hn h₂ (λok s₃ h₃=>?_) hx)) hx)
  cases ok with
  |false=>exact Gu ⟨rfl,h₃⟩
  |true =>
   exact Gj (Gj (Hn h₃ (λx s₄ h₄=>Gj (Hn h₄ (λ_ s₅ h₅=>Gu (Gu ⟨rfl,h₅⟩)) hx)) hx))
noncomputable def jB(wi:TI)(k:Nat)(g:TG)(tc:TT)(te:TE):TE:=λσ H Q=>wi σ H λJ H1=>∀D,H1 D=none ->
 ∃W:Nat->Nat->List V->St->Hp->Prop,(∃m,W 0 m [] (List.replicate k none++σ) (upd H1 D (.lst [])))/\∀i m ys σ' H',W i m ys σ' H'->H' D=some (.lst ys) /\
  ((J.stop i H'/\Q (.ref D) H')\/(J.go i H'/\ys.length<sizeLine/\∀x H2,J.Ag i H' x H2->g x σ' H2 λσ3 H3=>tc σ3 H3 λb H4 =>
   if b=true then te σ3 H4 λv H5=>H5 D=some (.lst ys)/\∃m',m'<m/\W (i+1) m' (ys++[v]) σ3 (upd H5 D (.lst (ys++[v])))
   else ∃m',m'<m/\W (i+1) m' ys σ3 H4))
theorem pz{pos:Pos}{wi:TI}(S:dC osc ON scope own N)(hosc:X.env.scope=osc)(hON:X.N=ON)(hc:X.calm=true)(hi:PI X tg iter wi)
  (hg:∀C s H fp,PG (a_ X scope N C s H fp) tg g) (ht:∀C s H fp,Bw (a_ X scope N C s H fp) ifs tc) (XE:Addr->Shared->Hp->List Addr->Value->Shared->Prop)
  (he:∀C s H fp pins s' σ' H' Q',(∀b∈fp,∃o,(b,o)∈pins)->Inv (a_ X scope N C s H fp) pins σ' H' s'->te σ' H' Q'->wpAny (model X.prog X.w) X.A (eval elt (a_ X scope N C s H fp).env) (EP (a_ X scope N C s H fp) pins σ' Q') (XE C s H fp) s')
     {s:Shared} {Q:VK} (I:Inv X pins σ H s) (h:jB wi own.length g tc te σ H Q) 
  (fin:∀(D C:Addr) (H':Hp) (s':Shared) (m:Str->Option Value),Inv X pins σ H' s'->Q (.ref D) H'->H' C=none->X.s₀.heap.objs.size<=C->C≠X.env.locals->(∀x c,X.env.cells.lookup x=some c->c≠C)->(∀p∈X.pn++pins,p.1≠C) ->
   s'.heap.Ns C m->RR (.ref D) C (.ok .next) s')
  (hx:∀(D C:Addr) (s3:Shared) (H3:Hp) (fp:List Addr),C=s3.heap.objs.size->Inv X pins σ H3 s3->(∀{pins':List (Addr×Obj)} {σ':St} {H':Hp} {s':Shared},Inv (a_ X scope N C s3 H3 fp) pins' σ' H' s'->Inv X pins σ H' s') ->
   X.s₀.heap.objs.size<=C->C≠X.env.locals->(∀x c,X.env.cells.lookup x=some c->c≠C)->(∀p∈X.pn++pins,p.1≠C)->∀x s',XE C s3 H3 fp x s'->notedBy (model X.prog X.w) X.A (a_ X scope N C s3 H3 fp).env (λv s''=>RR (.ref D) C (.error v) s'') x s') :
  wpAny (model X.prog X.w) X.A (eval iter X.env) (λx s₁=>wpAny (model X.prog X.w) X.A (pyIter x) (λit s₂=>wpAny (model X.prog X.w) X.A (newList []) (λacc s₃ =>
   wpAny (model X.prog X.w) X.A (newFunctionEnv scope X.env.globals (dR X.env.cells scope.names []) [] X.env.qual none .none (some X.env)) (λcenv s₄ =>
    codeAny (model X.prog X.w) X.A (.compStart (.ListComp elt [⟨tg,iter,ifs,0⟩] scope pos) 0 it acc {cenv with scope:=relabel scope X.env}) (RR acc cenv.locals) s₄) X.xe s₃) X.xe s₂) X.xe s₁) X.xe s:=by
 refine bL (hi pins s σ H _ I h) λv s1 h1=>bL h1 λitv s2 h2=>?_;obtain⟨it,fp,tn,J,H2,e,I2,T,st2,f2,q⟩:=h2;subst e;refine HJ (wpAny_newFunctionEnv S.ju (by intro y hy;simp at hy) (λh₁ hns₁ hsb₁=>?_) S.kind)
 dsimp only at hns₁ hsb₁ ⊢;have I3:Inv X pins σ (upd H2 s2.heap.objs.size (.lst [])) {s2 with heap:=s2.heap.push {cls:=.type "list",data:=.seq ([]:List Value).toArray},toks:=s2.toks}:=I2.CC (t':=s2.toks) .nil (Nat.zero_le _)
 have hD2:H2 s2.heap.objs.size=none:=I2.fresh;obtain⟨W,⟨m0,w0⟩,turn⟩:=q _ hD2;generalize hs3:({s2 with heap:=s2.heap.push {cls:=.type "list",data:=.seq ([]:List Value).toArray},toks:=s2.toks}:Shared)=s3 at I3
 have eh3:s3.heap=s2.heap.push {cls:=.type "list",data:=.seq ([]:List Value).toArray}:=by rw[<- hs3]
 generalize hD:s2.heap.objs.size=D at I3 turn w0 hD2 ⊢;generalize hH3:upd H2 D (.lst [])=H3 at I3 w0;rw[<- eh3] at hns₁ hsb₁ ⊢;have hC3:H3 s3.heap.objs.size=none:=I3.fresh;have hsz3:s3.heap.objs.size=D+1:=by rw[eh3,HS,hD]
 have fp2:∀b∈fp,b<s2.heap.objs.size:=λb hb=>by
  obtain⟨o,e,_⟩:=T.obj _ _ st2 b hb;exact G5 e
 have f3:∀b∈fp,ji X pins H3 b:=λb hb=>by
  obtain⟨g0,g1⟩:=f2 b hb;refine⟨?_,g1⟩;rw[<- hH3,ae (by rw[<- hD];exact GD (fp2 b hb))]
  exact g0
 have neC:∀b o,s3.heap.get? b=some o->b≠s3.heap.objs.size:=λb o e=>GD (G5 e);have old:∀b o,s3.heap.get? b=some o->h₁.get? b=some o:=λb o e=>hsb₁.extBut b o (neC b o e) (Gk _ e);have hk:=S.kind;have hfr:∀y∈scope.names,y.2=.free->∃c,X.env.cells.lookup y.1=some c:=λy hy hf=>I3.ok.has _ (by subst hosc;exact S.free y hy hf)
 have sub:=h_ (acc:=[]) hfr (by intro x c e;simp at e)
 have JB:∀tk,Inv (a_ X scope N s3.heap.objs.size s3 H3 fp) [] (List.replicate own.length none++σ) H3 {s3 with heap:=h₁,toks:=tk}:=λtk=>by
  refine⟨⟨I3.ok.mod,S.kind,I3.ok.glob,I3.ok.blt,Gs _,λx y c e1 e2=>I3.ok.inj x y c (sub x c e1) (sub y c e2),λx hx=>?_,λx c hf _=>(by cases hf),I3.ok.hd,I3.ok.frames,.inl rfl,λb hb=>?_,I3.bs,Gw I3.ok.xB I3.sz,λb o e hb=>?_,λb hb hf=>?_,I3.stack,I3.mf,I3.ok.tabs.un I3.base⟩,
   rfl,I3.bare,Un.kept old,⟨_,hns₁,λi x v e1 e2 e3=>?_⟩,λx c e=>?_,hC3,λx c e=>I3.fv x c (sub x c e),λp hp=>absurd (show p∈([]:List (Addr×Obj)) from hp) (by simp),I3.aX.kept old,?_⟩
  ·have q:=(cO (env:=X.env) x S.ju).2 hx;exact fM (PySem.mem_of_lookup q)
  ·have hb:b∈fp:=hb;obtain⟨_,g1,g2,g3,g4,g5⟩:=f3 b hb;refine⟨?_,λx c e=>g4 x c (sub x c e)⟩;have:=fp2 b hb;show b≠s3.heap.objs.size;rw[hsz3,<- hD];exact GD (IQ this)
  ·have hb:b∈fp:=hb;obtain⟨_,g1,g2,g3,g4,g5⟩:=f3 b hb;rcases g3 with g3|g3
   ·exact I3.ok.xp b o e g3
   ·exact absurd (GI (G5 e) (Gw I3.ok.xB g3)) (Ic _)
  ·have hb:b∈fp:=hb;obtain⟨_,g1,g2,g3,g4,g5⟩:=f3 b hb;rcases Gv.mp (I3.kW b hf) with z|z
   ·exact g1 z
   ·exact g2 z
  ·have hi:own.length<=i:=by
    rcases Ho i own.length with hlt|hge
    ·rw[Hg (by simpa using hlt),KI] at e2
     split at e2<;>cases e2
    ·exact hge
   rw[GZ (by simpa using hi),G9] at e2
   have e1:N[own.length+(i-own.length)]?=some x:=by rw[Nat.add_sub_cancel' hi];exact e1
   have e1d:(N.drop own.length)[i-own.length]?=some x:=by rw[HV];exact e1
   have nl:scope.names.lookup x≠some .local:=S.own x (H_ e1d);have vis:scope.names.lookup x=some .free:=by
    rcases e3 with z|z
    ·exact absurd ((cO (env:=X.env) x S.ju).1 z) nl
    ·exact (cO (env:=X.env) x S.ju).2 z
   have hlen:=I3.len;have hlt:i-own.length<X.N.length:=by
    rw[<- hlen];exact (Gq.mp e2).1
   have hxN:X.N[i-own.length]?=some x:=by
    rw[Gm hlt];have mz:(X.N[i-own.length],x)∈ON.zip (N.drop own.length):=by
     rw[<- hON];refine H_ (i:=i-own.length) ?_;rw[List.getElem?_zip_eq_some];exact⟨Gm hlt,e1d⟩
    rcases S.out _ mz with z|z
    ·exact Hm some z
    ·exact absurd z (by rw[vis];simp)
   have hko:X.env.scope.names.lookup x=some .cell\/X.env.scope.names.lookup x=some .free:=by subst hosc;exact S.free _ (PySem.mem_of_lookup vis) rfl
   obtain⟨m,hn,hl⟩:=I3.loc;have hv:DG X.env.scope x:=by
    rcases hko with z|z
    ·exact .inr (.inl z)
    ·exact .inr (.inr z)
   obtain⟨u,ru,lk⟩:=hl _ x v hxN e2 hv;refine⟨u,ru,.inr ⟨?_,?_⟩⟩
   ·rcases e3 with z|z
    ·exact absurd ((cO (env:=X.env) x S.ju).1 z) nl
    ·exact z
   ·rcases lk with ⟨k,_⟩|⟨_,c,ec,hcell⟩
    ·exfalso
     have k':X.env.scope.names.lookup x=some .local:=k;rcases hko with z|z
     ·rw[k'] at z;cases z
     ·rw[k'] at z;cases z
    ·obtain⟨c',ec'⟩:=fM (cells:=X.env.cells) (acc:=[]) (PySem.mem_of_lookup vis);have:=sub x c' ec';rw[ec] at this;cases this;obtain⟨o,ho,hd⟩:=hcell;exact⟨c,ec',o,old c o ho,hd⟩
  ·obtain⟨v,o,ho,hd⟩:=I3.cell x c (sub x c e);exact⟨v,o,old c o ho,hd⟩
  ·show (List.replicate own.length none++σ).length=N.length;rw[S.len,Gr,G9,I3.len,hON]
 have stat:∀{H':Hp},(∀b∈fp,H' b=none)->∀b∈fp,ji (a_ X scope N s3.heap.objs.size s3 H3 fp) [] H' b:=λ{H'} hn b hb=>by
  obtain⟨_,g1,g2,g3,g4,g5⟩:=f3 b hb;refine⟨hn b hb,?_,λhf=>?_,.inl hb,λx c e=>g4 x c (sub x c e),λp hp=>absurd (show p∈([]:List (Addr×Obj)) from hp) (by simp)⟩
  ·have:=fp2 b hb;show b≠s3.heap.objs.size;rw[hsz3,<- hD];exact GD (IQ this)
  ·rcases Gv.mp (I3.kW b hf) with z|z
   ·exact g1 z
   ·exact g2 z
 have st4:tn 0 h₁:=T.keep _ _ _ st2 λb hb o e=>old b o (by rw[eh3];exact Gk _ e)
 have o3:∀x c,X.env.cells.lookup x=some c->c≠s3.heap.objs.size:=λx c e z=>by
  obtain⟨v,o,ho,_⟩:=I3.cell x c e;exact absurd (G5 ho) (by rw[z];exact Ic _)
 have o4:∀p∈X.pn++pins,p.1≠s3.heap.objs.size:=λp hp z=>absurd (G5 (I3.pin p hp).1) (by rw[z];exact Ic _)
 have outI:∀{pins':List (Addr×Obj)} {σ':St} {H':Hp} {s':Shared},Inv (a_ X scope N s3.heap.objs.size s3 H3 fp) pins' σ' H' s'->Inv X pins σ H' s':=λI6=>by
  refine I3.DD (ch:=fp) I6.os I6.base I6.aX I6.bare λb hb=>?_;obtain⟨_,g1,g2,g3,g4,g5⟩:=f3 b hb;exact⟨g3,g1,g4,g5⟩
 have loop:∀s4:Shared,s4={s3 with heap:=h₁,toks:=s2.toks+([]:List (Str×Value)).length} ->
   codeAny (model X.prog X.w) X.A (.compLoop (.ListComp elt [⟨tg,iter,ifs,0⟩] scope pos) 0 (.ref it) (.ref D) (a_ X scope N s3.heap.objs.size s3 H3 fp).env) (RR (.ref D) s3.heap.objs.size) s4:=by
  rintro s4 rfl;refine jL (XE:=XE s3.heap.objs.size s3 H3 fp) (λn s'=>∃i ys σ' H',Inv (a_ X scope N s3.heap.objs.size s3 H3 fp) [] σ' H' s'/\tn i s'.heap/\(∀b∈fp,H' b=none)/\W i n ys σ' H') (hx D _ s3 H3 fp rfl I3 outI I3.sz (HN I3.lt) o3 o4) ?_ m0 ⟨0,[],_,H3,JB _,st4,λb hb=>(f3 b hb).1,w0⟩;rintro n s5 ⟨i,ys,σ5,H5,I5,st5,fr5,w5⟩;obtain⟨hD5,ways⟩:=turn i n ys σ5 H5 w5;rcases ways with ⟨stop,qn⟩|⟨go,hys,step⟩
  ·refine tW (T.done (a_ X scope N s3.heap.objs.size s3 H3 fp) rfl rfl rfl hc i [] s5 σ5 H5 _ I5 (stat fr5) st5 stop) λr s6 hq1=>?_;obtain⟨hr,I6⟩:=hq1;subst hr;obtain⟨m,hn,_⟩:=I6.loc;exact fin D _ H5 s6 m (outI I6) qn I6.free I3.sz (HN I3.lt) o3 o4 hn
  ·refine tW (T.item (a_ X scope N s3.heap.objs.size s3 H3 fp) rfl rfl rfl hc i [] s5 σ5 H5 _ I5 (stat fr5) st5 go) λr s6 hq2=>?_;obtain⟨u,hr,h6⟩:=hq2;subst hr;refine tW h6 λ_ s7 hq3=>?_;obtain⟨x,H7,I7,r7,y7,st7,fr7⟩:=hq3;have I7':=I7.pinned (stat fr7) (T.obj _ _ st7);have back:∀{σ8:St} {H8:Hp} {s8:Shared},Inv (a_ X scope N s3.heap.objs.size s3 H3 fp) ([]++hV fp s7.heap) σ8 H8 s8->tn (i+1) s8.heap/\∀b∈fp,H8 b=none:=λ{σ8 H8 s8} I8=>by
    refine⟨T.keep _ _ _ st7 λb hb o e=>(I8.pin (b,o) (GJ _ (GJ _ (dH hb e)))).1,λb hb=>?_⟩;obtain⟨o,e,d⟩:=T.obj _ _ st7 b hb;exact (I8.pin (b,o) (GJ _ (GJ _ (dH hb e)))).2.1
   have hcov:∀b∈fp,∃o,(b,o)∈([]:List (Addr×Obj))++hV fp s7.heap:=λb hb=>by
    obtain⟨o,e,_⟩:=T.obj _ _ st7 b hb;exact⟨o,GJ _ (dH hb e)⟩
   refine tW (hg _ _ _ _ _ s7 σ5 H7 x u _ I7' r7 (step x H7 y7)) λ_ s8 hq4=>?_;obtain⟨σ8,H8,I8,q8⟩:=hq4;refine tW (ht _ _ _ _ _ s8 σ8 H8 _ I8 q8) λok s9 hq5=>?_;obtain⟨H9,I9,q9⟩:=hq5
   cases ok with
   |false =>
    rw[Gn (by simp)] at q9 ⊢
    obtain⟨m',hm,w9⟩:=q9;exact⟨m',hm,i+1,ys,σ8,H9,I9.f7,(back I9).1,(back I9).2,w9⟩
   |true =>
    rw[Gp rfl] at q9 ⊢;refine bL (he _ _ _ _ _ s9 σ8 H9 _ hcov I9 q9) λy s10 hq6=>?_;obtain⟨v10,H10,I10,r10,hD10,m',hm,w10⟩:=hq6;refine tW (cK _ s10 σ8 H10 (.ref D) [v10] (.ref D) [y] (λr H11=>r=.aQ/\H11=upd H10 D (.lst (ys++[v10]))) I10 rfl (.cons r10 .nil) ⟨D,ys,v10,rfl,rfl,hD10,hys,rfl,rfl⟩) λ_ s11 hq7=>?_;obtain⟨_,H11,I11,_,_,e11⟩:=hq7;subst e11;exact⟨m',hm,i+1,_,σ8,_,I11.f7,(back I11).1,(back I11).2,w10⟩
 have start:=codeAny_compStart_list (R:=RR (.ref D) s3.heap.objs.size) (loop _ rfl) (T.self X.A 0 _ _ _ st4 (loop _ rfl));subst hs3;exact start
theorem kf{pos:Pos}{wi:TI}(S:dC osc ON scope own N)(hosc:X.env.scope=osc)(hON:X.N=ON)(hc:X.calm=true)(hi:PI X tg iter wi)
  (hg:∀C s H fp,PG (a_ X scope N C s H fp) tg g) (ht:∀C s H fp,Bw (a_ X scope N C s H fp) ifs tc) (he:∀C s H fp,PE (a_ X scope N C s H fp) elt te)
     {s:Shared} {Q:VK} (I:Inv X pins σ H s) (h:jB wi own.length g tc te σ H Q) 
  (fin:∀(D C:Addr) (H':Hp) (s':Shared) (m:Str->Option Value),Inv X pins σ H' s'->Q (.ref D) H'->H' C=none->X.s₀.heap.objs.size<=C->C≠X.env.locals->(∀x c,X.env.cells.lookup x=some c->c≠C)->(∀p∈X.pn++pins,p.1≠C) ->
   s'.heap.Ns C m->RR (.ref D) C (.ok .next) s') :
  wpAny (model X.prog X.w) X.A (eval iter X.env) (λx s₁=>wpAny (model X.prog X.w) X.A (pyIter x) (λit s₂=>wpAny (model X.prog X.w) X.A (newList []) (λacc s₃ =>
   wpAny (model X.prog X.w) X.A (newFunctionEnv scope X.env.globals (dR X.env.cells scope.names []) [] X.env.qual none .none (some X.env)) (λcenv s₄ =>
    codeAny (model X.prog X.w) X.A (.compStart (.ListComp elt [⟨tg,iter,ifs,0⟩] scope pos) 0 it acc {cenv with scope:=relabel scope X.env}) (RR acc cenv.locals) s₄) X.xe s₃) X.xe s₂) X.xe s₁) X.xe s:=
 pz S hosc hON hc hi hg ht (λ_ _ _ _ _ _=>False) (λC s H fp pins s' σ' H' Q' _ I h=>he C s H fp pins s' σ' H' Q' I h) I h fin λ_ _ _ _ _ _ _ _ _ _ _ _ _ _ z=>z.elim
theorem yW{pos:Pos}{wi:TI}(S:dC osc ON scope own N)(hosc:X.env.scope=osc)(hON:X.N=ON)(hc:X.calm=true)(hi:PI X tg iter wi)
  (hg:∀C s H fp,PG (a_ X scope N C s H fp) tg g) (ht:∀C s H fp,Bw (a_ X scope N C s H fp) ifs tc) (he:∀C s H fp,PE (a_ X scope N C s H fp) elt te)
  (hs:autoParam (∀x,foldedSetIterable iter X.env x=pure x) ℜ3) :
  PE X (.ListComp elt [⟨tg,iter,ifs,0⟩] scope pos) (jB wi own.length g tc te):=by
 intro pins s σ H Q I h;have hfr:∀y∈scope.names,y.2=.free->∃c,X.env.cells.lookup y.1=some c:=λy hy hf=>I.ok.has _ (by subst hosc;exact S.free y hy hf)
 rw[eval_ListComp];refine K6 (use:=none) rfl hs (gm hfr) S.kind S.loc ?_;refine kf S hosc hON hc hi hg ht he I h (RR:=λacc C=>compPost (model X.prog X.w) X.A X.xe none (EP X pins σ Q) acc C) ?_;intro D C H' s' m I' q h1 h2 h3 h4 h5 hn;exact⟨m,hn,λh'' hs''=>⟨.ref D,H',I'.turned (t':=s'.toks) (λb o hb e=>(hs''.2 b hb).trans e) h1 h3 (.inr h2) h4 h5,rfl,q⟩⟩
theorem pM{pos spos py:Pos}{wi:TI}{y:Str}(hN:X.N.Nodup)(hj:X.N[j]?=some y)(hx:Loc X.env.scope y)(S:dC osc ON scope own N)(hosc:X.env.scope=osc)(hON:X.N=ON)(hc:X.calm=true)(hi:PI X tg iter wi)
  (hg:∀C s H fp,PG (a_ X scope N C s H fp) tg g) (ht:∀C s H fp,Bw (a_ X scope N C s H fp) ifs tc) (he:∀C s H fp,PE (a_ X scope N C s H fp) elt te)
  (hsw:autoParam (swapsWith (.ListComp elt [⟨tg,iter,ifs,0⟩] scope pos) (some (.Name y py)) spos.line X.env=pure true) ℜ0)
  (hf:autoParam (X.fn y=true\/X.env.scope.names.lookup y=some .local) ℜ2)
  (hs:autoParam (∀x,foldedSetIterable iter X.env x=pure x) ℜ3) :
  PS X (.Assign [.Name y py] (.ListComp elt [⟨tg,iter,ifs,0⟩] scope pos) spos) (lh (jB wi own.length g tc te) (bq j)):=by
 intro pins s σ H Dn I h;have hfr:∀y∈scope.names,y.2=.free->∃c,X.env.cells.lookup y.1=some c:=λy hy hf=>I.ok.has _ (by subst hosc;exact S.free y hy hf)
 rw[exec_Assign_Name_used _ _ _ _ hsw];refine Gj (Jx (Gj ?_));show wpAny _ X.A (do let _ <- comprehension (.ListComp elt [⟨tg,iter,ifs,0⟩] scope pos) scope X.env _ (newList []) false (eval iter X.env) (some (assign (.Name y py) X.env))) _ _ s
 refine Gj (Hn (K6 (use:=some (assign (.Name y py) X.env)) (Q:=λ_ s'=>SP X pins Dn .next s') rfl hs (gm hfr) S.kind S.loc ?_) (λ_ s' hq=>Gu (Gu hq)) λ_ _ e=>e);refine kf S hosc hON hc hi hg ht he I h (RR:=λacc C=>compPost (model X.prog X.w) X.A X.xe (some (assign (.Name y py) X.env)) (λ_ s'=>SP X pins Dn .next s') acc C) ?_;intro D C H' s' m I' q h1 h2 h3 h4 h5 hn;show wpAny _ X.A (assign (.Name y py) X.env (.ref D)) _ _ _;refine wpAny_assign_Name (kA I' hN hj hx (v:=.ref D) rfl (λs'' I'' hsb=>?_) hf);obtain⟨a,sb,ha⟩:=hsb;have nC:C≠a:=by
  rcases ha with ha|ha
  ·rw[ha];exact h3
  ·exact (h4 y a ha).symm
 exact⟨m,hn.sameBut sb nC,λh'' hs''=>⟨_,H',I''.turned (t':=s''.toks) (λb o hb e=>(hs''.2 b hb).trans e) h1 h3 (.inr h2) h4 h5,q⟩⟩
noncomputable def fz(e:Expr):Bool:=match e with
 |.Starred ..=>false
 |_=>true
theorem cS(h:fz e=true):starEach (e::es) env=(false,eval e env)::starEach es env:=by
 cases e<;>first|rfl|cases h
theorem plain_any{pos:Pos}:∀{es:List Expr},es.all fz=true->(backTo pos (starEach es env)).any (·.1)=false
 |[],_=>rfl
 |e::es,h=>by
  rw[Ie,Hv] at h;rw[cS h.1];show (false || (backTo pos (starEach es env)).any (·.1))=false;rw[plain_any h.2];rfl
theorem plain_all{pos:Pos}:∀{es:List Expr},es.all fz=true->(backTo pos (starEach es env)).all (λx=>!x.1)=true
 |[],_=>rfl
 |e::es,h=>by
  rw[Ie,Hv] at h;rw[cS h.1];show (true && (backTo pos (starEach es env)).all (λx=>!x.1))=true;rw[plain_all h.2];rfl
theorem Bu{cpos:Pos}(h:(e::es).all fz=true)(hl:(e::es).length<30):
  ((backTo cpos (starEach (e::es) env)).all (λx=>!x.1) && (backToKw cpos (keywordEach [] env)).all (λx=>x.1.isSome) && decide ((e::es).length+([]:List Keyword).length+(if ([]:List Keyword).isEmpty then 0 else 1)<30))=true:=by
 rw[plain_all h];have e2:(backToKw cpos (keywordEach [] env)).all (λx=>x.1.isSome)=true:=rfl;rw[e2];have e3:(e::es).length+([]:List Keyword).length+(if ([]:List Keyword).isEmpty then 0 else 1)<30:=hl
 rw[GX e3];rfl
section
variable {X:Cx} {e:Expr} {es:List Expr} {te:TE} {t:TA}
theorem Fc(ha:PE X e te)(hr:PA X es t)(h:autoParam (fz e=true) ℜ0):PA X (e::es) (i8 te t):=qR ha hr (cS h)
theorem E4{id:String}{p pos:Pos}(hc:bC X (.builtin id) r)(hg:Gl X x)(hm:X.mg x=none)(hv:bootBuiltins x=some (.builtin id))(ha:PA X (e::es) t)(h1:autoParam (fz e=true) ℜ0)(h2:autoParam (es.all fz=true) ℜ0)(hn:autoParam (x≠"__name__") ℜ1)(hdb:autoParam ((x ==("__debug__":Str))=false) ℜ1):
  PE X (.Call (.Name x p) (e::es) [] pos) (xG r t):=wk hc hg hm hv ha hn hdb (cS h1) (plain_any h2)
theorem El{T:String}{p pos:Pos}(hc:bC X (.type T) r)(hg:Gl X x)(hm:X.mg x=none)(hv:bootBuiltins x=some (.type T))(ha:PA X (e::es) t)(h1:autoParam (fz e=true) ℜ0)(h2:autoParam (es.all fz=true) ℜ0)(hn:autoParam (x≠"__name__") ℜ1)(hdb:autoParam ((x ==("__debug__":Str))=false) ℜ1):
  PE X (.Call (.Name x p) (e::es) [] pos) (xG r t):=rT hc hg hm hv ha hn hdb (cS h1) (plain_any h2)
theorem AF{o:Expr}{to:TE}{name:Str}{apos cpos:Pos}{T id:String}{r:V->List V->Hp->VK->Prop}(pa:PlainAttrs T)(slot:Slot T name id)(hty:typeOf (.builtin id)=pure (.type "method_descriptor"))(hm:rQ X id r)(ho:PE X o to)(ha:PA X (e::es) t)
  (hbase:attributeBase o name X.env (eval o X.env)=eval o X.env) (hline:(apos.endLine == cpos.line)=true) (h:(e::es).all fz=true) (hl:(e::es).length<30):PE X (.Call (.Attribute o name apos) (e::es) [] cpos) (CJ X.K T r to t):=by
 have h':=h;rw[Ie,Hv] at h';exact Ee pa slot hty hm ho ha hbase (Bu h hl) hline (cS h'.1) (plain_any h'.2)
theorem qk{a:Expr}{p pos:Pos}(hg:Gl X "range")(hm:X.mg "range"=none)(ha:PA X [a] ta)(h:autoParam (fz a=true) ℜ0):PI X tg (.Call (.Name "range" p) [a] [] pos) (jZ ta):=rP hg hm ha (cS h)
theorem qa{a:Expr}{p pos:Pos}(hg:Gl X "range")(hm:X.mg "range"=none)(ha:PA X [a,b] ta)(h:autoParam (fz a=true) ℜ0)(h2:autoParam (fz b=true) ℜ0):PI X tg (.Call (.Name "range" p) [a,b] [] pos) (j_ ta):=rV hg hm ha (by rw[cS h,cS h2];rfl) (cS h2)
end
structure HasFn (K:LA) (mg:Str->Option Value) (x:Str) (st:Stmt) (ps:List Str):Prop where
 ex:∃(f:Addr) (fd:FuncData),jz K x x st f fd/\Binds K fd ps []/\mg x=some (.ref f)
structure aq (P:Program) (w:World) (K:LA) (mg:Str->Option Value) (base:Heap) (CX:nY) (k:Nat) (x:Str) (ps:List Str) (sp:Sp):Prop where
 ex:∃(f:Addr) (fd:FuncData),mg x=some (.ref f)/\PySem.W.keepIn K (.ref f)=true/\Binds K fd ps []/\cC P w K mg base CX k f fd ps sp
section
variable {P:Program} {w:World} {K:LA} {mg:Str->Option Value} {base:Heap}
theorem HasFn.ok{ps:List Str}{k:Nat}(F:HasFn K mg x st ps)(S:av N ps (af st))(len:∀vs H Q E,sp vs H Q E->vs.length=ps.length)
  (hbody:∀(f:Addr) (cdv:Value) (A:Around) (outer:List Env) (s:Shared) (H:Hp) (vs:List V) (Q:VK) (E:XK),bE k (A.deeper (envOfC x (af st) s.heap.objs.size f cdv))->sp vs H Q E ->
   ∃t,oY (fC bf P w K mg base N x (af st) f cdv A outer s H E).oJ (aS st) t/\t {nx:=λ_ H'=>Q .aQ H',rt:=Q} (start N vs) H):aq P w K mg base bf (k+1) x ps sp:=by
 obtain⟨f,fd,F1,b,m⟩:=F.ex;exact⟨f,fd,m,F1.kp,b,F1.ok S len λcdv A outer s H vs Q E hr h=>hbody f cdv A outer s H vs Q E hr h⟩
end
section
variable {X:Cx} {CX:nY} {k:Nat} {ps:List Str} {sp:Sp} {E:XK} {x:Str} {p pos:Pos} {e:Expr} {es:List Expr} {t:TA}
theorem Ex(F:aq X.prog X.w X.K X.mg X.base CX k x ps sp)(hr:bE k X.A)(hg:Gl X x)(hx:Passes CX X E)(ha:PA X (e::es) t)(h1:autoParam (fz e=true) ℜ0)(h2:autoParam (es.all fz=true) ℜ0)(hdb:autoParam ((x ==("__debug__":Str))=false) ℜ1):
  PE X (.Call (.Name x p) (e::es) [] pos) (gE sp [] E t):=by
 obtain⟨f,fd,m,kp,b,G⟩:=F.ex;exact yj G hr hg m kp b .nil hx ha hdb (cS h1) (plain_any h2)
theorem Bo(F:aq X.prog X.w X.K X.mg X.base CX k x ps sp)(hr:bE k X.A)(hg:Gl X x)(hx:Passes CX X E)(hdb:autoParam ((x ==("__debug__":Str))=false) ℜ1):
  PE X (.Call (.Name x p) [] [] pos) (gE sp [] E iI):=by
 obtain⟨f,fd,m,kp,b,G⟩:=F.ex;exact wx G hr hg m kp b .nil hx hdb
end
noncomputable def CA:Expr->Option V
 |.Constant (.int i) _ _=>some (.int i)
 |.Constant (.str x) _ _=>some (.str x)
 |.Constant (.bool b) _ _=>some (.bl b)
 |.Constant .none _ _=>some .aQ
 |_=>none
noncomputable def qS:List Expr->Option (List V)
 |[]=>some []
 |e::es=>match CA e,qS es with
  |some v,some vs=>some (v::vs)
  |_,_=>none
noncomputable def tK(vs:List V):TA:=λ_ H Q=>Q vs H
theorem A9{v:V}(h:CA e=some v):PE X e (tC v)/\∀es,starEach (e::es) X.env=(false,eval e X.env)::starEach es X.env:=by
 unfold CA at h
 split at h
 ·cases h;exact⟨xy,λ_=>rfl⟩
 ·cases h;exact⟨qf,λ_=>rfl⟩
 ·cases h;exact⟨Am,λ_=>rfl⟩
 ·cases h;exact⟨x9,λ_=>rfl⟩
 ·cases h
theorem ka{X:Cx}:∀{es:List Expr} {vs:List V},qS es=some vs->PA X es (tK vs)
 |[],vs,h=>by cases h;exact vQ
 |e::es,vs,h=>by
  unfold qS at h
  split at h
  ·rename_i v ws e1 e2;cases h;have p:=A9 (X:=X) e1;exact qR (te:=tC v) (t:=tK ws) p.1 (ka e2) (p.2 es)
  ·cases h
noncomputable def sq(H:Hp)(p:Addr):Option (Bool×List V):=match H p with
 |some (.lst xs)=>some (true,xs)
 |some (.tup xs)=>some (false,xs)
 |some (.hZ _ (.lst xs))=>some (true,xs)
 |some (.hZ _ (.tup xs))=>some (false,xs)
 |_=>none
theorem fK(h:sq H p=some (true,xs)):bZ K H p xs:=by
 unfold sq at h
 split at h
 ·rename_i e;cases h;exact .inl (.inl e)
 ·cases h
 ·rename_i e;cases h;exact .inl (.inr ⟨_,e⟩)
 ·cases h
 ·cases h
theorem f9(h:sq H p=some (false,xs)):b8 K H p xs:=by
 unfold sq at h
 split at h
 ·cases h
 ·rename_i e;cases h;exact .inl (.inl e)
 ·cases h
 ·rename_i e;cases h;exact .inl (.inr ⟨_,e⟩)
 ·cases h
theorem AK{b:Bool}(h:sq H p=some (b,xs)):bZ K H p xs\/b8 K H p xs:=by
 cases b with
 |true=>exact .inl (fK h)
 |false=>exact .inr (f9 h)
theorem aF(h:H p=some (.lst xs)):sq H p=some (true,xs):=by unfold sq;rw[h]
theorem aG(h:H p=some (.tup xs)):sq H p=some (false,xs):=by unfold sq;rw[h]
section
variable {X:Cx}
noncomputable def rO(K:LA):R2:=λx y H Q=>match x,y with
 |.int i,.int j=>Q (.int (i+j)) H
 |.str i,.str j=>i.length+j.length<=sizeLine/\Q (.str (i++j)) H
 |.ref a,.ref b=>match H a,H b with
  |some (.lst xs),some (.lst ys)=>xs.length+ys.length<=sizeLine/\∀p,H p=none->Q (.ref p) (upd H p (.lst (xs++ys)))
  |some (.tup xs),some (.tup ys)=>xs≠[]/\ys≠[]/\xs.length+ys.length<=sizeLine/\∀p,H p=none->Q (.ref p) (upd H p (.tup (xs++ys)))
  |_,_=>False
 |_,_=>False
theorem yT:dz X (binaryOp .Add) (rO X.K):=by
 intro pins s σ H x y v u Q I rx ry h
 cases x with
 |int i=>cases y with
  |int j=>exact Bb pins s σ H _ _ v u Q I rx ry ⟨i,j,rfl,rfl,h⟩
  |_=>exact (show False from h).elim
 |str i=>cases y with
  |str j=>exact pe pins s σ H _ _ v u Q I rx ry ⟨i,j,rfl,rfl,h.1,h.2⟩
  |_=>exact (show False from h).elim
 |ref a=>cases y with
  |ref b =>
   unfold rO at h;simp only at h
   split at h
   ·rename_i xs ys e1 e2;exact CI pins s σ H _ _ v u Q I rx ry ⟨a,b,xs,ys,rfl,rfl,e1,e2,h.1,h.2⟩
   ·rename_i xs ys e1 e2;obtain⟨h1,h2,h3,h4⟩:=h;exact yF pins s σ H _ _ v u Q I rx ry ⟨a,b,xs,ys,rfl,rfl,b8.of e1,b8.of e2,h1,h3,λz=>absurd z h2,λ_=>h4⟩
   ·exact h.elim
  |_=>exact (show False from h).elim
 |_=>exact (show False from h).elim
noncomputable def C8:R2:=λx y H Q=>match x,y with
 |.int i,.int j=>sd i j/\Q (.int (i*j)) H
 |.ref a,.int j=>Ef (.ref a) (.int j) H Q
 |_,_=>False
theorem bN:dz X (binaryOp .Mult) C8:=by
 intro pins s σ H x y v u Q I rx ry h
 cases x with
 |int i=>cases y with
  |int j=>exact AN pins s σ H _ _ v u Q I rx ry ⟨i,j,rfl,rfl,h.1,h.2⟩
  |_=>exact (show False from h).elim
 |ref a=>cases y with
  |int j=>exact BF pins s σ H _ _ v u Q I rx ry h
  |_=>exact (show False from h).elim
 |_=>exact (show False from h).elim
theorem aO:dz X (compareOp .Eq) A0:=CW
theorem jG:dz X (compareOp .NotEq) CN:=DK
noncomputable def DE(K:LA)(neg:Bool):R2:=λx y H Q=>match y with
 |.str j=>∃i,x=.str i/\Q (.bl (if neg then !(!(Builtin.Str.occurrences j i 0 j.length 1).isEmpty) else !(Builtin.Str.occurrences j i 0 j.length 1).isEmpty)) H
 |.ref p=>match sq H p with
  |some (_,xs)=>dw x=true/\xs.all dw=true/\Q (.bl (if neg then !jV x xs else jV x xs)) H
  |none=>∃xs,b8 K H p xs/\dw x=true/\xs.all dw=true/\Q (.bl (if neg then !jV x xs else jV x xs)) H
 |_=>False
theorem C2{neg:Bool}{x:V}{Q:VK}(h:DE K neg x (.ref p) H Q):Ft K neg x (.ref p) H Q:=by
 unfold DE at h;simp only at h
 split at h
 ·rename_i xs e;exact⟨p,_,rfl,AK e,h.1,h.2.1,h.2.2⟩
 ·obtain⟨xs,hq,h⟩:=h;exact⟨p,xs,rfl,.inr hq,h.1,h.2.1,h.2.2⟩
theorem B5{k:Nat}(hu:k<cLine):dz X (compareOp .In) (DE X.K false):=by
 intro pins s σ H x y v u Q I rx ry h
 match y,h with
 |.str j,h =>
  obtain⟨i,rfl,h'⟩:=h;exact sQ pins s σ H _ _ v u Q I rx ry ⟨i,j,rfl,rfl,h'⟩
 |.ref p,h=>exact kj pins s σ H _ _ v u Q I rx ry (C2 h)
noncomputable def Cp(K:LA):R2:=λx y H Q=>match x,y with
 |.str z,.int i=>z.length<=sizeLine/\(match bX z.cps.toList i with|some c=>Q (.str ⟨#[c]⟩) H|none=>False)
 |.ref p,.int i=>match sq H p with
  |some (_,xs)=>(match bX xs i with|some v=>Q v H|none=>False)
  |none=>∃xs v,b8 K H p xs/\bX xs i=some v/\Q v H
 |_,_=>False
theorem Gd{k:Nat}(hu:k<cLine):tG X (Cp X.K):=by
 intro value slice pins s σ H x y v u Q I rx ry h hs;refine AB value slice pins s σ H x y v u Q I rx ry ?_ hs
 cases x with
 |str z=>cases y with
  |int i =>
   obtain⟨hz,h⟩:=h
   split at h
   ·rename_i c e;exact .inr (.inr ⟨z,i,c,rfl,rfl,hz,e,h⟩)
   ·exact h.elim
  |_=>exact (show False from h).elim
 |ref p=>cases y with
  |int i =>
   unfold Cp at h;simp only at h
   split at h
   ·rename_i b xs e
    split at h
    ·rename_i w' e'
     cases b with
     |true=>exact .inl ⟨p,xs,i,w',rfl,rfl,fK e,e',h⟩
     |false=>exact .inr (.inl ⟨p,xs,i,w',rfl,rfl,f9 e,e',h⟩)
    ·exact h.elim
   ·obtain⟨xs,w',hq,e',h⟩:=h;exact .inr (.inl ⟨p,xs,i,w',rfl,rfl,hq,e',h⟩)
  |_=>exact (show False from h).elim
 |_=>exact (show False from h).elim
noncomputable def ES(K:LA):V->Option Int->Option Int->Hp->VK->Prop:=λx lo hi H Q=>match x with
 |.ref p=>match sq H p with
  |some (true,xs)=>∀q,H q=none->Q (.ref q) (upd H q (.lst (iM xs lo hi)))
  |some (false,xs)=>xg K (.ref p) lo hi H Q
  |none=>xg K (.ref p) lo hi H Q
 |_=>False
theorem zF:zV X (ES X.K):=by
 intro pins s σ H x v vl vu lo hi sl Q I rx hs pl pu h
 match x,h with
 |.ref p,h =>
  unfold ES at h;simp only at h
  split at h
  ·rename_i xs e;exact qx pins s σ H _ v vl vu lo hi sl Q I rx hs pl pu ⟨p,xs,rfl,fK e,h⟩
  ·exact wM pins s σ H _ v vl vu lo hi sl Q I rx hs pl pu h
  ·exact wM pins s σ H _ v vl vu lo hi sl Q I rx hs pl pu h
noncomputable def yA:V->V->V->Hp->(Hp->Prop)->Prop:=λo i v H Q=>match o,i with
 |.ref p,.int k=>match H p with
  |some (.lst xs)=>(match lM xs.length k with|some j=>Q (upd H p (.lst (xs.set j v)))|none=>False)
  |_=>False
 |_,_=>False
theorem uset:AR X yA:=by
 intro pins s σ H o i v ov iv u Q I ro ri rv h
 cases o with
 |ref p=>cases i with
  |int k =>
   unfold yA at h;simp only at h
   split at h
   ·rename_i xs e
    split at h
    ·rename_i j e';exact set_list pins s σ H _ _ v ov iv u Q I ro ri rv ⟨p,xs,k,j,rfl,rfl,e,e',h⟩
    ·exact h.elim
   ·exact h.elim
  |_=>exact (show False from h).elim
 |_=>exact (show False from h).elim
noncomputable def vO(K:LA):List V->Hp->VK->Prop:=λxs H Q=>match xs with
 |[.str y]=>y.length<=sizeLine/\Q (.int y.length) H
 |[.ref p]=>match sq H p with
  |some (_,ys)=>Q (.int ys.length) H
  |none=>∃ys,b8 K H p ys/\Q (.int ys.length) H
 |_=>False
theorem rR:bC X (.builtin "len") (vO X.K):=by
 intro pins s σ H xs us Q I r h;rcases xs with _|⟨x,_|⟨y,xs⟩⟩
 ·exact (show False from h).elim
 rotate_left
 ·cases x<;>exact (show False from h).elim
 cases x with
 |str y=>exact gC pins s σ H _ us Q I r ⟨.str y,_,rfl,⟨h.1,rfl⟩,h.2⟩
 |ref p =>
  unfold vO at h;simp only at h
  split at h
  ·rename_i b ys e;refine gC pins s σ H _ us Q I r ⟨.ref p,ys.length,rfl,?_,h⟩
   cases b with
   |true=>exact .inl ⟨ys,fK e,rfl⟩
   |false=>exact .inr ⟨ys,f9 e,rfl⟩
  ·obtain⟨ys,hq,h⟩:=h;exact gC pins s σ H _ us Q I r ⟨.ref p,ys.length,rfl,.inr ⟨ys,hq,rfl⟩,h⟩
 |_=>exact (show False from h).elim
noncomputable def Et:List V->Hp->VK->Prop:=λxs H Q=>match xs with
 |[.int i,.int j]=>Q (.int (if j<i then j else i)) H
 |_=>False
theorem rL(hc:X.calm=true):bC X (.builtin "min") Et:=by
 intro pins s σ H xs us Q I r h;rcases xs with _|⟨x,_|⟨y,_|⟨z,xs⟩⟩⟩
 ·exact (show False from h).elim
 ·cases x<;>exact (show False from h).elim
 ·cases x with
  |int i=>cases y with
   |int j=>exact sX hc pins s σ H _ us Q I r ⟨i,j,rfl,h⟩
   |_=>exact (show False from h).elim
  |_=>exact (show False from h).elim
 ·cases x with
  |int i=>cases y<;>exact (show False from h).elim
  |_=>exact (show False from h).elim
noncomputable def ma(K:LA):List V->Hp->VK->Prop:=λxs H Q=>match xs with
 |[.ref p]=>match sq H p with
  |some (true,ys)=>∀l,H l=none->Q (.ref l) (upd H l (.tup ys))
  |some (false,_)=>Q (.ref p) H
  |none=>∃ys,b8 K H p ys/\Q (.ref p) H
 |_=>False
theorem mH:bC X (.type "tuple") (ma X.K):=by
 intro pins s σ H xs us Q I r h;rcases xs with _|⟨x,_|⟨y,xs⟩⟩
 ·exact (show False from h).elim
 rotate_left
 ·cases x<;>exact (show False from h).elim
 cases x with
 |ref p =>
  unfold ma at h;simp only at h
  split at h
  ·rename_i ys e;exact eA pins s σ H _ us Q I r ⟨p,ys,rfl,.inl ⟨fK e,h⟩⟩
  ·rename_i ys e;exact eA pins s σ H _ us Q I r ⟨p,ys,rfl,.inr ⟨f9 e,h⟩⟩
  ·obtain⟨ys,hq,h⟩:=h;exact eA pins s σ H _ us Q I r ⟨p,ys,rfl,.inr ⟨hq,h⟩⟩
 |_=>exact (show False from h).elim
noncomputable def Ey:List V->Hp->VK->Prop:=λxs H Q=>match xs with
 |[.int i]=>Q (.int i) H
 |[.bl k]=>Q (.int (if k=true then 1 else 0)) H
 |_=>False
theorem iw:bC X (.type "int") Ey:=by
 intro pins s σ H xs us Q I r h;rcases xs with _|⟨x,_|⟨y,ys⟩⟩
 ·exact (show False from h).elim
 ·cases x with
  |int i=>exact jY pins s σ H _ us Q I r (.inl ⟨i,rfl,h⟩)
  |bl k=>exact jY pins s σ H _ us Q I r (.inr ⟨k,rfl,h⟩)
  |_=>exact (show False from h).elim
 ·cases x<;>exact (show False from h).elim
theorem tB(hc:X.calm=true):bC X (.builtin "sum") (λxs H Q=>∃(p:Addr) (ns:List Int),xs=[.ref p]/\bZ X.K H p (ns.map V.int)/\Q (.int ns.sum) H):=by
 intro pins s σ H xs us Q I r h;obtain⟨p,ns,rfl,hq,q⟩:=h;obtain⟨u,rfl,ru⟩:=vals1 r;cases ru;obtain⟨its,rv,pl,hz⟩:=I.list hq;have hi:=intsAre_of rv;obtain⟨xs,hx⟩:=hi.allInts.items;have hl':s.heap.IsList p (intItems xs):=by rw[<- hx];exact pl.isList
 refine sum_intListG (I.ok.hd hc) hl' λh' tk t' hk=>?_;have e1:ns=xs.toList.map (·.1):=by rw[<- nums_intItems,<- hx];exact hi.numsOf.symm
 have e2:preSum (numAt xs) xs.size=ns.sum:=by rw[preSum_eq,Hq (by simp),e1]
 rw[e2];exact⟨.int ns.sum,H,I.kept hk,⟨_,rfl⟩,q⟩
noncomputable def Bv(H:Hp):V->Option String
 |.aQ=>some "NoneType"
 |.bl _=>some "bool"
 |.int _=>some "int"
 |.str _=>some "str"
 |.ref a=>match H a with
  |some (.lst _)=>some "list"
  |some (.tup _)=>some "tuple"
  |some (.dK _)=>some "dict"
  |_=>none
 |_=>none
theorem A7{x:V}(h:Bv H x=some t):gr K H x (.type t):=by
 unfold Bv at h
 split at h
 ·cases h;exact .aQ
 ·cases h;exact .bl _
 ·cases h;exact .int _
 ·cases h;exact .str _
 ·split at h
  ·rename_i e;cases h;exact .lst e
  ·rename_i e;cases h;exact .tup e
  ·rename_i e;cases h;exact .dK e
  ·cases h
 ·cases h
noncomputable def gJ(t c:String):Bool:=decide (t=c) || (t == "bool" && c == "int")
theorem vx{c:String}(ht:t∈["NoneType","bool","int","str","list","tuple","dict"])(hc:c∈["bool","int","str","list","tuple","dict"]):PySem.W.kitOne K (.type t) (.type c)=some (gJ t c):=by
 simp only[Gv,GG,Hj] at ht hc;rcases ht with rfl|rfl|rfl|rfl|rfl|rfl|rfl<;>rcases hc with rfl|rfl|rfl|rfl|rfl|rfl<;>rfl
theorem Cr{x:V}(h:Bv H x=some t):t∈["NoneType","bool","int","str","list","tuple","dict"]:=by
 unfold Bv at h
 split at h
 ·cases h;decide
 ·cases h;decide
 ·cases h;decide
 ·cases h;decide
 ·split at h
  ·cases h;decide
  ·cases h;decide
  ·cases h;decide
  ·cases h
 ·cases h
noncomputable def Cc(K:LA):List V->Hp->VK->Prop:=λxs H Q=>match xs with
 |[x,.ty T]=>T∈["bool","int","str","list","tuple","dict"]/\match Bv H x with
  |some t=>Q (.bl (gJ t T)) H
  |none=>∃t b,gr K H x t/\PySem.W.kitOne K t (.type T)=some b/\Q (.bl b) H
 |_=>False
theorem sN:bC X (.builtin "isinstance") (Cc X.K):=by
 intro pins s σ H xs us Q I r h;rcases xs with _|⟨x,_|⟨y,_|⟨z,xs⟩⟩⟩
 ·exact (show False from h).elim
 ·exact (show False from h).elim
 rotate_left
 ·cases y<;>exact (show False from h).elim
 cases y with
 |ty T =>
  obtain⟨u,w',rfl,r1,r2⟩:=vals2 r;cases r2;obtain⟨hT,h⟩:=h
  split at h
  ·rename_i t e;exact kn I r1 (A7 e) (vx (Cr e) hT) λtk=>⟨.bl _,H,I.tok _,rfl,h⟩
  ·obtain⟨t,b,ty,k,q⟩:=h;exact kn I r1 ty k λtk=>⟨.bl b,H,I.tok _,rfl,q⟩
 |_=>exact (show False from h).elim
theorem B2{T:String}{pos:Pos}(hg:Gl X x)(hm:X.mg x=none)(hv:bootBuiltins x=some (.type T))(hn:autoParam (x≠"__name__") ℜ1)(hd:autoParam ((x ==("__debug__":Str))=false) ℜ1):PE X (.Name x pos) (tC (.ty T)):=zd hg hm hv rfl hn hd
noncomputable def rJoin(K:LA):V->List V->Hp->VK->Prop:=λx vs H Q=>∃z l ys,x=.str z/\vs=[.ref l]/\bZ K H l (ys.map V.str)/\(ys.map (·.length)).sum+ys.length*z.length<=16777216/\Q (.str (Str.join z ys)) H
theorem je:∀{ys:List Str} {us:List Value},Vals (ys.map V.str) us->StrsAre us ys
 |[],_,.nil=>.nil
 |y::ys,_,.cons r t=>by
  obtain⟨k,rfl⟩:=r;exact .cons y k (je t)
theorem y3:rQ X "str.join" (rJoin X.K):=by
 intro pins s σ H x xs v us Q I rx rs h;obtain⟨z,l,ys,rfl,rfl,hq,hz,q⟩:=h;obtain⟨t,rfl⟩:=rx;obtain⟨u,rfl,ru⟩:=vals1 rs;cases ru;obtain⟨its,rv,pl,_⟩:=I.list hq;refine join_list pl.isList (by simpa using je rv) hz λt' k=>?_
 have e:Txt.join z ys=Str.join z ys:=StrLaws.glued_eq_join z ys;rw[e];exact⟨.str _,H,I.tok _,⟨_,rfl⟩,q⟩
end
section
variable {X:Cx} {e:Expr} {te:TE}
theorem qO(p:Nat->Bool):∀(l:List Nat),l.drop (l.takeWhile p).length=l.dropWhile p
 |[]=>rfl
 |x::l=>by
  by_cases h:p x
  ·simp[JX,Jf,h,qO p l]
  ·simp[JX,Jf,h]
end
open AutoSeq1 (wpAny_loadPart')
section
variable {prog:Program} {w:World} {A:Around} {E:Value->Shared->Prop} {s:Shared}
theorem iJ{l:Addr}{x:Value}(hit:s.heap.IsTupleIter it l i)(hl:s.heap.IsTuple l items)(hx:items[i]?=some x)
  (hQ:∀h',h'.IsTupleIter it l (i+1)->Heap.SameBut it s.heap h'->Q x {s with heap:=h'}):wpAny (model prog w) A (Builtin.SmallTypes.nextOf (.ref it)) Q E s:=by
 obtain⟨o,ho,hc,hd⟩:=id hit;obtain⟨ol,hol,_,nl,hdl⟩:=hl;unfold Builtin.SmallTypes.nextOf;refine Gj (Hu (name:=Str.ofString "__next__") hit.typeIs Iq (Hw Iq hit.typeIs Ki ?_ (Ka _)));show wpAny _ _ (field (.ref it) 0 >>= _) _ _ s;refine Gj (HQ ho hd (x:=.ref l) rfl ?_);show wpAny _ _ (if (Value.ref l == Value.none)=true then _ else _) _ _ s
 rw[Gn (show ¬ ((Value.ref l == Value.none)=true) from Gz)];show wpAny _ _ (field (.ref it) 1 >>= _) _ _ s;refine Gj (HQ ho hd (x:=.int i 0) rfl ?_);show wpAny _ _ (seqItems? (.ref l) >>= _) _ _ s;refine Gj (HW hol hdl ?_);simp only[Hb,hx];refine Gj (Kb ho hd (by simp) (Gu ⟨x,rfl,Gu (hQ _ ?_ (HM ..))⟩))
 exact⟨_,JD _ ho (Obj.isFreed_of_fields (Jm hd _)),(Obj.cls_mapFields ..).trans hc,by rw[Jm hd];simp[rawInt]⟩
theorem jA{l:Addr}(hh:A.handled=none)(hit:s.heap.IsTupleIter it l i)(hl:s.heap.IsTuple l items)(hx:items[i]?=none)
  (hE:∀h' e,Heap.ExtBut it s.heap h'->(∃o,h'.get? e=some o/\o.cls=.type "StopIteration")->E (.ref e) {s with heap:=h'}):wpAny (model prog w) A (Builtin.SmallTypes.nextOf (.ref it)) Q E s:=by
 obtain⟨o,ho,hc,hd⟩:=id hit;obtain⟨ol,hol,_,nl,hdl⟩:=hl;unfold Builtin.SmallTypes.nextOf;refine Gj (Hu (name:=Str.ofString "__next__") hit.typeIs Iq (Hw Iq hit.typeIs Ki ?_ (Ka _)));show wpAny _ _ (field (.ref it) 0 >>= _) _ _ s;refine Gj (HQ ho hd (x:=.ref l) rfl ?_);show wpAny _ _ (if (Value.ref l == Value.none)=true then _ else _) _ _ s
 rw[Gn (show ¬ ((Value.ref l == Value.none)=true) from Gz)];show wpAny _ _ (field (.ref it) 1 >>= _) _ _ s;refine Gj (HQ ho hd (x:=.int i 0) rfl ?_);show wpAny _ _ (seqItems? (.ref l) >>= _) _ _ s;refine Gj (HW hol hdl ?_);simp only[Hb,hx];refine Gj (Kv (Gj (Kb ho hd (by simp) ?_)))
 show wpAny _ _ (newExc (.type "StopIteration") [] >>= _) _ _ _;refine Gj ?_;simp only[newExc,newTuple];refine Gj (HJ ?_ (by size_fits))
 refine Gj (m:=firstArgMember _ _) (wpAny_of_eq (a:=Value.none) (by first|rfl | (simp only[firstArgMember];rfl)) ?_)
 refine HJ ?_ (by size_fits)
 simp only[raiseNew];refine Gj (wpAny_handled ?_)
 first|rw[show A.in1.handled=none from hh]|rw[hh]
 refine Gj (Gu (wpAny_throw ?_));exact hE _ _ (((HM ..).extBut.push _).push _) ⟨_,G0 _ rfl,rfl⟩
theorem ij(hh:A.handled=none)(it l:Addr)(hne:l≠it)(items:Array Value):
  Draws prog w A it [it,l] items.size (λi v=>items[i]?=some v) (λi h=>h.IsTupleIter it l i/\h.IsTuple l items) where
 live:=λ_ _ st=>let ⟨o,ho,_⟩:=st.1;⟨o,ho⟩
 frame:=λ_ _ _ st hk=>⟨let ⟨o,e,r⟩:=st.1;⟨o,hk it (by simp) o e,r⟩,let ⟨o,e,r⟩:=st.2;⟨o,hk l (by simp) o e,r⟩⟩
 item:=λi s Q E hi st hQ=>by
  refine iJ st.1 st.2 (x:=items[i]) (by simp[hi]) λh' hit' hs'=>?_
  exact hQ _ h' s.toks (by simp[hi]) ⟨hit',st.2.extBut hs'.extBut hne⟩ hs'
 done:=λs Q E st hE=>jA hh st.1 st.2 (by simp) hE
theorem jf(l:Addr)(items:Array Value)(n:Nat)(dct:Option Addr)(sl:Array (Option Value)):
  Meets (Builtin.«enumerate.__new__» ⟨[.type "enumerate",.ref l],[]⟩) (λ_ R s=>s.heap.get? l=some {cls:=.type "tuple",dict:=dct,data:=.seq items n,slots:=sl} /\
   R (.ok (.ret (.ref (s.heap.push {cls:=.type "tuple_iterator",data:=.fields #[.ref l,.int 0 0]}).objs.size)))
    {s with heap:=(s.heap.push {cls:=.type "tuple_iterator",data:=.fields #[.ref l,.int 0 0]}).push {cls:=.type "enumerate",data:=.fields #[.none,.bool false,.ref s.heap.objs.size,rawInt 0,.none,.none]}}):=
 .of_wp λprog w A R s h=>by
  obtain⟨hp,g,d,tk,os⟩:=s;obtain⟨hl,h⟩:=h;have hsub:=sub_enumerate;have hL:Heap.IsTuple (Shared.heap ⟨hp,g,d,tk,os⟩) l items:=⟨_,hl,rfl,n,rfl⟩;wp_walk using KR hl;refine wpAny_stack_any λst=>Gu ?_;split
  ·rename_i c _ _ _ _ _
   cases (c == Value.type "enumerate")<;>(wp_walk using KR hl,HF hL;exact⟨_,rfl,h⟩)
  ·wp_walk using KR hl,HF hL;exact⟨_,rfl,h⟩
theorem jQ{l:Addr}(hL:s.heap.IsTuple l items)
  (h:∀h',IsEnum h' (s.heap.objs.size+1) s.heap.objs.size 0 .none->h'.IsTupleIter s.heap.objs.size l 0->h'.objs.size=s.heap.objs.size+2 ->
   (∀b o,s.heap.get? b=some o->h'.get? b=some o)->Q (.ref (s.heap.objs.size+1)) {s with heap:=h'}) :
  wpAny (model prog w) A (call (.type "enumerate") [.ref l]) Q E s:=by
 obtain⟨⟨c,dct,dt,sl⟩,hl,hc,n,hd⟩:=hL
 replace hc:c=.type "tuple":=hc
 replace hd:dt=.seq items n:=hd
 subst hc hd;refine Lu F.called_enumerate (by decide) (F.typeCall_enumerate_1 _) (F.newCall_enumerate_1 _) (λobj=>F.args_object_init_2 obj _) F.entry_enumerate_new (jf l items n dct sl) ⟨hl,?_⟩
 have hz:(s.heap.push {cls:=.type "tuple_iterator",data:=.fields #[.ref l,.int 0 0]}).objs.size=s.heap.objs.size+1:=HS ..;show _/\_;rw[hz];have he:IsEnum ((s.heap.push {cls:=.type "tuple_iterator",data:=.fields #[.ref l,.int 0 0]}).push {cls:=.type "enumerate",data:=.fields #[.none,.bool false,.ref s.heap.objs.size,rawInt 0,.none,.none]}) (s.heap.objs.size+1) s.heap.objs.size 0 .none:=by
  have:=G0 (s.heap.push {cls:=.type "tuple_iterator",data:=.fields #[.ref l,.int 0 0]}) (o:={cls:=.type "enumerate",data:=.fields #[.none,.bool false,.ref s.heap.objs.size,rawInt 0,.none,.none]}) rfl;rw[hz] at this;exact this
 refine⟨⟨_,he,rfl⟩,h _ he ⟨_,Gk _ (G0 _ rfl),rfl,rfl⟩ (by rw[HS,hz]) λb o x=>Gk _ (Gk _ x)⟩
end
section
variable {X:Cx} {pins:List (Addr×Obj)} {σ:St} {H:Hp} {s:Shared} {h':Heap}
theorem Inv.turns{t':Nat}(I:Inv X pins σ H s)(hf:∀b∈fp,ji X pins H b)(k:∀b o,b∉fp->s.heap.get? b=some o->h'.get? b=some o):Inv X pins σ H {s with heap:=h',toks:=t'}:=by
 have nf:∀b u,H b=some u->b∉fp:=λb u e z=>by rw[(hf b z).1] at e;cases e
 refine I.step (g':=s.gens) (d':=s.drawn) (ch:=fp) (λb hb=>?_) (λb o _ _ hc e _=>k b o hc e) (λb o _ _ hc e _=>⟨o.slots,k b o hc e⟩) (λ_ _ _ _ n=>n)
  (λb o hc e=>⟨o,k b o hc e⟩) (λ_ _ e=>e) (λ_ _ _ e=>e) (λb ps e=>⟨#[],by rw[e];simp⟩) (λm hm=>?_) (λb u e=>?_) I.bare
 ·obtain⟨_,g1,g2,g3,g4,g5⟩:=hf b hb;exact⟨g3,g1,g4,g5⟩
 ·obtain⟨o,es,ep,ho,r⟩:=hm;exact⟨o,es,ep,k _ o (λz=>(hf _ z).2.1 rfl) ho,r⟩
 ·refine (I.aX b u e).mw (λc v hc q=>k c v ?_ q) (λ_ q=>q) (λ_ _ q=>q) λ_ _ _ q=>q;rcases hc with z|z
  ·rw[z];exact nf b u e
  ·exact nf c _ z
theorem Inv.lV{t':Nat}(I:Inv X pins σ H s)(hf:∀b∈fp,ji X pins H b)(hp:s.heap.objs.size<=p)(k:∀b o,b∉fp->s.heap.get? b=some o->h'.get? b=some o)
  (new:bp X.prog X.w (upd H p o) h' p o):Inv X pins σ (upd H p o) {s with heap:=h',toks:=t'}:=by
 have nf:∀b u,H b=some u->b∉fp:=λb u e z=>by rw[(hf b z).1] at e;cases e
 have fr:H p=none:=I.aX.fresh hp;have np:∀b u,H b=some u->b≠p:=λb u e=>ai e fr;have ne:∀b o,s.heap.get? b=some o->b≠p:=λb o e z=>by rw[z] at e;exact absurd (GI (G5 e) hp) (Ic _)
 refine I.step (g':=s.gens) (d':=s.drawn) (ch:=fp) (λb hb=>?_) (λb o _ _ hc e _=>k b o hc e) (λb o _ _ hc e _=>⟨o.slots,k b o hc e⟩) (λb o _ e n=>by rw[ae (ne b o e)];exact n)
  (λb o hc e=>⟨o,k b o hc e⟩) (λb xs e=>by rw[ae (np b _ e)];exact e) (λb o u e=>by rw[ae (np b _ e)];exact e) (λb ps e=>⟨#[],by rw[ae (np b _ e),e];simp⟩) (λm hm=>?_) (λb u e=>?_) I.bare
 ·obtain⟨_,g1,g2,g3,g4,g5⟩:=hf b hb;exact⟨g3,g1,g4,g5⟩
 ·obtain⟨o,es,ep,ho,r⟩:=hm;exact⟨o,es,ep,k _ o (λz=>(hf _ z).2.1 rfl) ho,r⟩
 ·by_cases hb:b=p
  ·subst hb;rw[aa] at e;cases e;exact new
  ·rw[ae hb] at e;refine (I.aX b u e).mw (λc v hc q=>k c v ?_ q) (λc q=>by rw[ae (np c _ q)];exact q) (λc xs q=>by rw[ae (np c _ q)];exact q) λc _ _ q=>by rw[ae (np c _ q)];exact q
   rcases hc with z|z
   ·rw[z];exact nf b u e
   ·exact nf c _ z
end
noncomputable def getL(K:LA)(a:Addr):Nat->Hp->V->Prop:=λi H x=>∃xs,bZ K H a xs/\xs[i]?=some x
noncomputable def Fn(K:LA)(a:Addr):Nat->Hp->V->Prop:=λi H x=>∃xs,b8 K H a xs/\xs[i]?=some x
noncomputable def Ff(K:LA)(a:Addr):Nat->Hp->Prop:=λi H=>∃xs,bZ K H a xs/\xs.length=i
noncomputable def EV(K:LA)(a:Addr):Nat->Hp->Prop:=λi H=>∃xs,b8 K H a xs/\xs.length=i
noncomputable def uX(K:LA)(a:Addr):It:=
 ⟨λi H=>∃x,Fn K a i H x,λi H x H'=>∃p y,(∀xs,b8 K H a xs->xs[i]?=some y)/\H p=none/\x=.ref p/\H'=upd H p (.tup [.int i,y]),EV K a⟩
theorem qm{tk:Nat}(a it e:Addr)(hne:e≠it):Turn P w K (.Tuple es tk tp) (uX K a) [e,it] e (λi h=>(∃old,IsEnum h e it i old)/\h.IsTupleIter it a i) where
 mem:=by simp
 obj:=λi h st b hb=>by
  obtain⟨⟨old,he⟩,o,eo,c,d⟩:=st;rcases Gv.mp hb with z|z
  ·subst z;exact⟨_,he,λv z=>by cases z⟩
  ·have z:b=it:=by simpa using z
   subst z;exact⟨o,eo,λv z=>by rw[d] at z;cases z⟩
 keep:=λi h h' st k=>by
  obtain⟨⟨old,he⟩,o,eo,r⟩:=st;exact⟨⟨old,k e (by simp) _ he⟩,o,k it (by simp) o eo,r⟩
 item:=by
  intro X hP hw hK hc i pins s σ H E I hf st hg;subst hP hw hK;obtain⟨x,xs,hq,hx⟩:=hg;obtain⟨⟨old,he⟩,hit⟩:=st;obtain⟨its,rv,p,hz⟩:=I.tuple hq;obtain⟨u,hu,ru⟩:=rv.get hx;obtain⟨g0,g1,g2,g3,g4,g5⟩:=hf e (by simp)
  obtain⟨f0,f1,f2,f3,f4,f5⟩:=hf it (by simp)
  have ht:s.heap.IsTuple a its.toArray:=p;have ha:a≠it:=by
   rintro rfl;obtain⟨o,e1,c1,_⟩:=hit;obtain⟨o',e2,c2,_⟩:=ht;rw[e1] at e2;cases e2;rw[c1] at c2;exact absurd (Value.type.inj c2) (by decide)
  have hea:e≠a:=by
   rintro rfl;obtain⟨o',e2,c2,_⟩:=ht;have e1:s.heap.get? e=some _:=he;rw[e1] at e2;cases e2;exact absurd (Value.type.inj c2) (by decide)
  have hi:i<its.toArray.size:=by
   have:=(Gq.mp hu).1
   simpa using this
  refine KJ (ij (A:=X.A.in1) (I.ok.hd hc) it a ha its.toArray) he ⟨hit,ht⟩ hi hne (by simp[hne,hea]) λx' h' tk' hP ho hs' hT hsz hk=>?_
  have ex:x'=u:=by
   have hP':its.toArray[i]?=some x':=hP;rw[Hl,hu] at hP';exact (Option.some.inj hP').symm
  subst ex;refine⟨.ref s.heap.objs.size,rfl,Kp ho λh2 he2 hs2=>?_⟩;have fr:H s.heap.objs.size=none:=I.aX.fresh (Gs _);have hle:e≠s.heap.objs.size:=GD (G5 he);have hT2:h2.get? s.heap.objs.size=some {cls:=.type "tuple",data:=.seq #[.int i tk',x']}:=(hs2.2 _ (Hy hle)).trans hT;have I2:Inv X pins σ (upd H s.heap.objs.size (.tup [.int i,x])) {s with heap:=h2,toks:=tk'+1}:=by
   refine I.lV (fp:=[e,it]) hf (Gs _) (λb o hb eb=>?_) ⟨by show 2<=sizeLine;decide,[.int i tk',x'],.cons ⟨_,rfl⟩ (.cons ru .nil),⟨_,hT2,rfl,_,rfl,rfl⟩⟩
   have n1:b≠e:=λz=>hb (by simp[z])
   have n2:b≠it:=λz=>hb (by simp[z])
   exact (hs2.2 b n1).trans (hk b o n1 n2 eb)
  refine⟨.ref s.heap.objs.size,_,I2,rfl,⟨s.heap.objs.size,x,λys hy=>by rw[I.iu hy hq];exact hx,fr,rfl,rfl⟩,⟨⟨x',?_⟩,?_⟩,λb hb=>?_⟩
  ·have e:(((i+1:Nat)):Int)=(i:Int)+1:=by lia
   rw[e];exact he2
  ·obtain⟨o,e1,r⟩:=hs'.1;exact⟨o,(hs2.2 it (Hy hne)).trans e1,r⟩
  ·have n:b≠s.heap.objs.size:=by
    rcases Gv.mp hb with z|z
    ·subst z;exact hle
    ·have z:b=it:=by simpa using z
     subst z;obtain⟨o,e1,_⟩:=hit;exact GD (G5 e1)
   rw[ae n];exact (hf b hb).1
 done:=by
  intro X hP hw hK hc i pins s σ H E I hf st hg;subst hP hw hK;obtain⟨xs,hq,hx⟩:=hg;obtain⟨⟨old,he⟩,hit⟩:=st;obtain⟨its,rv,p,hz⟩:=I.tuple hq;have ht:s.heap.IsTuple a its.toArray:=p;have ha:a≠it:=by
   rintro rfl;obtain⟨o,e1,c1,_⟩:=hit;obtain⟨o',e2,c2,_⟩:=ht;rw[e1] at e2;cases e2;rw[c1] at c2;exact absurd (Value.type.inj c2) (by decide)
  have hl:=rv.length;have hsz:its.toArray.size=i:=by simp;lia
  refine La (ij (A:=X.A.in1) (I.ok.hd hc) it a ha its.toArray) he (by rw[hsz];exact⟨hit,ht⟩) λh' eb=>⟨rfl,?_⟩
  exact I.turns (t':=s.toks) hf λb o hb e1=>eb b o (λz=>hb (by simp[z])) e1
 self:=λA i s Q E st h=>by
  obtain⟨⟨old,he⟩,_⟩:=st;exact Jp he h
section
variable {X:Cx} {es:List Expr} {tk:Nat} {tp:Pos}
noncomputable def mS(K:LA)(ta:TA):TI:=λσ H R=>ta σ H λvs H1=>∃a,vs=[.ref a]/\(∃xs,b8 K H1 a xs)/\R (uX K a) H1
theorem yY{p pos:Pos}(hg:Gl X "enumerate")(hm:X.mg "enumerate"=none)(ha:PA X [e] ta)(h1:autoParam (fz e=true) ℜ0)(hv:autoParam (bootBuiltins "enumerate"=some (.type "enumerate")) ℜ6):
  PI X (.Tuple es tk tp) (.Call (.Name "enumerate" p) [e] [] pos) (mS X.K ta):=by
 intro pins s σ H R I h;refine Call_ (eZ I hg hm hv (Ht (bL (ha pos pins s σ H _ I h) λus s1 hq1=>?_) (cS h1) rfl));obtain⟨vs,H1,I1,r1,q1⟩:=hq1;obtain⟨a,e,⟨xs,hq⟩,q⟩:=q1;subst e;obtain⟨u,rfl,ru⟩:=vals1 r1;cases ru;obtain⟨its,rv,pt,hz⟩:=I1.tuple hq;refine jQ (show s1.heap.IsTuple a its.toArray from pt) λh' he hit hsz hk=>?_;refine Jp he ?_;have I2:Inv X pins σ H1 {s1 with heap:=h'}:=I1.kept (t':=s1.toks) hk
 refine⟨s1.heap.objs.size+1,[s1.heap.objs.size+1,s1.heap.objs.size],_,_,H1,rfl,I2,qm a s1.heap.objs.size (s1.heap.objs.size+1) (HN (J7 _)),⟨⟨_,he⟩,hit⟩,λb hb=>?_,q⟩;have hb':s1.heap.objs.size<=b:=by
  rcases Gv.mp hb with z|z
  ·rw[z];exact HA _
  ·have z:b=s1.heap.objs.size:=by simpa using z
   rw[z];exact Gs _
 exact I1.lO hb' (I1.aX.fresh hb')
noncomputable def vH(K:LA)(tl:TE):TI:=λσ H R=>tl σ H λx H1=>match x with
 |.ref a=>match sq H1 a with
  |some (true,_)=>R (vK K a) H1
  |some (false,_)=>R (tN K a) H1
  |none=>(∃xs,b8 K H1 a xs)/\R (tN K a) H1
 |_=>False
theorem Cm{l:Expr}(hl:PE X l tl):PI X tg l (vH X.K tl):=by
 intro pins s σ H R I h;refine bL (hl pins s σ H _ I h) λv s1 hq2=>?_;obtain⟨x,H1,I1,r1,q1⟩:=hq2;obtain⟨a,rfl,q⟩:∃a,x=V.ref a/\(((∃xs,bZ X.K H1 a xs)/\R (vK X.K a) H1)\/((∃xs,b8 X.K H1 a xs)/\R (tN X.K a) H1)):=by
  match x,q1 with
  |.ref a,q1 =>
   simp only at q1
   split at q1
   ·rename_i xs e;exact⟨a,rfl,.inl ⟨⟨xs,fK e⟩,q1⟩⟩
   ·rename_i xs e;exact⟨a,rfl,.inr ⟨⟨xs,f9 e⟩,q1⟩⟩
   ·exact⟨a,rfl,.inr q1⟩
 cases r1;rcases q with ⟨⟨xs,hq⟩,q⟩|⟨⟨xs,hq⟩,q⟩
 ·obtain⟨its,rv,p,hz⟩:=I1.list hq;refine HK p.isList ?_;refine⟨s1.heap.objs.size,[s1.heap.objs.size],_,_,H1,rfl,I1.kept (t':=s1.toks) λb o e=>Gk _ e,kg a _,⟨_,G0 _ rfl,rfl,rfl⟩,λb hb=>?_,q⟩;have e:b=s1.heap.objs.size:=by simpa using hb
  subst e;exact I1.lO (Gs _) (I1.aX.fresh (Gs _))
 ·obtain⟨its,rv,p,hz⟩:=I1.tuple hq;refine HF (show s1.heap.IsTuple a its.toArray from p) ?_;refine⟨s1.heap.objs.size,[s1.heap.objs.size],_,_,H1,rfl,I1.kept (t':=s1.toks) λb o e=>Gk _ e,jl a _,⟨_,G0 _ rfl,rfl,rfl⟩,λb hb=>?_,q⟩;have e:b=s1.heap.objs.size:=by simpa using hb
  subst e;exact I1.lO (Gs _) (I1.aX.fresh (Gs _))
end
noncomputable def qi(J:It)(g:TG)(tb:TS)(D:Ends)(σ:St)(H:Hp):Prop:=∃W:Nat->Nat->St->Hp->Prop,(∃m,W 0 m σ H)/\∀i m σ H,W i m σ H ->
 (J.stop i H/\D.nx σ H)\/(J.go i H/\∃N:St->Hp->Prop,(∀σ' H',N σ' H'->∃m',m'<m/\W (i+1) m' σ' H')/\∀x H',J.Ag i H x H'->g x σ H' λσ2 H2=>tb {D with nx:=N,ct:=N,bk:=D.nx} σ2 H2)
theorem zN(wi:TI)(g:TG)(tb:TS)(D:Ends)(σ:St)(H:Hp):Co wi g tb D σ H=wi σ H λJ H1=>qi J g tb D σ H1:=rfl
noncomputable def kr(J:It)(k:Nat)(g:TG)(tc:TT)(te:TE)(Q:VK)(σ:St)(H1:Hp):Prop:=∀D,H1 D=none ->
 ∃W:Nat->Nat->List V->St->Hp->Prop,(∃m,W 0 m [] (List.replicate k none++σ) (upd H1 D (.lst [])))/\∀i m ys σ' H',W i m ys σ' H'->H' D=some (.lst ys) /\
  ((J.stop i H'/\Q (.ref D) H')\/(J.go i H'/\ys.length<sizeLine/\∀x H2,J.Ag i H' x H2->g x σ' H2 λσ3 H3=>tc σ3 H3 λb H4 =>
   if b=true then te σ3 H4 λv H5=>H5 D=some (.lst ys)/\∃m',m'<m/\W (i+1) m' (ys++[v]) σ3 (upd H5 D (.lst (ys++[v])))
   else ∃m',m'<m/\W (i+1) m' ys σ3 H4))
theorem uQ(wi:TI)(k:Nat)(g:TG)(tc:TT)(te:TE)(σ:St)(H:Hp)(Q:VK):jB wi k g tc te σ H Q=wi σ H λJ H1=>kr J k g tc te Q σ H1:=rfl
section
variable {K:LA} {g:TG} {tb:TS} {D:Ends} {σ:St} {H:Hp} {te:TE} {Q:VK}
theorem fU(Pv:Nat->St->Hp->Prop)(h0:Pv 0 σ H)(hl:∀i σ H,i<=xs.length->Pv i σ H->bZ K H a xs)
  (hs:∀i x σ H,xs[i]?=some x->Pv i σ H->g x σ H λσ2 H2=>tb {D with nx:=Pv (i+1),ct:=Pv (i+1),bk:=D.nx} σ2 H2) (hd:∀σ H,Pv xs.length σ H->D.nx σ H):qi (vK K a) g tb D σ H:=uS Pv h0 hl hs hd
theorem jj(Pv:Nat->St->Hp->Prop)(h0:Pv 0 σ H)(hl:∀i σ H,i<=xs.length->Pv i σ H->b8 K H a xs)
  (hs:∀i x σ H,xs[i]?=some x->Pv i σ H->g x σ H λσ2 H2=>tb {D with nx:=Pv (i+1),ct:=Pv (i+1),bk:=D.nx} σ2 H2) (hd:∀σ H,Pv xs.length σ H->D.nx σ H):qi (tN K a) g tb D σ H:=zj Pv h0 hl hs hd
theorem cm{n:Nat}(Pv:Nat->St->Hp->Prop)(h0:Pv 0 σ H)
  (hs:∀i σ H,i<n->Pv i σ H->g (.int (lo+i)) σ H λσ2 H2=>tb {D with nx:=Pv (i+1),ct:=Pv (i+1),bk:=D.nx} σ2 H2) (hd:∀σ H,Pv n σ H->D.nx σ H):qi (wj lo n) g tb D σ H:=tT Pv h0 hs hd
theorem qe(Pv:Nat->St->Hp->Prop)(h0:Pv 0 σ H)(hl:∀i σ H,i<=xs.length->Pv i σ H->b8 K H a xs)
  (hs:∀i x σ H p,xs[i]?=some x->Pv i σ H->H p=none->g (.ref p) σ (upd H p (.tup [.int i,x])) λσ2 H2=>tb {D with nx:=Pv (i+1),ct:=Pv (i+1),bk:=D.nx} σ2 H2) (hd:∀σ H,Pv xs.length σ H->D.nx σ H) :
  qi (uX K a) g tb D σ H:=by
 refine⟨λi m σ H=>m=xs.length-i/\i<=xs.length/\Pv i σ H,⟨xs.length,by simp,GF _,h0⟩,?_⟩
 rintro i m σ H ⟨rfl,hi,p⟩;have q:=hl i σ H hi p;by_cases hlt:i<xs.length
 ·refine .inr ⟨⟨xs[i],xs,q,by simp[hlt]⟩,Pv (i+1),λσ' H' p'=>⟨xs.length-(i+1),by lia,rfl,hlt,p'⟩,λx H' y=>?_⟩
  obtain⟨b,y,hy,fr,rfl,rfl⟩:=y;exact hs i y σ H b (hy xs q) p fr
 ·have e:i=xs.length:=by lia
  subst e;exact .inl ⟨⟨xs,q,rfl⟩,hd σ H p⟩
theorem ng{n:Nat}(hn:n<=sizeLine)(Pv:Addr->Nat->List V->Hp->Prop)(h0:∀D,H D=none->Pv D 0 [] (upd H D (.lst [])))(hD:∀D i ys H',Pv D i ys H'->H' D=some (.lst ys)/\ys.length=i)
  (hs:∀D i ys H' (R:VK),i<n->Pv D i ys H'->(∀v H5,H5 D=some (.lst ys)->Pv D (i+1) (ys++[v]) (upd H5 D (.lst (ys++[v])))->R v H5)->te (some (.int (lo+i))::σ) H' R) (hd:∀D ys H',Pv D n ys H'->Q (.ref D) H') :
  kr (wj lo n) 1 (bq 0) gi te Q σ H:=by
 intro D hD0;refine⟨λi m ys σ' H'=>m=n-i/\i<=n/\Pv D i ys H'/\∃o,σ'=o::σ,⟨n,by simp,GF _,h0 D hD0,none,rfl⟩,?_⟩
 rintro i m ys σ' H' ⟨rfl,hi,p,o,rfl⟩;obtain⟨hDi,hly⟩:=hD _ _ _ _ p;refine⟨hDi,?_⟩;by_cases hlt:i<n
 ·refine .inr ⟨hlt,by lia,λx H2 y=>?_⟩
  obtain⟨rfl,rfl⟩:=y;unfold bq gi;dsimp only;rw[if_pos rfl];exact hs D i ys H2 _ hlt p λv H5 q1 q2=>⟨q1,n-(i+1),by lia,rfl,hlt,q2,_,rfl⟩
 ·have e:i=n:=by lia
  subst e;exact .inl ⟨Gs _,hd D ys H' p⟩
theorem dD(hn:xs.length<=sizeLine)(Pv:Addr->Nat->List V->Hp->Prop)(h0:∀D,H D=none->Pv D 0 [] (upd H D (.lst [])))(hD:∀D i ys H',Pv D i ys H'->H' D=some (.lst ys)/\ys.length=i)
  (hl:∀D i ys H',Pv D i ys H'->b8 K H' a xs)
  (hs:∀D i ys H' x (R:VK),xs[i]?=some x->Pv D i ys H'->(∀v H5,H5 D=some (.lst ys)->Pv D (i+1) (ys++[v]) (upd H5 D (.lst (ys++[v])))->R v H5)->te (some x::σ) H' R) (hd:∀D ys H',Pv D xs.length ys H'->Q (.ref D) H') :
  kr (tN K a) 1 (bq 0) gi te Q σ H:=by
 intro D hD0;refine⟨λi m ys σ' H'=>m=xs.length-i/\i<=xs.length/\Pv D i ys H'/\∃o,σ'=o::σ,⟨xs.length,by simp,GF _,h0 D hD0,none,rfl⟩,?_⟩
 rintro i m ys σ' H' ⟨rfl,hi,p,o,rfl⟩;obtain⟨hDi,hly⟩:=hD _ _ _ _ p;have q:=hl _ _ _ _ p;refine⟨hDi,?_⟩;by_cases hlt:i<xs.length
 ·refine .inr ⟨⟨xs,xs[i],q,by simp[hlt]⟩,by lia,λx H2 y=>?_⟩
  obtain⟨rfl,y⟩:=y;unfold bq gi;dsimp only;rw[if_pos rfl];exact hs D i ys H2 x _ (y xs q) p λv H5 q1 q2=>⟨q1,xs.length-(i+1),by lia,rfl,hlt,q2,_,rfl⟩
 ·have e:i=xs.length:=by lia
  subst e;exact .inl ⟨⟨xs,q,Gs _⟩,hd D ys H' p⟩
end
namespace Ap
theorem pO(i:Nat)(σ:St)(H:Hp)(Q:VK):L2.pO i σ H Q=∃v,σ[i]?=some (some v)/\Q v H:=rfl
theorem tC(v:V)(σ:St)(H:Hp)(Q:VK):L2.tC v σ H Q=Q v H:=rfl
theorem tZ(r:R2)(ta tb:TE)(σ:St)(H:Hp)(Q:VK):L2.tZ r ta tb σ H Q=ta σ H λx H1=>tb σ H1 λy H2=>r x y H2 Q:=rfl
theorem DT(r:V->Hp->VK->Prop)(ta:TE)(σ:St)(H:Hp)(Q:VK):L2.DT r ta σ H Q=ta σ H λx H1=>r x H1 Q:=rfl
theorem iF(t:TE)(σ:St)(H:Hp)(Q:Bool->Hp->Prop):L2.iF t σ H Q=t σ H λx H'=>∃k,x=.bl k/\Q k H':=rfl
theorem Dh(t:TT)(ta tb:TE)(σ:St)(H:Hp)(Q:VK):L2.Dh t ta tb σ H Q=t σ H λc H1=>if c=true then ta σ H1 Q else tb σ H1 Q:=rfl
theorem ur(t u:TT)(σ:St)(H:Hp)(Q:Bool->Hp->Prop):L2.ur t u σ H Q=t σ H λc H1=>if c=true then u σ H1 Q else Q false H1:=rfl
theorem E1(t u:TT)(σ:St)(H:Hp)(Q:Bool->Hp->Prop):L2.E1 t u σ H Q=t σ H λc H1=>if c=true then Q true H1 else u σ H1 Q:=rfl
theorem v8(t:TT)(σ:St)(H:Hp)(Q:Bool->Hp->Prop):L2.v8 t σ H Q=t σ H λc H1=>Q (!c) H1:=rfl
theorem nQ(ta tb:TE)(σ:St)(H:Hp)(Q:VK):L2.nQ ta tb σ H Q=ta σ H λx H1=>∃c,x=.bl c/\if c=true then tb σ H1 Q else Q (.bl false) H1:=rfl
theorem jy(r r':R2)(ta tb tc:TE)(σ:St)(H:Hp)(Q:VK):L2.jy r r' ta tb tc σ H Q=ta σ H λx H1=>tb σ H1 λy H2=>r x y H2 λz H3=>∃k,z=.bl k/\(if k=true then tc σ H3 λw' H4=>r' y w' H4 Q else Q (.bl false) H3):=rfl
theorem tK(vs:List V)(σ:St)(H:Hp)(Q:List V->Hp->Prop):L2.tK vs σ H Q=Q vs H:=rfl
theorem iI(σ:St)(H:Hp)(Q:List V->Hp->Prop):L2.iI σ H Q=Q [] H:=rfl
theorem i8(ta:TE)(tr:TA)(σ:St)(H:Hp)(Q:List V->Hp->Prop):L2.i8 ta tr σ H Q=ta σ H λx H1=>tr σ H1 λxs H2=>Q (x::xs) H2:=rfl
theorem vn(t:TA)(σ:St)(H:Hp)(Q:VK):L2.vn t σ H Q=t σ H λxs H1=>xs.length<=sizeLine/\∀p,H1 p=none->Q (.ref p) (upd H1 p (.tup xs)):=rfl
theorem vj(t:TA)(σ:St)(H:Hp)(Q:VK):L2.vj t σ H Q=t σ H λxs H1=>xs.length<=sizeLine/\∀p,H1 p=none->Q (.ref p) (upd H1 p (.lst xs)):=rfl
theorem gE(sp:Sp)(dvs:List V)(E:XK)(t:TA)(σ:St)(H:Hp)(Q:VK):L2.gE sp dvs E t σ H Q=t σ H λvs H1=>sp (vs++dvs) H1 Q E:=rfl
theorem xG(r:List V->Hp->VK->Prop)(t:TA)(σ:St)(H:Hp)(Q:VK):L2.xG r t σ H Q=t σ H λvs H1=>r vs H1 Q:=rfl
theorem CJ(K:LA)(T:String)(r:V->List V->Hp->VK->Prop)(to:TE)(t:TA)(σ:St)(H:Hp)(Q:VK):L2.CJ K T r to t σ H Q=to σ H λx H1=>DM K T x H1/\t σ H1 λxs H2=>r x xs H2 Q:=rfl
theorem vI(K:LA)(T:String)(r:V->List V->Hp->VK->Prop)(to:TE)(σ:St)(H:Hp)(Q:VK):L2.vI K T r to σ H Q=to σ H λx H1=>DM K T x H1/\r x [] H1 Q:=rfl
theorem E2(r:V->Option Int->Option Int->Hp->VK->Prop)(te:TE)(tl th:TO)(σ:St)(H:Hp)(Q:VK):L2.E2 r te tl th σ H Q=te σ H λx H1=>tl σ H1 λl H2=>th σ H2 λu H3=>r x l u H3 Q:=rfl
theorem gL(σ:St)(H:Hp)(Q:Option Int->Hp->Prop):L2.gL σ H Q=Q none H:=rfl
theorem oF(t:TE)(σ:St)(H:Hp)(Q:Option Int->Hp->Prop):L2.oF t σ H Q=t σ H λx H1=>∃i,x=.int i/\Q (some i) H1:=rfl
theorem sT(t u:TS)(D:Ends)(σ:St)(H:Hp):L2.sT t u D σ H=t {D with nx:=u D} σ H:=rfl
theorem lh(te:TE)(g:TG)(D:Ends)(σ:St)(H:Hp):L2.lh te g D σ H=te σ H λx H1=>g x σ H1 D.nx:=rfl
theorem bq(i:Nat)(v:V)(σ:St)(H:Hp)(Q:St->Hp->Prop):L2.bq i v σ H Q=Q (σ.set i (some v)) H:=rfl
theorem vD(to ti:TE)(t:zk)(v:V)(σ:St)(H:Hp)(Q:St->Hp->Prop):L2.vD to ti t v σ H Q=to σ H λo H1=>ti σ H1 λi H2=>t o i v H2 λH3=>Q σ H3:=rfl
theorem oH(K:LA)(n:Nat)(t:qX)(v:V)(σ:St)(H:Hp)(Q:St->Hp->Prop):L2.oH K n t v σ H Q=∃a xs,v=.ref a/\b8 K H a xs/\xs.length=n/\t xs σ H Q:=rfl
theorem fH(t:TG)(u:qX)(v:V)(vs:List V)(σ:St)(H:Hp)(Q:St->Hp->Prop):L2.fH t u (v::vs) σ H Q=t v σ H λσ' H'=>u vs σ' H' Q:=by
 refine propext ⟨λhq1=>?_,λh=>⟨v,vs,rfl,h⟩⟩;obtain⟨a,b,e,h⟩:=hq1
 cases e;exact h
theorem oE(σ:St)(H:Hp)(Q:St->Hp->Prop):L2.oE [] σ H Q=Q σ H:=propext ⟨λh=>h.2,λh=>⟨rfl,h⟩⟩
theorem wL(te:TE)(D:Ends)(σ:St)(H:Hp):L2.wL te D σ H=te σ H D.rt:=rfl
theorem mP(te:TE)(D:Ends)(σ:St)(H:Hp):L2.mP te D σ H=te σ H λ_ H1=>D.nx σ H1:=rfl
theorem lJ(c:TT)(t u:TS)(D:Ends)(σ:St)(H:Hp):L2.lJ c t u D σ H=c σ H λb H1=>if b=true then t D σ H1 else u D σ H1:=rfl
theorem nN(D:Ends)(σ:St)(H:Hp):L2.nN D σ H=D.nx σ H:=rfl
theorem jZ(ta:TA)(σ:St)(H:Hp)(R:It->Hp->Prop):L2.jZ ta σ H R=ta σ H λvs H1=>∃j:Int,vs=[.int j]/\-(2^62)<=j/\j<2^62/\R (wj 0 j.toNat) H1:=rfl
theorem j_(ta:TA)(σ:St)(H:Hp)(R:It->Hp->Prop):L2.j_ ta σ H R=ta σ H λvs H1=>∃i j:Int,vs=[.int i,.int j]/\(-(2^62)<=i/\i<2^62/\-(2^62)<=j/\j<2^62)/\R (wj i (j-i).toNat) H1:=rfl
theorem vH(K:LA)(tl:TE)(σ:St)(H:Hp)(R:It->Hp->Prop):L2.vH K tl σ H R=tl σ H λx H1=>match x with
 |.ref a=>match sq H1 a with
  |some (true,_)=>R (vK K a) H1
  |some (false,_)=>R (tN K a) H1
  |none=>(∃xs,b8 K H1 a xs)/\R (tN K a) H1
 |_=>False:=rfl
theorem mS(K:LA)(ta:TA)(σ:St)(H:Hp)(R:It->Hp->Prop):L2.mS K ta σ H R=ta σ H λvs H1=>∃a,vs=[.ref a]/\(∃xs,b8 K H1 a xs)/\R (uX K a) H1:=rfl
theorem rI(C:Int->Int->Prop)(g:Int->Int->V)(i j:Int)(H:Hp)(Q:VK):L2.rI C g (.int i) (.int j) H Q=(C i j/\Q (g i j) H):=by
 refine propext ⟨λhq2=>?_,λh=>⟨i,j,rfl,rfl,h⟩⟩;obtain⟨a,b,e1,e2,h⟩:=hq2
 cases e1;cases e2;exact h
theorem sZ(g:Int->Int->V)(i j:Int)(H:Hp)(Q:VK):L2.sZ g (.int i) (.int j) H Q=Q (g i j) H:=by
 refine propext ⟨λhq3=>?_,λh=>⟨i,j,rfl,rfl,h⟩⟩;obtain⟨a,b,e1,e2,h⟩:=hq3
 cases e1;cases e2;exact h
theorem rU(g:Int->V)(i:Int)(H:Hp)(Q:VK):L2.rU g (.int i) H Q=Q (g i) H:=by
 refine propext ⟨λhq4=>?_,λh=>⟨i,rfl,h⟩⟩;obtain⟨a,e1,h⟩:=hq4
 cases e1;exact h
theorem An(K:LA)(i j:Int)(H:Hp)(Q:VK):rO K (.int i) (.int j) H Q=Q (.int (i+j)) H:=rfl
theorem DW(K:LA)(i j:Str)(H:Hp)(Q:VK):rO K (.str i) (.str j) H Q=(i.length+j.length<=sizeLine/\Q (.str (i++j)) H):=rfl
theorem DO(i j:Int)(H:Hp)(Q:VK):C8 (.int i) (.int j) H Q=(sd i j/\Q (.int (i*j)) H):=rfl
theorem Fi(i j:Int)(H:Hp)(Q:VK):A0 (.int i) (.int j) H Q=Q (.bl (decide (i=j))) H:=by
 have e:decide (V.int i=V.int j)=decide (i=j):=by rw[Ij];constructor<;>intro h<;>(try cases h)<;>(try rw[h])<;>rfl
 unfold A0;rw[e];exact propext ⟨λh=>h.2,λh=>⟨rfl,h⟩⟩
theorem xO(i j:Str)(H:Hp)(Q:VK):A0 (.str i) (.str j) H Q=Q (.bl (decide (i=j))) H:=by
 have e:decide (V.str i=V.str j)=decide (i=j):=by rw[Ij];constructor<;>intro h<;>(try cases h)<;>(try rw[h])<;>rfl
 unfold A0;rw[e];exact propext ⟨λh=>h.2,λh=>⟨rfl,h⟩⟩
theorem Fj(i j:Int)(H:Hp)(Q:VK):CN (.int i) (.int j) H Q=Q (.bl (!decide (i=j))) H:=by
 have e:decide (V.int i=V.int j)=decide (i=j):=by rw[Ij];constructor<;>intro h<;>(try cases h)<;>(try rw[h])<;>rfl
 unfold CN;rw[e];exact propext ⟨λh=>h.2,λh=>⟨rfl,h⟩⟩
theorem Fo(i j:Str)(H:Hp)(Q:VK):CN (.str i) (.str j) H Q=Q (.bl (!decide (i=j))) H:=by
 have e:decide (V.str i=V.str j)=decide (i=j):=by rw[Ij];constructor<;>intro h<;>(try cases h)<;>(try rw[h])<;>rfl
 unfold CN;rw[e];exact propext ⟨λh=>h.2,λh=>⟨rfl,h⟩⟩
theorem FG(K:LA)(b:Bool)(H:Hp)(k:Bool):uT K (.bl b) H k=(k=b):=rfl
end Ap
noncomputable def KB(ex:List Addr)(H H':Hp):Prop:=∀b o,H b=some o->b∉ex->H' b=some o
theorem KB.refl(ex:List Addr)(H:Hp):KB ex H H:=λ_ _ e _=>e
theorem KB.trans{H1 H2:Hp}(a:KB ex H H1)(b:KB ex H1 H2):KB ex H H2:=λc o e n=>b c o (a c o e n) n
theorem KB.mono{ex':List Addr}(h:KB ex H H')(s:∀b∈ex,b∈ex'):KB ex' H H':=λb o e n=>h b o e λz=>n (s b z)
theorem KB.all(h:KB [] H H'):KB ex H H':=h.mono (by simp)
theorem KB.new(h:H p=none):KB ex H (upd H p o):=λb u e _=>by rw[ae (ai e h)];exact e
theorem KB.set(h:p∈ex):KB ex H (upd H p o):=λb u e n=>by rw[ae (λ(z:b=p)=>n (by rw[z];exact h))];exact e
theorem KB.free(h:KB ex H H'){b:Addr}(n:b∉ex)(e:H' b=none):H b=none:=by
 cases q:H b with
 |none=>rfl
 |some o=>rw[h b o q n] at e;cases e
theorem KB.DS(h:KB ex H H')(n:a∉ex)(q:bZ K H a xs):bZ K H' a xs:=by
 rcases q with (q|⟨o,q⟩)|q
 ·exact .inl (.inl (h _ _ q n))
 ·exact .inl (.inr ⟨o,h _ _ q n⟩)
 ·exact .inr q
theorem Bg(x:α)(r:List α):bX (x::r) 0=some x:=bI (j:=0) rfl
theorem yb(a x:α)(r:List α):bX (a::x::r) 1=some x:=bI (j:=1) rfl
theorem Fq(a b x:α)(r:List α):bX (a::b::x::r) 2=some x:=bI (j:=2) rfl
theorem EX(a b c x:α)(r:List α):bX (a::b::c::x::r) 3=some x:=bI (j:=3) rfl
theorem jc{n:Nat}{i:Int}(h0:0<=i)(h:i<n):lM n i=some i.toNat:=by unfold lM;rw[Gp h0,Gp h]
namespace Ap
theorem fu(K:LA)(p:Addr)(i:Int)(H:Hp)(Q:VK):Cp K (.ref p) (.int i) H Q=(match sq H p with
  |some (_,xs)=>(match bX xs i with|some v=>Q v H|none=>False)
  |none=>∃xs v,b8 K H p xs/\bX xs i=some v/\Q v H):=rfl
theorem D_(K:LA)(z:Str)(i:Int)(H:Hp)(Q:VK):Cp K (.str z) (.int i) H Q=(z.length<=sizeLine/\(match bX z.cps.toList i with|some c=>Q (.str ⟨#[c]⟩) H|none=>False)):=rfl
theorem setRef(p:Addr)(k:Int)(v:V)(H:Hp)(Q:Hp->Prop):yA (.ref p) (.int k) v H Q=(match H p with
  |some (.lst xs)=>(match lM xs.length k with|some j=>Q (upd H p (.lst (xs.set j v)))|none=>False)
  |_=>False):=rfl
theorem xx(K:LA)(p:Addr)(H:Hp)(Q:VK):vO K [.ref p] H Q=(match sq H p with
  |some (_,ys)=>Q (.int ys.length) H
  |none=>∃ys,b8 K H p ys/\Q (.int ys.length) H):=rfl
theorem BY(K:LA)(y:Str)(H:Hp)(Q:VK):vO K [.str y] H Q=(y.length<=sizeLine/\Q (.int y.length) H):=rfl
theorem DU(i j:Int)(H:Hp)(Q:VK):Et [.int i,.int j] H Q=Q (.int (if j<i then j else i)) H:=rfl
theorem FH(k:Bool)(H:Hp)(Q:VK):Ey [.bl k] H Q=Q (.int (if k=true then 1 else 0)) H:=rfl
theorem oN(K:LA)(p:Addr)(H:Hp)(Q:VK):ma K [.ref p] H Q=(match sq H p with
  |some (true,ys)=>∀l,H l=none->Q (.ref l) (upd H l (.tup ys))
  |some (false,_)=>Q (.ref p) H
  |none=>∃ys,b8 K H p ys/\Q (.ref p) H):=rfl
theorem CU(K:LA)(p:Addr)(lo hi:Option Int)(H:Hp)(Q:VK):ES K (.ref p) lo hi H Q=(match sq H p with
  |some (true,xs)=>∀q,H q=none->Q (.ref q) (upd H q (.lst (iM xs lo hi)))
  |some (false,xs)=>xg K (.ref p) lo hi H Q
  |none=>xg K (.ref p) lo hi H Q):=rfl
theorem Dc(K:LA)(neg:Bool)(x:V)(p:Addr)(H:Hp)(Q:VK):DE K neg x (.ref p) H Q=(match sq H p with
  |some (_,xs)=>dw x=true/\xs.all dw=true/\Q (.bl (if neg then !jV x xs else jV x xs)) H
  |none=>∃xs,b8 K H p xs/\dw x=true/\xs.all dw=true/\Q (.bl (if neg then !jV x xs else jV x xs)) H):=rfl
theorem FF(K:LA)(x:V)(T:String)(H:Hp)(Q:VK):Cc K [x,.ty T] H Q=(T∈["bool","int","str","list","tuple","dict"]/\match Bv H x with
  |some t=>Q (.bl (gJ t T)) H
  |none=>∃t b,gr K H x t/\PySem.W.kitOne K t (.type T)=some b/\Q (.bl b) H):=rfl
theorem addRef(K:LA)(a b:Addr)(H:Hp)(Q:VK):rO K (.ref a) (.ref b) H Q=(match H a,H b with
  |some (.lst xs),some (.lst ys)=>xs.length+ys.length<=sizeLine/\∀p,H p=none->Q (.ref p) (upd H p (.lst (xs++ys)))
  |some (.tup xs),some (.tup ys)=>xs≠[]/\ys≠[]/\xs.length+ys.length<=sizeLine/\∀p,H p=none->Q (.ref p) (upd H p (.tup (xs++ys)))
  |_,_=>False):=rfl
theorem BZ(H:Hp)(p:Addr)(xs:List V):sq (upd H p (.lst xs)) p=some (true,xs):=aF aa
theorem yK(H:Hp)(p:Addr)(xs:List V):sq (upd H p (.tup xs)) p=some (false,xs):=aG aa
theorem xM(H:Hp)(p:Addr)(o:HO):upd H p o p=some o:=aa
end Ap
theorem ao{t u:TS}{D:Ends}(h:∀N,N=u D->t {D with nx:=N} σ H):sT t u D σ H:=h _ rfl
structure QE (X:Cx) (e:Expr) (t:TE):Prop where h:PE X e t
structure QT (X:Cx) (e:Expr) (t:TT):Prop where h:PT X e t
structure QW (X:Cx) (e:Expr) (t:TT):Prop where h:PW X e t
structure QA (X:Cx) (es:List Expr) (t:TA):Prop where h:PA X es t
structure QS (X:Cx) (st:Stmt) (t:TS):Prop where h:PS X st t
structure QB (X:Cx) (sts:List Stmt) (t:TS):Prop where h:oY X sts t
structure QI (X:Cx) (tg it:Expr) (t:TI):Prop where h:PI X tg it t
structure QG (X:Cx) (e:Expr) (t:TG):Prop where h:PG X e t
structure EK (X:Cx) (es:List Expr) (t:qX):Prop where h:CP X es t
structure QO (X:Cx) (e:Option Expr) (t:TO):Prop where h:PO X e t
structure EJ (X:Cx) (es:List Expr) (t:TT):Prop where h:Bw X es t
namespace Z
noncomputable def sim(b:Expr):Bool:=match b with
 |.Name .. |.Constant .. |.Call .. |.BinOp .. |.Subscript .. |.Attribute .. |.UnaryOp .. |.Compare .. |.IfExp ..=>true
 |_=>false
theorem FV(h:sim b=true):qP b:=by
 cases b<;>first | (intro _ _;rfl)|cases h
noncomputable def FK(b:Expr):Bool:=match b with
 |.Name .. |.Call .. |.Subscript .. |.Attribute ..=>true
 |_=>false
theorem ptr(h:FK b=true):∀whole,isTrue b env whole=(do let v <- whole;standAt b.pos;holding [v] (truthy v)):=by
 cases b<;>first | (intro _;rfl)|cases h
noncomputable def EU(b:Expr):Bool:=match b with
 |.ListComp .. |.SetComp .. |.DictComp ..=>false
 |_=>true
theorem FW{tg:Option Expr}{l:Nat}(h:EU b=true):swapsWith b tg l env=pure false:=by
 cases b<;>first|rfl|cases h
section
variable {X:Cx}
theorem aP(K:LA)(hK:X.K=K):dz X (binaryOp .Add) (rO K):=by subst hK;exact yT
theorem yH(K:LA)(hK:X.K=K){k:Nat}(hu:k<cLine):dz X (compareOp .In) (DE K false):=by subst hK;exact B5 hu
theorem ax(K:LA)(hK:X.K=K){k:Nat}(hu:k<cLine):tG X (Cp K):=by subst hK;exact Gd hu
theorem Fv(K:LA)(hK:X.K=K):zV X (ES K):=by subst hK;exact zF
theorem Ae(K:LA)(hK:X.K=K):zV X (Ei K):=by subst hK;exact qx
theorem bK(K:LA)(hK:X.K=K):bC X (.builtin "len") (vO K):=by subst hK;exact rR
theorem Bq(K:LA)(hK:X.K=K):bC X (.builtin "len") (λxs H Q=>∃x n,xs=[x]/\Dj K x H n/\Q (.int n) H):=by subst hK;exact gC
theorem j6(K:LA)(hK:X.K=K):bC X (.builtin "isinstance") (Cc K):=by subst hK;exact sN
theorem cX(K:LA)(hK:X.K=K):bC X (.type "tuple") (ma K):=by subst hK;exact mH
theorem Em(K:LA)(hK:X.K=K)(hc:X.calm=true):bC X (.builtin "sum") (λxs H Q=>∃(p:Addr) (ns:List Int),xs=[.ref p]/\bZ K H p (ns.map V.int)/\Q (.int ns.sum) H):=by subst hK;exact tB hc
theorem AV(K:LA)(hK:X.K=K):rQ X "str.join" (rJoin K):=by subst hK;exact y3
end
section
variable {X:Cx} {a b c e o:Expr} {es:List Expr} {ta tb tc te to:TE} {t:TA} {pos p p2:Pos} {tA tB':TT} {rest:List Expr} {x:Str}
theorem int{i:Int}:QE X (.Constant (.int i) j pos) (tC (.int i)):=⟨xy⟩
theorem bl{i:Bool}:QE X (.Constant (.bool i) j pos) (tC (.bl i)):=⟨Am⟩
theorem aQ:QE X (.Constant .none j pos) (tC .aQ):=⟨x9⟩
theorem str{i:Str}:QE X (.Constant (.str i) j pos) (tC (.str i)):=⟨qf⟩
theorem v(i:Nat)(hN:autoParam (X.N[i]?=some x) ℜ0)(hv:autoParam (DG X.env.scope x) ℜ4)(hd:autoParam ((x ==("__debug__":Str))=false) ℜ1)
  (gz:autoParam ((x ==("__classdict__":Str))=false) ℜ1):QE X (.Name x pos) (pO i):=⟨pv i hN hv hd gz⟩
theorem glob{w:V}{u:Value}(hg:Gl X x)(hm:X.mg x=some u)(r:RelV w u)(hd:autoParam ((x ==("__debug__":Str))=false) ℜ1):QE X (.Name x pos) (tC w):=⟨qQ hg hm r hd⟩
theorem op{o:Operator}{r:R2}(ho:dz X (binaryOp o) r)(ha:QE X a ta)(hb:QE X b tb):QE X (.BinOp a o b pos) (tZ r ta tb):=⟨Dw ho ha.h hb.h⟩
theorem un{o:UnaryOp}{r:V->Hp->VK->Prop}(ho:EG X (unaryOp o) r)(ha:QE X a ta):QE X (.UnaryOp o a pos) (DT r ta):=⟨Eu ho ha.h⟩
theorem cmp{o:CmpOp}{r:R2}(ho:dz X (compareOp o) r)(ha:QE X a ta)(hb:QE X b tb)(hm:autoParam (behindInMarks o b=false) ℜ0):QE X (.Compare a [o] [b] pos) (tZ r ta tb):=⟨yE ho ha.h hb.h hm⟩
theorem and(ha:QE X a ta)(hb:QE X (.BoolOp .And (b::rest) pos) tb):QE X (.BoolOp .And (a::b::rest) pos) (nQ ta tb):=⟨Bf ha.h hb.h⟩
theorem one{o:BoolOp}(ha:QE X a ta):QE X (.BoolOp o [a] pos) ta:=⟨AQ ha.h⟩
theorem not(ha:QE X a ta):QE X (.UnaryOp .Not a pos) (oh ta):=⟨B1 ha.h⟩
theorem Ek(hc:QT X c tA)(ha:QE X a ta)(hb:QE X b tb):QE X (.IfExp c a b pos) (Dh tA ta tb):=⟨uP hc.h ha.h hb.h⟩
theorem slice{r:V->Option Int->Option Int->Hp->VK->Prop}{lo hi:Option Expr}{tl th:TO}(hr:zV X r)(he:QE X e te)(hl:QO X lo tl)(hu:QO X hi th):QE X (.Subscript e (.Slice lo hi none p2) pos) (E2 r te tl th):=⟨vz hr he.h hl.h hu.h⟩
theorem CS:QO X none gL:=⟨xZ⟩
theorem m6(he:QE X e te):QO X (some e) (oF te):=⟨xI he.h⟩
theorem ix{r:R2}(hr:tG X r)(ha:QE X a ta)(hb:QE X b tb)(hs:autoParam (sim b=true) ℜ0):QE X (.Subscript a b pos) (tZ r ta tb):=⟨Aw hr ha.h hb.h (FV hs)⟩
theorem tup{k:Nat}(h:QA X es t):QE X (.Tuple es k pos) (vn t):=⟨BH h.h⟩
theorem lst(h:QA X es t):QE X (.List es pos) (vj t):=⟨Cq h.h⟩
theorem nil:QA X [] iI:=⟨vQ⟩
theorem cons(ha:QE X e te)(hr:QA X es t)(h:autoParam (fz e=true) ℜ0):QA X (e::es) (i8 te t):=⟨Fc ha.h hr.h h⟩
theorem consts{vs:List V}(h:qS es=some vs):QA X es (tK vs):=⟨ka h⟩
theorem cb{id:String}(hc:bC X (.builtin id) r)(hg:Gl X x)(hm:X.mg x=none)(hv:bootBuiltins x=some (.builtin id))(ha:QA X (e::es) t)(h1:autoParam (fz e=true) ℜ0)(h2:autoParam (es.all fz=true) ℜ0)(hn:autoParam (x≠"__name__") ℜ1)(hdb:autoParam ((x ==("__debug__":Str))=false) ℜ1):
  QE X (.Call (.Name x p) (e::es) [] pos) (xG r t):=⟨E4 hc hg hm hv ha.h h1 h2 hn hdb⟩
theorem ct{T:String}(hc:bC X (.type T) r)(hg:Gl X x)(hm:X.mg x=none)(hv:bootBuiltins x=some (.type T))(ha:QA X (e::es) t)(h1:autoParam (fz e=true) ℜ0)(h2:autoParam (es.all fz=true) ℜ0)(hn:autoParam (x≠"__name__") ℜ1)(hdb:autoParam ((x ==("__debug__":Str))=false) ℜ1):
  QE X (.Call (.Name x p) (e::es) [] pos) (xG r t):=⟨El hc hg hm hv ha.h h1 h2 hn hdb⟩
theorem BW{T:String}(hg:Gl X x)(hm:X.mg x=none)(hv:bootBuiltins x=some (.type T))(hn:autoParam (x≠"__name__") ℜ1)(hd:autoParam ((x ==("__debug__":Str))=false) ℜ1):QE X (.Name x pos) (tC (.ty T)):=⟨B2 hg hm hv hn hd⟩
theorem fn{k:Nat}{ps:List Str}{E:XK}(F:aq X.prog X.w X.K X.mg X.base CX k x ps sp)(hr:bE k X.A)(hg:Gl X x)(hx:Passes CX X E)(ha:QA X (e::es) t)(h1:autoParam (fz e=true) ℜ0)(h2:autoParam (es.all fz=true) ℜ0)(hdb:autoParam ((x ==("__debug__":Str))=false) ℜ1):
  QE X (.Call (.Name x p) (e::es) [] pos) (gE sp [] E t):=⟨Ex F hr hg hx ha.h h1 h2 hdb⟩
theorem FR{k:Nat}{ps:List Str}{E:XK}(F:aq X.prog X.w X.K X.mg X.base CX k x ps sp)(hr:bE k X.A)(hg:Gl X x)(hx:Passes CX X E)(hdb:autoParam ((x ==("__debug__":Str))=false) ℜ1):
  QE X (.Call (.Name x p) [] [] pos) (gE sp [] E iI):=⟨Bo F hr hg hx hdb⟩
theorem bm(K:LA)(hK:X.K=K){name:Str}{apos:Pos}{T id:String}{r:V->List V->Hp->VK->Prop}(pa:PlainAttrs T)(slot:Slot T name id)(hty:typeOf (.builtin id)=pure (.type "method_descriptor"))(hm:rQ X id r)(ho:QE X o to)(ha:QA X (e::es) t)
  (hbase:autoParam (attributeBase o name X.env (eval o X.env)=eval o X.env) ℜ0) (hline:autoParam ((apos.endLine == pos.line)=true) ℜ0) (h:autoParam ((e::es).all fz=true) ℜ0) (hl:autoParam ((e::es).length<30) ℜ1):QE X (.Call (.Attribute o name apos) (e::es) [] pos) (CJ K T r to t):=by
 subst hK;exact⟨AF pa slot hty hm ho.h ha.h hbase hline h hl⟩
theorem comp{wi:TI}{tc:TT}(S:dC osc ON scope own N)(hosc:X.env.scope=osc)(hON:X.N=ON)(hc:X.calm=true)(hi:QI X tg iter wi)
  (hg:∀C s H fp,QG (a_ X scope N C s H fp) tg g) (ht:∀C s H fp,EJ (a_ X scope N C s H fp) ifs tc) (he:∀C s H fp,QE (a_ X scope N C s H fp) elt te) (hs:autoParam (∀x,foldedSetIterable iter X.env x=pure x) ℜ3) :
  QE X (.ListComp elt [⟨tg,iter,ifs,0⟩] scope pos) (jB wi own.length g tc te):=⟨yW S hosc hON hc hi.h (λC s H fp=>(hg C s H fp).h) (λC s H fp=>(ht C s H fp).h) (λC s H fp=>(he C s H fp).h) hs⟩
theorem aR{o:CmpOp}{r:R2}(ho:dz X (compareOp o) r)(ha:QE X a ta)(hb:QE X b tb)(hm:autoParam (behindInMarks o b=false) ℜ0):QT X (.Compare a [o] [b] pos) (iF (tZ r ta tb)):=⟨yq ho ha.h hb.h hm⟩
theorem BP{o o':CmpOp}{r r':R2}(ho:dz X (compareOp o) r)(ho':dz X (compareOp o') r')(ha:QE X a ta)(hb:QE X b tb)(hc:QE X c tc)(hm:autoParam (lastMarks [o,o'] [b,c]=false) ℜ5):QT X (.Compare a [o,o'] [b,c] pos) (iF (jy r r' ta tb tc)):=⟨u0 ho ho' ha.h hb.h hc.h hm⟩
theorem tw(h:QW X e tA):QT X e tA:=⟨h.h.pt⟩
theorem yB(ha:QT X a tA):QT X (.UnaryOp .Not a pos) (v8 tA):=⟨C5 ha.h⟩
noncomputable def xU(K:LA)(ta:TE):TT:=λσ H Q=>ta σ H λx H'=>∃k,uT K x H' k/\Q k H'
theorem ll(K:LA)(hK:X.K=K)(ha:QE X a ta)(he:autoParam (FK a=true) ℜ0):QT X a (xU K ta):=by subst hK;exact⟨vL ha.h (ptr he)⟩
theorem kP(ha:QT X a tA):QW X (.BoolOp .And [a] pos) tA:=⟨yI ha.h⟩
theorem yN(ha:QT X a tA):QW X (.BoolOp .Or [a] pos) tA:=⟨Bm ha.h⟩
theorem tV(ha:QT X a tA)(hb:QW X (.BoolOp .And (b::rest) pos) tB'):QW X (.BoolOp .And (a::b::rest) pos) (ur tA tB'):=⟨Bd ha.h hb.h⟩
theorem ER(ha:QT X a tA)(hb:QW X (.BoolOp .Or (b::rest) pos) tB'):QW X (.BoolOp .Or (a::b::rest) pos) (E1 tA tB'):=⟨E9 ha.h hb.h⟩
theorem bo(hN:X.N.Nodup)(hi:X.N[i]?=some x)(hx:Loc X.env.scope x)(hf:autoParam (X.fn x=true\/X.env.scope.names.lookup x=some .local) ℜ2):QG X (.Name x pos) (bq i):=⟨yw hN hi hx hf⟩
theorem tm(K:LA)(hK:X.K=K){k n:Nat}{tg:qX}(hc:X.calm=true)(h:EK X es tg)(hn:autoParam ((assignEach es X.env).length=n) ℜ0)(hst:autoParam ((assignEach es X.env).findIdx? (·.1)=none) ℜ0):QG X (.Tuple es k pos) (oH K n tg):=by subst hK;exact⟨vG hc h.h hn hst⟩
theorem jn:EK X [] oE:=⟨yS⟩
theorem cH{u:qX}(h1:QG X e g)(h2:EK X es u)(hs:autoParam ((assignEach (e::es) X.env).map (·.2)=assign e X.env::(assignEach es X.env).map (·.2)) ℜ0):EK X (e::es) (fH g u):=⟨uW h1.h h2.h hs⟩
theorem lH{i:Expr}{ti:TE}(ho:QE X o to)(hi:QE X i ti)
  (ha:autoParam (∀v,assign (.Subscript o i pos) X.env v=(do
   let ov <- holding [v] (eval o X.env)
   let iv <- holding [v,ov] (eval i X.env)
   standAt pos
   holding [v,ov,iv] (setItem ov iv v)
   release [v,ov,iv] [])) ℜ3):QG X (.Subscript o i pos) (vD to ti yA):=⟨Cb ho.h hi.h uset ha⟩
theorem nF{ta:TA}(hg:Gl X "range")(hm:X.mg "range"=none)(ha:QA X [a] ta)(h:autoParam (fz a=true) ℜ0):QI X tg (.Call (.Name "range" p) [a] [] pos) (jZ ta):=⟨qk hg hm ha.h h⟩
theorem Fz{ta:TA}(hg:Gl X "range")(hm:X.mg "range"=none)(ha:QA X [a,b] ta)(h:autoParam (fz a=true) ℜ0)(h2:autoParam (fz b=true) ℜ0):QI X tg (.Call (.Name "range" p) [a,b] [] pos) (j_ ta):=⟨qa hg hm ha.h h h2⟩
theorem enum(K:LA)(hK:X.K=K){k:Nat}{ta:TA}(hg:Gl X "enumerate")(hm:X.mg "enumerate"=none)(ha:QA X [e] ta)(h1:autoParam (fz e=true) ℜ0):QI X (.Tuple es k tp) (.Call (.Name "enumerate" p) [e] [] pos) (mS K ta):=by subst hK;exact⟨yY hg hm ha.h h1⟩
theorem any(K:LA)(hK:X.K=K){l:Expr}(hl:QE X l tl):QI X tg l (vH K tl):=by subst hK;exact⟨Cm hl.h⟩
theorem xX:EJ X [] gi:=⟨yz⟩
theorem FZ(h:QT X c tA):EJ X [c] tA:=⟨zP h.h⟩
end
section
variable {X:Cx} {e o tg:Expr} {te to:TE} {st:Stmt} {sts xs ys:List Stmt} {t u:TS} {pos pos':Pos} {x:Str}
theorem bj:QB X [] nN:=⟨ye⟩
theorem ar(h:QS X st t):QB X [st] t:=⟨xT h.h⟩
theorem ag(h:QS X st t)(h2:QB X sts u):QB X (st::sts) (sT t u):=⟨w8 h.h h2.h⟩
theorem set(hN:X.N.Nodup)(hi:X.N[i]?=some x)(hx:Loc X.env.scope x)(he:QE X e te)(hs:autoParam (EU e=true) ℜ0)(hf:autoParam (X.fn x=true\/X.env.scope.names.lookup x=some .local) ℜ2):
  QS X (.Assign [.Name x pos'] e pos) (lh te (bq i)):=⟨Cv hN hi hx he.h (FW hs) hf⟩
theorem setC{p2:Pos}{wi:TI}(hN:X.N.Nodup)(hj:X.N[j]?=some x)(hx:Loc X.env.scope x)(S:dC osc ON scope own N)(hosc:X.env.scope=osc)(hON:X.N=ON)(hc:X.calm=true)(hi:QI X tg iter wi)
  (hg:∀C s H fp,QG (a_ X scope N C s H fp) tg g) (ht:∀C s H fp,EJ (a_ X scope N C s H fp) ifs tc) (he:∀C s H fp,QE (a_ X scope N C s H fp) elt te)
  (hsw:autoParam (swapsWith (.ListComp elt [⟨tg,iter,ifs,0⟩] scope p2) (some (.Name x pos')) pos.line X.env=pure true) ℜ0)
  (hf:autoParam (X.fn x=true\/X.env.scope.names.lookup x=some .local) ℜ2) (hs:autoParam (∀x,foldedSetIterable iter X.env x=pure x) ℜ3) :
  QS X (.Assign [.Name x pos'] (.ListComp elt [⟨tg,iter,ifs,0⟩] scope p2) pos) (lh (jB wi own.length g tc te) (bq j)):=⟨pM hN hj hx S hosc hON hc hi.h (λC s H fp=>(hg C s H fp).h) (λC s H fp=>(ht C s H fp).h) (λC s H fp=>(he C s H fp).h) hsw hf hs⟩
theorem asg(he:QE X e te)(hg:QG X tg g)(hs:autoParam (swapsWithSole [tg] e pos.line X.env=pure false) ℜ0)(hw:autoParam (swappedStores [tg] e X.env=pure none) ℜ0)
  (h1:autoParam ((assignEach [tg] X.env).map (·.2)=[assign tg X.env]) ℜ0):QS X (.Assign [tg] e pos) (lh te g):=⟨BK he.h hg.h hs hw h1⟩
theorem ret(he:QE X e te):QS X (.Return (some e) pos) (wL te):=⟨Bj he.h⟩
theorem expr(he:QE X e te)(hs:autoParam (EU e=true) ℜ0):QS X (.Expr e pos) (mP te):=⟨yG he.h (FW hs)⟩
theorem cu{c:Expr}(hc:QT X c tc)(ha:QB X xs t)(hb:QB X ys u):QS X (.If c xs ys pos) (lJ tc t u):=⟨DL hc.h ha.h hb.h⟩
theorem eS{wi:TI}(hp:PassesOwn (model X.prog X.w) X.A X.env X.xe)(hc:X.calm=true)(hi:QI X tg iter wi)(hg:QG X tg g)(hb:QB X xs t)(hs:autoParam (∀x,foldedSetIterable iter X.env x=pure x) ℜ3):QS X (.For tg iter xs [] pos) (Co wi g t):=⟨BD hp hc hi.h hg.h hb.h hs⟩
theorem oK{c:Expr}(hp:PassesOwn (model X.prog X.w) X.A X.env X.xe)(hc:QT X c tc)(hb:QB X xs t):QS X (.While c xs [] pos) (wY tc t):=⟨uy hp hc.h hb.h⟩
end
end Z
namespace Ap
theorem xU(K:LA)(ta:TE)(σ:St)(H:Hp)(Q:Bool->Hp->Prop):L2.Z.xU K ta σ H Q=ta σ H λx H'=>∃k,uT K x H' k/\Q k H':=rfl
theorem oh(ta:TE)(σ:St)(H:Hp)(Q:VK):L2.oh ta σ H Q=ta σ H λx H1=>∃c,x=.bl c/\Q (.bl (!c)) H1:=rfl
end Ap
theorem HasFn.fQ{ps:List Str}{k:Nat}(F:HasFn K mg x st ps)(S:av N ps (af st))(len:∀vs H Q E,sp vs H Q E->vs.length=ps.length)
  (hbody:∀(f:Addr) (cdv:Value) (A:Around) (outer:List Env) (s:Shared) (H:Hp) (vs:List V) (Q:VK) (E:XK),bE k (A.deeper (envOfC x (af st) s.heap.objs.size f cdv))->sp vs H Q E ->
   ∃t,QB (fC bf P w K mg base N x (af st) f cdv A outer s H E).oJ (aS st) t/\t {nx:=λ_ H'=>Q .aQ H',rt:=Q} (start N vs) H):aq P w K mg base bf (k+1) x ps sp:=
 F.ok S len λf cdv A outer s H vs Q E hr h=>let ⟨t,q,r⟩:=hbody f cdv A outer s H vs Q E hr h;⟨t,q.h,r⟩
theorem zC{ps:List Str}{k:Nat}(F:jz K x x st f fd)(S:av N ps (af st))(len:∀vs H Q E,sp vs H Q E->vs.length=ps.length)
  (hbody:∀(cdv:Value) (A:Around) (outer:List Env) (s:Shared) (H:Hp) (vs:List V) (Q:VK) (E:XK),bE k (A.deeper (envOfC x (af st) s.heap.objs.size f cdv))->sp vs H Q E ->
   ∃t,QB (fC bf P w K mg base N x (af st) f cdv A outer s H E).oJ (aS st) t/\t {nx:=λ_ H'=>Q .aQ H',rt:=Q} (start N vs) H):cC P w K mg base bf (k+1) f fd ps sp:=
 F.ok S len λcdv A outer s H vs Q E hr h=>let ⟨t,q,r⟩:=hbody cdv A outer s H vs Q E hr h;⟨t,q.h,r⟩
inductive T where
 |il (n:Nat)|aQ|bl (b:Bool)|int (i:Int)|str (x:Str)|tup (ts:List T)|lst (ts:List T)|Gi (ts:List T)|mN (lo hi:Int)|Gg (ts:List T)|Gh (ks:List Key) (ts:List T)|exc (c:Value) (f:Option (Str×Int))|adr (a:Addr)|ins (a c:Addr) (ks:List Str) (ts:List T)
abbrev sI:=Addr->Prop
noncomputable def EN(K:LA)(a:Addr)(xs:List V):Prop:=∃(o:Obj) (its:Array Value) (n:Nat),K.lookup a=some o/\o.cls=.type "tuple"/\o.data=.seq its n/\its.size<=sizeLine/\Vals xs its.toList
theorem Paired.yl{β:Type}{P:α->β->Prop}{ys:List β}(h:Paired P [] ys):ys=[]:=by cases h;rfl
theorem Paired.Af{β:Type}{P:α->β->Prop}{x:α}{xs:List α}{ys:List β}(h:Paired P (x::xs) ys):∃y zs,ys=y::zs/\P x y/\Paired P xs zs:=by cases h with|cons h r=>exact⟨_,_,rfl,h,r⟩
inductive Sl where
 |un|tr (t:T)|bx (c:T)|pb (c:T)
abbrev Mu:=List Sl
inductive R where
 |tr (t:T)|br (i:Nat)|fr (c:T)
structure Fx where
 K:LA
 H0:Hp
 P:Nat->Option Addr
 Bc:sI
 bh:∀b,Bc b->∃o,H0 b=some o
 G:Addr->Option HO
noncomputable def more(B:sI)(a:Addr):sI:=λb=>b=a\/B b
abbrev UE:=Mu->(R->Mu->Prop)->Prop
abbrev UT:=Mu->(Bool->Mu->Prop)->Prop
abbrev UA:=Mu->(List R->Mu->Prop)->Prop
structure Ed where
 nx:Mu->Prop
 rt:R->Mu->Prop
 bk:Mu->Prop:=λ_=>False
 ct:Mu->Prop:=λ_=>False
abbrev US:=Ed->Mu->Prop
namespace Y
theorem gn:∀(n:Nat) (acc:List Value) (k:Nat),acc.length=n->(∀j v,acc[j]?=some v->∃t,v=Value.int (lo+((k+j:Nat):Int)) t)->Vals ((List.range' k n).map λk=>V.int (lo+(k:Nat))) acc
 |0,acc,k,h,_=>by cases acc with|nil=>exact .nil|cons a b=>cases h
 |n+1,[],k,h,_=>by cases h
 |n+1,a::acc,k,h,g=>by
  rw[Iy,GV];refine .cons ?_ (gn n acc (k+1) (by simpa using h) λj v e=>?_)
  ·obtain⟨t,e⟩:=g 0 a rfl;exact⟨t,by simpa using e⟩
  ·obtain⟨t,e2⟩:=g (j+1) v (by simpa using e)
   exact⟨t,by rw[e2];congr 2;lia⟩
noncomputable def zw:List V->Hp->VK->Prop:=λxs H Q=>(∃j,xs=[.int j]/\∀p,H p=none->Q (.ref p) (upd H p (.mN 0 j)))\/(∃i j,xs=[.int i,.int j]/\∀p,H p=none->Q (.ref p) (upd H p (.mN i j)))
theorem nj:bC X (.type "range") zw:=by
 intro pins s σ H xs us Q I r h;rcases h with ⟨j,rfl,q⟩|⟨i,j,rfl,q⟩
 ·obtain⟨u,rfl,t,rfl⟩:=vals1 r;refine call_range_1 ?_;exact⟨.ref s.heap.objs.size,_,I.laid (o:=.mN 0 j) (λb ob q=>Gk _ q) (Gs _) (show bp X.prog X.w _ _ _ (.mN 0 j) from⟨_,_,_,G0 _ rfl⟩),rfl,q _ (I.aX.fresh (Gs _))⟩
 ·obtain⟨u,w',rfl,⟨t,rfl⟩,⟨t',rfl⟩⟩:=vals2 r;refine call_range_2 ?_;exact⟨.ref s.heap.objs.size,_,I.laid (o:=.mN i j) (λb ob q=>Gk _ q) (Gs _) (show bp X.prog X.w _ _ _ (.mN i j) from⟨_,_,_,G0 _ rfl⟩),rfl,q _ (I.aX.fresh (Gs _))⟩
section
variable {X:Cx} {a b c e o:Expr} {es rest:List Expr} {ua ub uc ue uo:UE} {uA uB:UT} {us:UA} {pos p p2 p3:Pos} {x:Str}
noncomputable def lI(xs:List α)(lo hi:Option Int):List α:=(xs.drop (HT.ck xs.length 0 lo)).take (HT.ck xs.length xs.length hi-HT.ck xs.length 0 lo)
end
section
variable {X:Cx} {a b c e o tg:Expr} {es rest:List Expr} {ua ub uc ue uo:UE} {uA uB:UT} {us:UA} {pos pos' p p2 p3:Pos} {x:Str} {st:Stmt} {sts xs ys:List Stmt} {u w:US}
noncomputable def DP(K:LA)(n:Nat)(t:qX):TG:=λv σ H Q=>∃a xs,v=.ref a/\(b8 K H a xs\/bZ K H a xs)/\xs.length=n/\t xs σ H Q
theorem kM{prog:Program}{w:World}{A:Around}{E:Value->Shared->Prop}{t:Addr}(hne:t≠it):∀(n i:Nat) (s:Shared) (Q:List Value->Shared->Prop),s.heap.IsListIter it t i->s.heap.IsList t items->i+n<=items.size ->
  (∀h',h'.IsListIter it t (i+n)->Heap.SameBut it s.heap h'->Q ((items.toList.drop i).take n) {s with heap:=h'})->wpAny (model prog w) A (draw (.ref it) n) Q E s
 |0,i,s,Q,hit,_,_,hQ=>by
  show wpAny _ _ (pure []) Q E s;exact Gu (by simpa using hQ s.heap hit (Heap.SameBut.refl ..))
 |n+1,i,s,Q,hit,ht,hle,hQ=>by
  have hlt:i<items.size:=by lia
  show wpAny _ _ (pyNext (.ref it) >>= _) Q E s;refine Gj (Js hit ht (x:=items[i]) (by simp[hlt]) λh₁ hit₁ hs₁=>?_)
  refine Gj (He (kM hne n (i+1) _ _ hit₁ (ht.extBut hs₁.extBut hne) (by lia) λh₂ hit₂ hs₂=>Gu ?_))
  have hd:items.toList.drop i=items[i]::items.toList.drop (i+1):=by simp[HY,hlt]
  have:=hQ h₂ (by rw[show i+(n+1)=i+1+n by lia];exact hit₂) (hs₁.trans hs₂)
  rw[hd,List.take_succ_cons] at this;exact this
theorem ib{w:World}{A:Around}{s:Shared}{t:Addr}{Q:List Value->Shared->Prop}(hh:A.handled=none)(ht:s.heap.IsList t items)
  (hQ:∀h',Heap.ExtBut s.heap.objs.size s.heap h'->Q items.toList {s with heap:=h'}):wpAny (model prog w) A (unpackItems (.ref t) items.size none) Q E s:=by
 have hlt:t≠s.heap.objs.size:=by obtain⟨o,ho,_⟩:=ht;exact GD (G5 ho)
 unfold unpackItems;refine Gj ?_
 ·unfold notIterableAtAll;refine Gj (wpAny_specialOf ht.typeIs F.slot_list_iter.lookup ?_);refine Gu ?_;simp only[HE,Ih];refine Gj (He (HK ht ?_));refine Gj (He (kM hlt items.size 0 _ _ ⟨_,G0 _ rfl,rfl,rfl⟩ (ht.push _) (by lia) λh₁ hit₁ hs₁=>?_))
  have hall:List.take items.size (List.drop 0 items.toList)=items.toList:=by
   rw[HX];exact Hq (by simp)
  rw[hall];rw[Gn (by simp)]
  have ht₁:h₁.IsList t items:=(ht.push _).extBut hs₁.extBut hlt;refine Gj (He (JC hh hit₁ ht₁ (by simp) λh₂ he₂=>?_))
  simp only[Option.isSome_none,HE,Ih];refine Gu (hQ h₂ λb o hb e=>he₂ b o hb (hs₁.extBut b o hb (Gk _ e)))
theorem zA{k:Nat}{t:qX}{n:Nat}(hc:X.calm=true)(h:CP X es t)
  (hn:autoParam ((assignEach es X.env).length=n) ℜ0) (hst:autoParam ((assignEach es X.env).findIdx? (·.1)=none) ℜ0):PG X (.Tuple es k pos) (DP X.K n t):=by
 intro pins s σ H v u Q I r hw;obtain⟨a,xs,e1,hq,hl,hw⟩:=hw;rcases hq with hq|hq
 ·exact vG hc h hn hst pins s σ H v u Q I r ⟨a,xs,e1,hq,hl,hw⟩
 ·subst e1;cases r;obtain⟨its,rv,ht,hz⟩:=I.list hq;rw[assign_Tuple];refine Gj (Jx ?_);unfold unpack;have hsz:(assignEach es X.env).length=its.toArray.size:=by rw[hn,<- hl,rv.length];simp
  rw[hsz,hst];refine Gj (He (ib (I.ok.hd hc) ht.isList λh' hx=>?_));have I1:Inv X pins σ H {s with heap:=h'}:=I.kept (t':=s.toks) λb o e=>hx b o (GD (G5 e)) e
  exact h pins _ σ H xs _ Q I1 (by simpa using rv) hw
end
end Y
abbrev UI:=Mu->(List T->Option (Nat×List T)->Mu->Prop)->Prop
noncomputable def wa(K:LA)(tl:TE):TI:=λσ H R=>tl σ H λx H1=>∃a,x=V.ref a/\(((∃xs,bZ K H1 a xs)/\R (vK K a) H1)\/((∃xs,b8 K H1 a xs)/\R (tN K a) H1))
theorem Ct{l:Expr}(hl:PE X l tl):PI X tg l (wa X.K tl):=by
 intro pins s σ H R I h;refine bL (hl pins s σ H _ I h) λv s1 hq2=>?_;obtain⟨x,H1,I1,r1,q1⟩:=hq2;obtain⟨a,rfl,q⟩:=q1;cases r1;rcases q with ⟨⟨xs,hq⟩,q⟩|⟨⟨xs,hq⟩,q⟩
 ·obtain⟨its,rv,p,hz⟩:=I1.list hq;refine HK p.isList ?_;refine⟨s1.heap.objs.size,[s1.heap.objs.size],_,_,H1,rfl,I1.kept (t':=s1.toks) λb o e=>Gk _ e,kg a _,⟨_,G0 _ rfl,rfl,rfl⟩,λb hb=>?_,q⟩;have e:b=s1.heap.objs.size:=by simpa using hb
  subst e;exact I1.lO (Gs _) (I1.aX.fresh (Gs _))
 ·obtain⟨its,rv,p,hz⟩:=I1.tuple hq;refine HF (show s1.heap.IsTuple a its.toArray from p) ?_;refine⟨s1.heap.objs.size,[s1.heap.objs.size],_,_,H1,rfl,I1.kept (t':=s1.toks) λb o e=>Gk _ e,jl a _,⟨_,G0 _ rfl,rfl,rfl⟩,λb hb=>?_,q⟩;have e:b=s1.heap.objs.size:=by simpa using hb
  subst e;exact I1.lO (Gs _) (I1.aX.fresh (Gs _))
namespace Y
theorem sS{α:Type _}{l:List α}(h:l.length=1):∃y,l=[y]:=by
 rcases l with _|⟨a,_|⟨b,t⟩⟩
 ·cases h
 ·exact⟨a,rfl⟩
 ·cases h
theorem vN{α:Type _}{l:List α}(h:l.length=2):∃y z,l=[y,z]:=by
 rcases l with _|⟨a,t⟩
 ·cases h
 ·obtain⟨b,rfl⟩:=sS (Nat.succ.inj h);exact⟨a,b,rfl⟩
theorem p9{α:Type _}{l:List α}(h:l.length=3):∃x y z,l=[x,y,z]:=by
 rcases l with _|⟨a,t⟩
 ·cases h
 ·obtain⟨b,c,rfl⟩:=vN (Nat.succ.inj h);exact⟨a,b,c,rfl⟩
theorem De{α:Type _}{l:List α}(h:l.length=4):∃w x y z,l=[w,x,y,z]:=by
 rcases l with _|⟨a,t⟩
 ·cases h
 ·obtain⟨b,c,d,rfl⟩:=p9 (Nat.succ.inj h);exact⟨a,b,c,d,rfl⟩
end Y
abbrev FT:=List T->(R->List T->Prop)->Prop
noncomputable def yX(K:LA)(f:Addr)(cdv:Value):Prop:=∃(o:Obj) (fd:FuncData),K.lookup f=some o/\o.data=.func fd/\fd.code=cdv
section
variable {prog:Program} {w:World} {A:Around} {E:Value->Shared->Prop} {s:Shared}
structure ZA (z TI TO i1 i2 l1 l2:Addr):Prop where
 a1:TI≠z
 a2:TO≠z
 a3:i1≠z
 a4:i2≠z
 a5:TO≠i1
 a6:TO≠i2
 a7:i1≠i2
 a8:l1≠z/\l1≠TO/\l1≠i1/\l1≠i2
 a9:l2≠z/\l2≠TO/\l2≠i1/\l2≠i2
 b1:TI≠TO/\TI≠i1/\TI≠i2
theorem ZA.f1{TI TO:Addr}(D:ZA z TI TO i1 i2 l1 l2){e:Addr}(he:e=z\/e=TO\/e=i2):∀b∈[i1,l1],b≠e:=λb hb=>by
 rcases Gv.mp hb with rfl|hb
 ·rcases he with rfl|rfl|rfl
  ·exact D.a3
  ·exact D.a5.symm
  ·exact D.a7
 ·have hb:b=l1:=by simpa using hb
  subst hb;rcases he with rfl|rfl|rfl
  ·exact D.a8.1
  ·exact D.a8.2.1
  ·exact D.a8.2.2.2
theorem ZA.f2{TI TO:Addr}(D:ZA z TI TO i1 i2 l1 l2){e:Addr}(he:e=z\/e=TO\/e=i1):∀b∈[i2,l2],b≠e:=λb hb=>by
 rcases Gv.mp hb with rfl|hb
 ·rcases he with rfl|rfl|rfl
  ·exact D.a4
  ·exact D.a6.symm
  ·exact D.a7.symm
 ·have hb:b=l2:=by simpa using hb
  subst hb;rcases he with rfl|rfl|rfl
  ·exact D.a9.1
  ·exact D.a9.2.1
  ·exact D.a9.2.2.1
theorem eQ{l:Addr}{n:Nat}{P:Nat->Value->Prop}{S:Nat->Heap->Prop}{A':Around}(D:Draws prog w A' it [it,l] n P S){h':Heap}{e:Addr}(st:S i h)(hs:Heap.ExtBut e h h')(ne:∀b∈[it,l],b≠e):S i h':=D.frame i h h' st λb hb o q=>hs b o (ne b hb) q
theorem tq{TI TO:Addr}{k n1 n2:Nat}{a b:Value}(D:ZA z TI TO i1 i2 l1 l2)(D1:Draws prog w A i1 [i1,l1] n1 P1 S1)(D2:Draws prog w A i2 [i2,l2] n2 P2 S2)
  (hz:IsZip s.heap z TI TO .none) (hTI:IsPair s.heap TI (.ref i1) (.ref i2)) (hTO:IsPair s.heap TO a b) (st1:S1 k s.heap) (st2:S2 k s.heap) (hk1:k<n1) (hk2:k<n2)
  (hQ:∀x y h' tk,P1 k x->P2 k y->IsZip h' z TI TO (rawInt s.heap.objs.size)->IsPair h' TO x y->S1 (k+1) h'->S2 (k+1) h'->IsPair h' s.heap.objs.size x y ->
   (∀c o,c≠z->c≠TO->c≠i1->c≠i2->s.heap.get? c=some o->h'.get? c=some o)->Q (.ref s.heap.objs.size) {s with heap:=h',toks:=tk}) :
  wpAny (model prog w) A (Builtin.«zip.__next__» ⟨[.ref z],[]⟩) (λfin s'=>∃v,fin=.done (.ret v)/\Q v s') E s:=by
 have zrec:=hz;show wpAny _ _ (field (.ref z) 2 >>= _) _ _ _;refine Gj (HQ zrec rfl (x:=.bool false) rfl ?_);show wpAny _ _ (field (.ref z) 3 >>= _) _ _ _;refine Gj (HQ zrec rfl (x:=.ref TI) rfl ?_);have tirec:=hTI;refine Gj (HW tirec rfl ?_);show wpAny _ _ (Builtin.SmallTypes.ownedTupleIsFree (.ref z) >>= _) _ _ _;refine Gj ?_;unfold Builtin.SmallTypes.ownedTupleIsFree;refine Gj (HQ zrec rfl (x:=.none) rfl (Gu ?_));simp only[Jn];refine Gj (Kv ?_);refine Gj (HQ zrec rfl (x:=.ref TO) rfl ?_);refine Gj (Im zrec (by simp) λg1 zr1 sb1=>?_)
 replace zr1:IsZip g1 z TI TO .ellipsis:=zr1
 refine Gj ?_;simp only[List.zipIdx_cons,List.zipIdx_nil,KQ,List.forIn_nil];refine Gj (Gj (Kq ?_));show wpAny _ _ (Builtin.SmallTypes.nextOf (.ref i1) >>= _) _ _ _;refine Gj (D1.item k _ _ _ hk1 (eQ D1 st1 sb1.extBut (D.f1 (.inl rfl))) λx g2 tk2 px st1b sb2=>Gu ?_);have to2:IsPair g2 TO a b:=sb2.extBut _ _ D.a5 (sb1.extBut _ _ D.a2 hTO);refine Gj (HW to2 rfl ?_);refine Gj (JM to2 λg3 to3 sb3=>?_)
 replace to3:IsPair g3 TO x b:=to3
 refine Gj (wpAny_letGo (Gu ?_));refine Gj (Gj (Kq ?_));show wpAny _ _ (Builtin.SmallTypes.nextOf (.ref i2) >>= _) _ _ _;have st2c:S2 k g3:=eQ D2 (eQ D2 (eQ D2 st2 sb1.extBut (D.f2 (.inl rfl))) sb2.extBut (D.f2 (.inr (.inr rfl)))) sb3.extBut (D.f2 (.inr (.inl rfl)));refine Gj (D2.item k _ _ _ hk2 st2c λy g4 tk4 py st2d sb4=>Gu ?_);have to4:IsPair g4 TO x b:=sb4.extBut _ _ D.a6 to3;refine Gj (HW to4 rfl ?_);refine Gj (JM to4 λg5 to5 sb5=>?_)
 replace to5:IsPair g5 TO x y:=to5
 refine Gj (wpAny_letGo (Gu (Gu ?_)));refine Gj (HW to5 rfl ?_);refine Gj (Lj ?_);have size5:g5.objs.size=s.heap.objs.size:=by rw[sb5.1,sb4.1,sb3.1,sb2.1,sb1.1]
 have zr5:IsZip g5 z TI TO .ellipsis:=sb5.extBut _ _ D.a2.symm (sb4.extBut _ _ D.a4.symm (sb3.extBut _ _ D.a2.symm (sb2.extBut _ _ D.a3.symm zr1)));have keep5:∀c o,c≠z->c≠TO->c≠i1->c≠i2->s.heap.get? c=some o->g5.get? c=some o:=λc o e1 e2 e3 e4 q =>
  sb5.extBut _ _ e2 (sb4.extBut _ _ e4 (sb3.extBut _ _ e2 (sb2.extBut _ _ e3 (sb1.extBut _ _ e1 q))))
 have s1e:S1 (k+1) g5:=eQ D1 (eQ D1 (eQ D1 st1b sb3.extBut (D.f1 (.inr (.inl rfl)))) sb4.extBut (D.f1 (.inr (.inr rfl)))) sb5.extBut (D.f1 (.inr (.inl rfl)));have s2e:S2 (k+1) g5:=eQ D2 st2d sb5.extBut (D.f2 (.inr (.inl rfl)));have zlt:z<g5.objs.size:=G5 zr5;show wpAny _ _ (Builtin.SmallTypes.ownedTupleHandOut (.ref z) (.ref g5.objs.size) >>= _) _ _ _;refine Gj ?_;unfold Builtin.SmallTypes.ownedTupleHandOut;have zr6:IsZip (g5.push {cls:=.type "tuple",data:=.seq #[x,y]}) z TI TO .ellipsis:=Gk _ zr5;refine Gj (Im zr6 (by simp) λg7 zr7 sb7=>?_)
 replace zr7:IsZip g7 z TI TO (rawInt g5.objs.size):=zr7
 refine Im zr7 (by simp) λg8 zr8 sb8=>?_
 replace zr8:IsZip g8 z TI TO (rawInt g5.objs.size):=zr8
 have up:∀c o,c≠z->g5.get? c=some o->g8.get? c=some o:=λc o e1 q=>sb8.extBut _ _ e1 (sb7.extBut _ _ e1 (Gk _ q));have pr8:IsPair g8 g5.objs.size x y:=sb8.extBut _ _ (HN zlt) (sb7.extBut _ _ (HN zlt) (G0 _ rfl));rw[size5] at zr8 pr8;refine Gu ⟨_,rfl,?_⟩;show Q (.ref g5.objs.size) _;rw[size5];exact hQ x y g8 _ px py zr8 (up _ _ D.a2 to5) (D1.frame _ _ _ s1e λb hb o q=>up b o (D.f1 (.inl rfl) b hb) q) (D2.frame _ _ _ s2e λb hb o q=>up b o (D.f2 (.inl rfl) b hb) q) pr8 λc o e1 e2 e3 e4 q=>up c o e1 (keep5 c o e1 e2 e3 e4 q)
theorem vk{TI TO:Addr}{k n1 n2:Nat}{a b:Value}{Q:Fin->Shared->Prop}(D:ZA z TI TO i1 i2 l1 l2)(D1:Draws prog w A i1 [i1,l1] n1 P1 S1)(D2:Draws prog w A i2 [i2,l2] n2 P2 S2)
  (hz:IsZip s.heap z TI TO .none) (hTI:IsPair s.heap TI (.ref i1) (.ref i2)) (hTO:IsPair s.heap TO a b) (st1:S1 k s.heap) (st2:S2 k s.heap) (hk:k=n1\/(k<n1/\k=n2))
  (hE:∀h' e tk,(∀c o,c≠z->c≠TO->c≠i1->c≠i2->s.heap.get? c=some o->h'.get? c=some o)->(∃o,h'.get? e=some o/\o.cls=.type "StopIteration")->E (.ref e) {s with heap:=h',toks:=tk}) :
  wpAny (model prog w) A (Builtin.«zip.__next__» ⟨[.ref z],[]⟩) Q E s:=by
 have zrec:=hz;show wpAny _ _ (field (.ref z) 2 >>= _) _ _ _;refine Gj (HQ zrec rfl (x:=.bool false) rfl ?_);show wpAny _ _ (field (.ref z) 3 >>= _) _ _ _;refine Gj (HQ zrec rfl (x:=.ref TI) rfl ?_);have tirec:=hTI;refine Gj (HW tirec rfl ?_);show wpAny _ _ (Builtin.SmallTypes.ownedTupleIsFree (.ref z) >>= _) _ _ _;refine Gj ?_;unfold Builtin.SmallTypes.ownedTupleIsFree;refine Gj (HQ zrec rfl (x:=.none) rfl (Gu ?_));simp only[Jn];refine Gj (Kv ?_);refine Gj (HQ zrec rfl (x:=.ref TO) rfl ?_);refine Gj (Im zrec (by simp) λg1 zr1 sb1=>?_)
 replace zr1:IsZip g1 z TI TO .ellipsis:=zr1
 refine Gj ?_;simp only[List.zipIdx_cons,List.zipIdx_nil,KQ,List.forIn_nil];refine Gj (Gj (Kq ?_));show wpAny _ _ (Builtin.SmallTypes.nextOf (.ref i1) >>= _) _ _ _;rcases hk with hk|⟨hk1,hk2⟩
 ·subst hk;refine Gj (D1.done _ _ _ (eQ D1 st1 sb1.extBut (D.f1 (.inl rfl))) λg2 e sb2 he=>?_);obtain⟨oe,hoe,hce⟩:=he;have zr2:IsZip g2 z TI TO .ellipsis:=sb2 _ _ D.a3.symm zr1;have nez:e≠z:=λq=>by subst q;rw[zr2] at hoe;cases hoe;simp at hce
  refine Im zr2 (by simp) λg3 _ sb3=>hE g3 e _ (λc o e1 _ e3 _ q=>sb3.extBut _ _ e1 (sb2 _ _ e3 (sb1.extBut _ _ e1 q))) ⟨oe,sb3.extBut _ _ nez hoe,hce⟩
 ·subst hk2;refine Gj (D1.item k _ _ _ hk1 (eQ D1 st1 sb1.extBut (D.f1 (.inl rfl))) λx g2 tk2 px st1b sb2=>Gu ?_);have to2:IsPair g2 TO a b:=sb2.extBut _ _ D.a5 (sb1.extBut _ _ D.a2 hTO);refine Gj (HW to2 rfl ?_);refine Gj (JM to2 λg3 to3 sb3=>?_);refine Gj (wpAny_letGo (Gu ?_));refine Gj (Gj (Kq ?_));show wpAny _ _ (Builtin.SmallTypes.nextOf (.ref i2) >>= _) _ _ _;have st2c:S2 k g3:=eQ D2 (eQ D2 (eQ D2 st2 sb1.extBut (D.f2 (.inl rfl))) sb2.extBut (D.f2 (.inr (.inr rfl)))) sb3.extBut (D.f2 (.inr (.inl rfl)));refine Gj (D2.done _ _ _ st2c λg4 e sb4 he=>?_);obtain⟨oe,hoe,hce⟩:=he;have zr4:IsZip g4 z TI TO .ellipsis:=sb4 _ _ D.a4.symm (sb3.extBut _ _ D.a2.symm (sb2.extBut _ _ D.a3.symm zr1));have nez:e≠z:=λq=>by subst q;rw[zr4] at hoe;cases hoe;simp at hce
  refine Im zr4 (by simp) λg5 _ sb5=>hE g5 e _ (λc o e1 e2 e3 e4 q=>sb5.extBut _ _ e1 (sb4 _ _ e4 (sb3.extBut _ _ e2 (sb2.extBut _ _ e3 (sb1.extBut _ _ e1 q))))) ⟨oe,sb5.extBut _ _ nez hoe,hce⟩
end
noncomputable def pC(K:LA)(k:Bool)(H:Hp)(a:Addr)(xs:List V):Prop:=if k=true then bZ K H a xs else b8 K H a xs
noncomputable def iB(k:Bool)(h:Heap)(it a:Addr)(i:Nat):Prop:=if k=true then h.IsListIter it a i else h.IsTupleIter it a i
noncomputable def i7(k:Bool)(h:Heap)(a:Addr)(items:Array Value):Prop:=if k=true then h.IsList a items else h.IsTuple a items
theorem iO{A:Around}(k:Bool)(hh:A.handled=none)(it l:Addr)(hne:l≠it)(items:Array Value):Draws prog w A it [it,l] items.size (λi v=>items[i]?=some v) (λi h=>iB k h it l i/\i7 k h l items):=by
 cases k with
 |true=>exact Draws.list hh it l hne items
 |false=>exact ij hh it l hne items
theorem Inv.tS{s:Shared}{k:Bool}(I:Inv X pins σ H s)(h:pC X.K k H a xs):∃its:List Value,Vals xs its/\i7 k s.heap a its.toArray:=by
 cases k with
 |true=>obtain⟨its,r,p,_⟩:=I.list h;exact⟨its,r,p.isList⟩
 |false=>obtain⟨its,r,p,_⟩:=I.tuple h;exact⟨its,r,p⟩
theorem Inv.mZ{s:Shared}{k:Bool}{ys:List V}(I:Inv X pins σ H s)(h:pC X.K k H a xs)(h':pC X.K k H a ys):xs=ys:=by
 cases k with
 |true=>exact I.jd h h'
 |false=>exact I.iu h h'
noncomputable def yM(K:LA)(k1 k2:Bool)(a b:Addr):It:=
  ⟨λi H=>∃xs ys x y,pC K k1 H a xs/\pC K k2 H b ys/\xs[i]?=some x/\ys[i]?=some y,
   λi H v H'=>∃p x y,(∀xs,pC K k1 H a xs->xs[i]?=some x)/\(∀ys,pC K k2 H b ys->ys[i]?=some y)/\H p=none/\v=.ref p/\H'=upd H p (.tup [x,y]),
   λi H=>∃xs ys,pC K k1 H a xs/\pC K k2 H b ys/\i=min xs.length ys.length⟩
theorem i7.ty{k:Bool}(x:i7 k h a items):∃o,h.get? a=some o/\(o.cls=.type "list"\/o.cls=.type "tuple")/\∃n,o.data=.seq items n:=by
 cases k with
 |true=>obtain⟨o,e,c,n,d⟩:=(show h.IsList a items from x);exact⟨o,e,.inl c,n,d⟩
 |false=>obtain⟨o,e,c,n,d⟩:=(show h.IsTuple a items from x);exact⟨o,e,.inr c,n,d⟩
theorem iB.ty{k:Bool}(x:iB k h it a i):∃o,h.get? it=some o/\(o.cls=.type "list_iterator"\/o.cls=.type "tuple_iterator")/\o.data=.fields #[.ref a,.int i 0]:=by
 cases k with
 |true=>obtain⟨o,e,c,d⟩:=(show h.IsListIter it a i from x);exact⟨o,e,.inl c,d⟩
 |false=>obtain⟨o,e,c,d⟩:=(show h.IsTupleIter it a i from x);exact⟨o,e,.inr c,d⟩
noncomputable def Fe(k:Bool):String:=if k=true then "list_iterator" else "tuple_iterator"
abbrev EM(h:Heap)(k1:Bool)(a:Addr):Heap:=h.push {cls:=.type (Fe k1),data:=.fields #[.ref a,.int 0 0]}
abbrev EF(h:Heap)(k1 k2:Bool)(a b:Addr):Heap:=(EM h k1 a).push {cls:=.type (Fe k2),data:=.fields #[.ref b,.int 0 0]}
abbrev EL(h:Heap)(k1 k2:Bool)(a b:Addr):Heap:=(EF h k1 k2 a b).push {cls:=.type "tuple",data:=.seq #[.ref h.objs.size,.ref (EM h k1 a).objs.size]}
abbrev EB(h:Heap)(k1 k2:Bool)(a b:Addr):Heap:=(EL h k1 k2 a b).push {cls:=.type "tuple",data:=.seq #[.none,.none]}
abbrev CM(h:Heap)(k1 k2:Bool)(a b:Addr):Heap:=(EB h k1 k2 a b).push {cls:=.type "zip",data:=.fields #[.none,.bool false,.bool false,.ref (EF h k1 k2 a b).objs.size,.ref (EL h k1 k2 a b).objs.size]}
theorem nI(x:h.IsTuple a items)(o:Obj):(h.push o).IsTuple a items:=by
 obtain⟨ob,e,r⟩:=x;exact⟨ob,Gk _ e,r⟩
theorem oZ(k1 k2:Bool)(a b:Addr)(xs ys:Array Value):
  Meets (Builtin.«zip.__new__» ⟨[.type "zip",.ref a,.ref b],[]⟩) (λ_ R s=>i7 k1 s.heap a xs/\i7 k2 s.heap b ys /\
   R (.ok (.ret (.ref (EB s.heap k1 k2 a b).objs.size))) {s with heap:=CM s.heap k1 k2 a b}):=
 .of_wp λprog w A R s h=>by
  obtain⟨hp,g,d,tk,os⟩:=s;obtain⟨q1,q2,h⟩:=h;have hsub:=sub_zip
  cases k1 with
  |true =>
   have w1:Heap.IsList (Shared.heap ⟨hp,g,d,tk,os⟩) a xs:=q1
   cases k2 with
   |true =>
    have w2:Heap.IsList (Shared.heap ⟨hp.push {cls:=.type "list_iterator",data:=.fields #[.ref a,.int 0 0]},g,d,tk,os⟩) b ys:=Heap.IsList.push q2 _;wp_walk using HK w1,HK w2;exact⟨_,rfl,h⟩
   |false =>
    have w2:Heap.IsTuple (Shared.heap ⟨hp.push {cls:=.type "list_iterator",data:=.fields #[.ref a,.int 0 0]},g,d,tk,os⟩) b ys:=nI q2 _;wp_walk using HK w1,HF w2;exact⟨_,rfl,h⟩
  |false =>
   have w1:Heap.IsTuple (Shared.heap ⟨hp,g,d,tk,os⟩) a xs:=q1
   cases k2 with
   |true =>
    have w2:Heap.IsList (Shared.heap ⟨hp.push {cls:=.type "tuple_iterator",data:=.fields #[.ref a,.int 0 0]},g,d,tk,os⟩) b ys:=Heap.IsList.push q2 _;wp_walk using HF w1,HK w2;exact⟨_,rfl,h⟩
   |false =>
    have w2:Heap.IsTuple (Shared.heap ⟨hp.push {cls:=.type "tuple_iterator",data:=.fields #[.ref a,.int 0 0]},g,d,tk,os⟩) b ys:=nI q2 _;wp_walk using HF w1,HF w2;exact⟨_,rfl,h⟩
theorem Ac{k:Bool}(e:h.get? it=some {cls:=.type (Fe k),data:=.fields #[.ref a,.int 0 0]}):iB k h it a 0:=by
 cases k with
 |true=>exact⟨_,e,rfl,rfl⟩
 |false=>exact⟨_,e,rfl,rfl⟩
section
variable {prog:Program} {w:World} {A:Around} {E:Value->Shared->Prop} {s:Shared}
theorem sJ{k1 k2:Bool}{b:Addr}{xs ys:Array Value}(h1:i7 k1 s.heap a xs)(h2:i7 k2 s.heap b ys)
  (h:∀h',IsZip h' (s.heap.objs.size+4) (s.heap.objs.size+2) (s.heap.objs.size+3) .none->IsPair h' (s.heap.objs.size+2) (.ref s.heap.objs.size) (.ref (s.heap.objs.size+1))->IsPair h' (s.heap.objs.size+3) .none .none ->
   iB k1 h' s.heap.objs.size a 0->iB k2 h' (s.heap.objs.size+1) b 0->(∀c o,s.heap.get? c=some o->h'.get? c=some o)->Q (.ref (s.heap.objs.size+4)) {s with heap:=h'}) :
  wpAny (model prog w) A (call (.type "zip") [.ref a,.ref b]) Q E s:=by
 refine Lu F.called_zip (by decide) (F.typeCall_zip_2 _ _) (F.newCall_zip_2 _ _) (λobj=>F.args_object_init_3 obj _ _) F.entry_zip_new (oZ k1 k2 a b xs ys) ⟨h1,h2,?_⟩
 have e1:(EM s.heap k1 a).objs.size=s.heap.objs.size+1:=HS ..;have e2:(EF s.heap k1 k2 a b).objs.size=s.heap.objs.size+2:=by rw[HS,e1]
 have e3:(EL s.heap k1 k2 a b).objs.size=s.heap.objs.size+3:=by rw[HS,e2]
 have e4:(EB s.heap k1 k2 a b).objs.size=s.heap.objs.size+4:=by rw[HS,e3]
 have p5:(CM s.heap k1 k2 a b).get? (EB s.heap k1 k2 a b).objs.size=some _:=G0 _ rfl;have p4:(CM s.heap k1 k2 a b).get? (EL s.heap k1 k2 a b).objs.size=some _:=Gk _ (G0 _ rfl);have p3:(CM s.heap k1 k2 a b).get? (EF s.heap k1 k2 a b).objs.size=some _:=Gk _ (Gk _ (G0 _ rfl));have p2:(CM s.heap k1 k2 a b).get? (EM s.heap k1 a).objs.size=some _:=Gk _ (Gk _ (Gk _ (G0 _ rfl)));have p1:(CM s.heap k1 k2 a b).get? s.heap.objs.size=some _:=Gk _ (Gk _ (Gk _ (Gk _ (G0 _ rfl))));show _/\_;rw[e2,e3,e4] at p5;rw[e1,e2] at p3;rw[e3] at p4;rw[e1] at p2;rw[e4];exact⟨⟨_,p5,rfl⟩,h _ p5 p3 p4 (Ac p1) (Ac p2) λc o x=>Gk _ (Gk _ (Gk _ (Gk _ (Gk _ x))))⟩
end
theorem sy{w:World}{tk:Nat}(k1 k2:Bool)(a b z TI TO i1 i2:Addr)(D:ZA z TI TO i1 i2 a b):
  Turn P w K (.Tuple es tk tp) (yM K k1 k2 a b) [z,TI,TO,i1,i2] z (λi h=>IsZip h z TI TO .none/\IsPair h TI (.ref i1) (.ref i2)/\(∃x y,IsPair h TO x y)/\iB k1 h i1 a i/\iB k2 h i2 b i) where
 mem:=by simp
 obj:=λi h st c hc=>by
  obtain⟨s1,s2,⟨x,y,s3⟩,s4,s5⟩:=st;simp only[Gv,GG,Hj] at hc;rcases hc with rfl|rfl|rfl|rfl|rfl
  ·exact⟨_,s1,λv q=>by cases q⟩
  ·exact⟨_,s2,λv q=>by cases q⟩
  ·exact⟨_,s3,λv q=>by cases q⟩
  ·obtain⟨o,e,_,d⟩:=s4.ty;exact⟨o,e,λv q=>by rw[d] at q;cases q⟩
  ·obtain⟨o,e,_,d⟩:=s5.ty;exact⟨o,e,λv q=>by rw[d] at q;cases q⟩
 keep:=λi h h' st k=>by
  obtain⟨s1,s2,⟨x,y,s3⟩,s4,s5⟩:=st;refine⟨k z (by simp) _ s1,k TI (by simp) _ s2,⟨x,y,k TO (by simp) _ s3⟩,?_,?_⟩
  ·cases k1 with
   |true=>obtain⟨o,e,r⟩:=(show h.IsListIter i1 a i from s4);exact⟨o,k i1 (by simp) o e,r⟩
   |false=>obtain⟨o,e,r⟩:=(show h.IsTupleIter i1 a i from s4);exact⟨o,k i1 (by simp) o e,r⟩
  ·cases k2 with
   |true=>obtain⟨o,e,r⟩:=(show h.IsListIter i2 b i from s5);exact⟨o,k i2 (by simp) o e,r⟩
   |false=>obtain⟨o,e,r⟩:=(show h.IsTupleIter i2 b i from s5);exact⟨o,k i2 (by simp) o e,r⟩
 item:=by
  intro X hP hw hK hc i pins s σ H E I hf st hg;subst hP hw hK;obtain⟨xs,ys,x,y,q1,q2,ex,ey⟩:=hg;obtain⟨s1,s2,⟨x0,y0,s3⟩,s4,s5⟩:=st;obtain⟨its1,rv1,p1⟩:=I.tS q1;obtain⟨its2,rv2,p2⟩:=I.tS q2;obtain⟨u1,hu1,ru1⟩:=rv1.get ex;obtain⟨u2,hu2,ru2⟩:=rv2.get ey;have lt1:i<its1.toArray.size:=by have:=(Gq.mp hu1).1;simpa using this
  have lt2:i<its2.toArray.size:=by have:=(Gq.mp hu2).1;simpa using this
  have hT:s.TypeIs (.ref z) "zip":=⟨_,s1,rfl⟩;have D1:=iO (prog:=X.prog) (w:=X.w) (A:=X.A.in1) k1 (I.ok.hd hc) i1 a D.a8.2.2.1 its1.toArray;have D2:=iO (prog:=X.prog) (w:=X.w) (A:=X.A.in1) k2 (I.ok.hd hc) i2 b D.a9.2.2.2 its2.toArray;unfold pyNext;refine Gj (Jz (Hu (name:=Str.ofString "__next__") hT PySem.F.slot_zip_next (Hw PySem.F.slot_zip_next hT PySem.F.entry_zip_next
   (tq D D1 D2 s1 s2 s3 ⟨s4,p1⟩ ⟨s5,p2⟩ lt1 lt2 λv1 v2 h' tk' px py z1 t1 w1 w2 pr kp=>Gu ?_) (PySem.F.args_zip_next_1 _))))
  have fr:H s.heap.objs.size=none:=I.aX.fresh (Gs _);have ev1:v1=u1:=by rw[Hl,hu1] at px;exact (Option.some.inj px).symm
  have ev2:v2=u2:=by rw[Hl,hu2] at py;exact (Option.some.inj py).symm
  subst ev1 ev2;have lt:∀{c o},s.heap.get? c=some o->s.heap.objs.size≠c:=λe=>HN (G5 e);refine⟨.ref s.heap.objs.size,rfl,wpAny_letOwnedTupleGo_zip z1 λh2 z2 sb2=>?_⟩;have pr2:IsPair h2 s.heap.objs.size v1 v2:=sb2.extBut _ _ (lt s1) pr;have I2:Inv X pins σ (upd H s.heap.objs.size (.tup [x,y])) {s with heap:=h2,toks:=tk'}:=by
   refine I.lV (fp:=[z,TI,TO,i1,i2]) hf (Gs _) (λc o hcm ec=>?_) ⟨by show 2<=sizeLine;decide,[v1,v2],.cons ru1 (.cons ru2 .nil),⟨_,pr2,rfl,_,rfl,rfl⟩⟩
   simp only[Gv,GG,Hj,not_or] at hcm;exact sb2.extBut _ _ hcm.1 (kp c o hcm.1 hcm.2.2.1 hcm.2.2.2.1 hcm.2.2.2.2 ec)
  refine⟨.ref s.heap.objs.size,_,I2,rfl,⟨s.heap.objs.size,x,y,λzs hz=>by rw[I.mZ hz q1];exact ex,λzs hz=>by rw[I.mZ hz q2];exact ey,fr,rfl,rfl⟩,⟨z2,?_,⟨v1,v2,?_⟩,?_,?_⟩,λc hcm=>?_⟩
  ·exact sb2.extBut _ _ D.a1 (kp _ _ D.a1 D.b1.1 D.b1.2.1 D.b1.2.2 s2)
  ·exact sb2.extBut _ _ D.a2 t1
  ·have:=D1.frame (i+1) h' h2 w1 λc hcm o q=>sb2.extBut _ _ (D.f1 (.inl rfl) c hcm) q;exact this.1
  ·have:=D2.frame (i+1) h' h2 w2 λc hcm o q=>sb2.extBut _ _ (D.f2 (.inl rfl) c hcm) q;exact this.1
  ·have hn:=(hf c hcm).1;rw[ae]
   ·exact hn
   ·simp only[Gv,GG,Hj] at hcm;rcases hcm with rfl|rfl|rfl|rfl|rfl
    ·exact (lt s1).symm
    ·exact (lt s2).symm
    ·exact (lt s3).symm
    ·obtain⟨o,e,_⟩:=s4.ty;exact (lt e).symm
    ·obtain⟨o,e,_⟩:=s5.ty;exact (lt e).symm
 done:=by
  intro X hP hw hK hc i pins s σ H E I hf st hg;subst hP hw hK;obtain⟨xs,ys,q1,q2,hi⟩:=hg;obtain⟨s1,s2,⟨x0,y0,s3⟩,s4,s5⟩:=st;obtain⟨its1,rv1,p1⟩:=I.tS q1;obtain⟨its2,rv2,p2⟩:=I.tS q2;have n1:its1.toArray.size=xs.length:=by rw[G4];exact rv1.length.symm
  have n2:its2.toArray.size=ys.length:=by rw[G4];exact rv2.length.symm
  have hT:s.TypeIs (.ref z) "zip":=⟨_,s1,rfl⟩;have D1:=iO (prog:=X.prog) (w:=X.w) (A:=X.A.in1) k1 (I.ok.hd hc) i1 a D.a8.2.2.1 its1.toArray;have D2:=iO (prog:=X.prog) (w:=X.w) (A:=X.A.in1) k2 (I.ok.hd hc) i2 b D.a9.2.2.2 its2.toArray;unfold pyNext;refine Gj (Jz (Hu (name:=Str.ofString "__next__") hT PySem.F.slot_zip_next (Hw PySem.F.slot_zip_next hT PySem.F.entry_zip_next
   (vk D D1 D2 s1 s2 s3 ⟨s4,p1⟩ ⟨s5,p2⟩ (by rw[n1,n2];lia) λh' e tk' kp he=>?_) (PySem.F.args_zip_next_1 _))))
  obtain⟨o,ho,hcl⟩:=he;refine Gj (wpAny_isInstance (T:="StopIteration") (b:=true) ⟨o,ho,hcl⟩ isSubtype_stop (Gu ⟨rfl,?_⟩));refine I.turns (t':=tk') hf λc o hcm ec=>?_;simp only[Gv,GG,Hj,not_or] at hcm;exact kp c o hcm.1 hcm.2.2.1 hcm.2.2.2.1 hcm.2.2.2.2 ec
 self:=λA i s Q E st h=>wpAny_pyIter_zip st.1 h
section
variable {X:Cx} {es:List Expr} {tk:Nat} {tp:Pos}
noncomputable def ny(K:LA)(ta:TA):TI:=λσ H R=>ta σ H λvs H1=>∃a b k1 k2,vs=[.ref a,.ref b]/\(∃xs,pC K k1 H1 a xs)/\(∃ys,pC K k2 H1 b ys)/\R (yM K k1 k2 a b) H1
theorem xW{e1 e2:Expr}{p pos:Pos}(hg:Gl X "zip")(hm:X.mg "zip"=none)(ha:PA X [e1,e2] ta)(h1:autoParam (fz e1=true) ℜ0)(h2:autoParam (fz e2=true) ℜ0)(hv:autoParam (bootBuiltins "zip"=some (.type "zip")) ℜ6):
  PI X (.Tuple es tk tp) (.Call (.Name "zip" p) [e1,e2] [] pos) (ny X.K ta):=by
 intro pins s σ H R I h;refine Call_ (eZ I hg hm hv (Ht (bL (ha pos pins s σ H _ I h) λus s1 hq1=>?_) (by rw[cS h1,cS h2]) (by rw[cS h2];rfl)))
 obtain⟨vs,H1,I1,r1,q1⟩:=hq1;obtain⟨a,b,k1,k2,e,⟨xs,hx⟩,⟨ys,hy⟩,q⟩:=q1;subst e;obtain⟨u,w',rfl,ru,rw'⟩:=vals2 r1
 cases ru;cases rw'
 obtain⟨its1,rv1,p1⟩:=I1.tS hx;obtain⟨its2,rv2,p2⟩:=I1.tS hy;obtain⟨o1,eo1,_⟩:=p1.ty;obtain⟨o2,eo2,_⟩:=p2.ty;have l1:a<s1.heap.objs.size:=G5 eo1;have l2:b<s1.heap.objs.size:=G5 eo2;refine sJ p1 p2 λh' z1 z2 z3 z4 z5 kp=>wpAny_pyIter_zip z1 ?_;have I2:Inv X pins σ H1 {s1 with heap:=h'}:=I1.kept (t':=s1.toks) kp
 have ne:∀(m n c:Nat),m≠n->c+m≠c+n:=λm n c h=>by lia
 have nl:∀(x c m:Nat),x<c->x≠c+m:=λx c m h=>by lia
 have D:ZA (s1.heap.objs.size+4) (s1.heap.objs.size+2) (s1.heap.objs.size+3) s1.heap.objs.size (s1.heap.objs.size+1) a b:=
  ⟨ne 2 4 _ (by decide),ne 3 4 _ (by decide),ne 0 4 _ (by decide),ne 1 4 _ (by decide),ne 3 0 _ (by decide),ne 3 1 _ (by decide),ne 0 1 _ (by decide),⟨nl _ _ 4 l1,nl _ _ 3 l1,nl _ _ 0 l1,nl _ _ 1 l1⟩,⟨nl _ _ 4 l2,nl _ _ 3 l2,nl _ _ 0 l2,nl _ _ 1 l2⟩,ne 2 3 _ (by decide),ne 2 0 _ (by decide),ne 2 1 _ (by decide)⟩
 refine⟨s1.heap.objs.size+4,[s1.heap.objs.size+4,s1.heap.objs.size+2,s1.heap.objs.size+3,s1.heap.objs.size,s1.heap.objs.size+1],_,_,H1,rfl,I2,sy k1 k2 a b _ _ _ _ _ D,⟨z1,z2,⟨_,_,z3⟩,z4,z5⟩,λc hc=>?_,q⟩;have hc':s1.heap.objs.size<=c:=by
  simp only[Gv,GG,Hj] at hc;rcases hc with rfl|rfl|rfl|rfl|rfl
  ·exact J9 _ _
  ·exact J9 _ _
  ·exact J9 _ _
  ·exact Gs _
  ·exact J9 _ _
 exact I1.lO hc' (I1.aX.fresh hc')
end
noncomputable def ow(K:LA):Sp:=λvs H Q _=>∃(a:Addr) (ns:List Int),vs=[.ref a]/\bZ K H a (ns.map V.int)/\ns.length<=63/\∀H',Q (.bl true) H'
namespace Y
theorem iY:fillsNumberSlot (.type "tuple") "mul"=pure false:=
 PySem.fillsNumberSlot_seq (id:="tuple.__mul__") (r:=some (.builtin "tuple.__rmul__")) PySem.F.slot_tuple_mul.lookup (by decide +kernel) PySem.F.slot_tuple_rmul.lookup (by decide +kernel)
theorem pA:seqRepeat? (.type "tuple")=pure (some (.builtin "tuple.__mul__")):=by
 unfold seqRepeat?;rw[PySem.seqSlot_of (T:="tuple") (name:="__mul__") (id:="tuple.__mul__") PySem.F.slot_tuple_mul.lookup (by decide +kernel),PySem.seqSlot_of (T:="tuple") (name:="__rmul__") (id:="tuple.__rmul__") PySem.F.slot_tuple_rmul.lookup (by decide +kernel)];rfl
theorem uI(a:Int)(t:Tok)(l:Addr)(ob:Obj)(items:Array Value)(n:Nat)(hc:ob.cls=.type "tuple")(hd:ob.data=.seq items n):
  Meets (Builtin.«int.__rmul__» ⟨[.int a t,.ref l],[]⟩) (λ_ R s=>s.heap.get? l=some ob/\R (.ok (.ret Value.notImplemented)) s):=
 .of_wp λprog w A R s h=>by
  obtain⟨hp,g,d,tk,os⟩:=s;obtain⟨hl,h⟩:=h;obtain⟨c,dd,da,sl⟩:=ob;simp only at hc hd;subst hc hd
  wp_walk
  exact⟨_,rfl,h⟩
theorem yJ(l:Addr)(items:Array Value)(ob:Obj)(n:Nat)(k:Int)(t:Tok)(hc:ob.cls=.type "tuple")(hd:ob.data=.seq items n)(hne:items.isEmpty=false)(h1:1<k)(h2:k<=1000)(hsz:items.size<=1000):
  Meets (Builtin.«tuple.__mul__» ⟨[.ref l,.int k t],[]⟩) (λ_ R s=>s.heap.get? l=some ob/\R (.ok (.ret (.ref s.heap.objs.size))) {s with heap:=s.heap.push {cls:=.type "tuple",data:=.seq ((List.replicate k.toNat items).foldl (·++·) #[])}}):=
 .of_wp λprog w A R s h=>by
  obtain⟨hp,g,d,tk,os⟩:=s;obtain⟨hl,h⟩:=h;obtain⟨c,dd,da,sl⟩:=ob;simp only at hc hd;subst hc hd;have e1:(decide (k < -(2^63)) || decide (k >= 2^63))=false:=by rw[GH (by lia),GH (by lia)];rfl
  have e2:(items.isEmpty || k == 1)=false:=by rw[hne,G_.mpr (by lia)];rfl
  have e3:(decide (k<=0) || items.isEmpty)=false:=by rw[hne,GH (by lia)];rfl
  wp_walk using AutoSeq1.wpAny_loadPart' hl;rw[Gn (by rw[e1];exact Gz)]
  have ht:IsTup (Shared.heap ⟨hp,g,d,tk,os⟩) l items:=⟨_,hl,rfl,n,rfl⟩;show wpAny _ _ (Builtin.Tuple.tupleItemsOf (.ref l) >>= _) _ _ _;refine Gj (tupleItemsOf_ ht ?_);rw[Gn (by rw[e2];exact Gz)]
  show wpAny _ _ (if (decide (k<=0) || items.isEmpty)=true then _ else _) _ _ _
  rw[Gn (by rw[e3];exact Gz)]
  have hm:(items.size:Int)*k<=1000*1000:=Int.mul_le_mul (by lia) h2 (by lia) (by lia)
  show wpAny _ _ (if (items.size:Int)*k >(2^63-1) / 8 then _ else _) _ _ _
  rw[Gn (by lia)]
  show wpAny _ _ (if Builtin.Tuple.tupleTooMany ((items.size:Int)*k)=true then _ else _) _ _ _
  have e4:Builtin.Tuple.tupleTooMany ((items.size:Int)*k)=false:=GH (by
   have:((sizeLine:Nat):Int) >= 1000000:=by decide
   lia)
  rw[Gn (by rw[e4];exact Gz)]
  have hl2:((List.replicate k.toNat items).foldl (·++·) #[]).size<=sizeLine:=by
   have fs:∀(m:Nat) (acc:Array Value),((List.replicate m items).foldl (·++·) acc).size=acc.size+m*items.size:=λm=>by
    induction m with
    |zero=>intro acc;simp
    |succ m ih=>intro acc;rw[Hf,KP,ih,Array.size_append,Jl];lia
   rw[fs];have h3:k.toNat*items.size<=1000*1000:=Nat.mul_le_mul (by lia) hsz
   have h4:(1000000:Nat)<=sizeLine:=by decide
   simp;lia
  exact Gj (m:=Builtin.Tuple.tupleExact _) (HJ (Gu ⟨_,rfl,h⟩) hl2)
theorem tL(its:List Value):∀(m:Nat) (acc:List Value),(List.replicate m its.toArray).foldl (·++·) acc.toArray=(acc++(List.replicate m its).flatten).toArray:=λm acc=>foldl_rep its m acc
noncomputable def Ai(K:LA):R2:=λx y H Q=>∃a k xs,x=.ref a/\y=.int k/\b8 K H a xs/\xs≠[]/\xs.length<=1000/\1<k/\k<=1000/\∀p,H p=none->Q (.ref p) (upd H p (.tup (List.replicate k.toNat xs).flatten))
theorem yg:dz X (binaryOp .Mult) (Ai X.K):=by
 intro pins s σ H x y v u Q I rx ry h;obtain⟨a,k,xs,rfl,rfl,hx,hne,hsz,h1,h2,q⟩:=h;cases rx;obtain⟨t,rfl⟩:=ry;obtain⟨its,r,p,hz⟩:=I.tuple hx;obtain⟨ob,ho,hc,n,hd⟩:=id p;have hlen:=r.length;have hemp:its.toArray.isEmpty=false:=by
  cases its with
  |nil=>cases r;exact absurd rfl hne
  |cons a b=>rfl
 refine Ku (T:="tuple") (U:="int") (by decide) ⟨_,ho,hc⟩ (λs'=>Kt s' k t) iY PySem.F.fills_int_mul PySem.F.slot_int_rmul pA PySem.F.slot_int_index.lookup
  (IX PySem.F.slot_int_rmul (Kt s k t) PySem.F.entry_int_rmul (PySem.F.args_int_rmul_2 _ _) (uI k t a ob its.toArray n hc hd)
   ⟨ho,rfl,⟨_,ho,hc⟩,IX PySem.F.slot_tuple_mul ⟨_,ho,hc⟩ PySem.F.entry_tuple_mul (PySem.F.args_tuple_mul_2 _ _) (yJ a its.toArray ob n k t hc hd hemp h1 h2 (by rw[G4];lia)) ⟨ho,?_⟩⟩)
 have e0:=tL its k.toNat [];rw[HC] at e0;have e0':(List.replicate k.toNat its.toArray).foldl (·++·) #[]=(List.replicate k.toNat its).flatten.toArray:=e0;rw[e0'];refine⟨.ref s.heap.objs.size,_,I.laid (t':=s.toks) (o:=.tup (List.replicate k.toNat xs).flatten) (λb ob q=>Gk _ q) (Gs _) ?_,rfl,q _ (I.aX.fresh (Gs _))⟩;refine⟨?_,_,r.rep k.toNat,dI.new _ _⟩;rw[len_rep];have h3:k.toNat*xs.length<=1000*1000:=Nat.mul_le_mul (by lia) hsz
 exact Gw h3 (by decide)
noncomputable def A2(K:LA):R2:=λx y H Q=>C8 x y H Q\/Ai K x y H Q
theorem lq(K:LA)(hK:X.K=K):dz X (binaryOp .Mult) (A2 K):=by subst hK;exact bN.or yg
end Y
open PySem PySem.Spec PyProof PyProof.Rows
namespace Y
theorem gY:∀{us:List Value} {ns:List Int},IntsAre us ns->Vals (ns.map V.int) us
 |_,_,.nil=>.nil
 |_,_,.cons n t h=>.cons ⟨t,rfl⟩ (gY h)
theorem mQ:∀{us:List Value} {ns:List Int},IntsAre us ns->us.length=ns.length
 |_,_,.nil=>rfl
 |_,_,.cons n t h=>by simp[mQ h]
section
variable {prog:Program} {w:World} {A:Around} {E:Value->Shared->Prop} {s:Shared}
theorem m9{l:Addr}{vs:List Value}{Q:List Value->Shared->Prop}(hl:IsTup s.heap l vs.toArray)(hsz:vs.length<=sizeLine)
  (h:Q vs {s with heap:=(s.heap.push (seqObj "list" #[] 0)).update s.heap.objs.size (Obj.mapSeq (·++vs.toArray))}):wpAny (model prog w) A (collect (.ref l)) Q E s:=by
 obtain⟨o,ho,hc,n,hd⟩:=id hl;unfold collect;refine Gj (wpAny_runValue (IL entry_proto_collect' ?_));show wpAny _ _ (do again (.builtin "list.__iadd__" ⟨[<- newList [],.ref l],[]⟩)) _ _ s
 refine Gj (Je (Gu ⟨Code.quiet_builtin _ (by decide +kernel),IL entry_list_iadd' ?_⟩))
 show wpAny _ _ (Builtin.List.listExtendWith (.ref s.heap.objs.size) (.ref l) (.ref s.heap.objs.size)) _ _ {s with heap:=s.heap.push (seqObj "list" #[] 0)}
 unfold Builtin.List.listExtendWith;have ho':(s.heap.push (seqObj "list" #[] 0)).get? l=some o:=Gk _ ho;refine Gj (Lv (T:="tuple") ⟨o,ho',hc⟩ ?_);have ht:(Value.type "tuple" == Value.type "tuple")=true:=by rfl
 rw[Gp (by rw[ht];simp)]
 refine Gj (JN ho' hd ?_);refine Gj (JN (xs:=#[]) (n:=0) (G0 _ rfl) rfl ?_);rw[Gn (by simp)]
 refine Gj (J5 (xs:=#[]) (n:=0) (G0 _ rfl) rfl ?_ (GF _) (by show (#[]++vs.toArray).size<=sizeLine+1;simp only[Array.size_append,G4,Hs];lia))
 refine Gu ?_;show wpAny (model prog w) A (load s.heap.objs.size >>= _) Q E {s with heap:=(s.heap.push (seqObj "list" #[] 0)).update s.heap.objs.size (Obj.mapSeq (·++vs.toArray))}
 refine Gj (wpAny_load (Jh (G0 _ rfl) _) ?_);show wpAny _ _ (pure ((#[]:Array Value)++vs.toArray).toList) Q E _;rw[show ((#[]:Array Value)++vs.toArray).toList=vs by simp]
 exact Gu h
theorem oU{l:Addr}{vs:List Value}(hl:IsTup s.heap l vs.toArray)(hI:IntsAre vs ns)(h64:vs.length<64)
  (h:∀(out:Array Value) (ns':List Int),IntsAre out.toList ns'->ns'.Perm ns->ns'.Pairwise (·<=·)->Q (.ref (s.heap.objs.size+1)) {s with heap:=sortedAll s.heap vs out}) :
  wpAny (model prog w) A (call (.builtin "sorted") [.ref l]) Q E s:=by
 have hz:vs.length<=sizeLine:=Gw (Iw h64) (by decide)
 refine Kw kind_sorted plain_sorted entry_sorted (args_sorted1 _) ?_;unfold Builtin.«sorted»;refine Gj (m:=checkCount "sorted" 1 1 _) (Gu ?_);refine Gj (m9 hl hz ?_);refine Gj (Je ?_ hz);have hs:((s.heap.push (seqObj "list" #[] 0)).update s.heap.objs.size (Obj.mapSeq (·++vs.toArray))).objs.size=s.heap.objs.size+1:=by rw[K7,size_push']
 have ho:(((s.heap.push (seqObj "list" #[] 0)).update s.heap.objs.size (Obj.mapSeq (·++vs.toArray))).push (seqObj "list" vs.toArray 0)).get? (s.heap.objs.size+1)=some (seqObj "list" vs.toArray 0):=by
  rw[<- hs];exact G0 _ rfl
 show wpAny _ _ _ _ _ {s with heap:=((s.heap.push (seqObj "list" #[] 0)).update s.heap.objs.size (Obj.mapSeq (·++vs.toArray))).push (seqObj "list" vs.toArray 0)}
 rw[hs];refine Gj (He (Hw slot_list_sort ⟨_,ho,rfl⟩ entry_list_sort (list_sort_tree ho hI h64 λout ns' a1 a2 a3=>⟨_,rfl,?_⟩) (args_list_sort _)));exact Gu ⟨_,rfl,h out ns' a1 a2 a3⟩
end
noncomputable def Di(K:LA):List V->Hp->VK->Prop:=λxs H Q=>∃p ns,xs=[.ref p]/\b8 K H p (ns.map V.int)/\ns.length<64/\∀ns':List Int,ns'.Perm ns->ns'.Pairwise (·<=·)->∀l,H l=none->Q (.ref l) (upd H l (.lst (ns'.map V.int)))
theorem sR(K:LA)(hK:X.K=K):bC X (.builtin "sorted") (Di K):=by
 subst hK;intro pins s σ H xs us Q I r h;obtain⟨p,ns,rfl,hq,h64,q⟩:=h;obtain⟨u,rfl,ru⟩:=vals1 r;cases ru;obtain⟨its,rv,pl,hz⟩:=I.tuple hq;have hi:=intsAre_of rv;refine oU pl hi (by rw[mQ hi];exact h64) λout ns' a1 a2 a3=>?_
 obtain⟨e,he⟩:=sortedAll_at s.heap its out;refine⟨.ref (s.heap.objs.size+1),_,I.laid (t':=s.toks) (λb ob q=>sortedAll_old q) (HA _) (show bp X.prog X.w _ _ _ (.lst (ns'.map V.int)) from⟨?_,out.toList,e,gY a1,by simpa using he⟩),rfl,q ns' a2 a3 _ (I.aX.fresh (HA _))⟩
 rw[Gx,a2.length_eq];exact Gw (Iw h64) (by decide)
theorem wU(l:List Nat):∀(n a:Nat),((List.range n).map (λk=>a+k)).filterMap (l[·]?)=(l.drop a).take n
 |0,_=>by simp
 |n+1,a=>by
  rw[JO,GO,List.filterMap_append,wU l n a,List.take_add_one,HV]
  cases h:l[a+n]?<;>simp[h]
theorem mR(lo hi:Option Int)(n:Nat):Builtin.Str.strSliceIndices lo hi 1 n=(List.range (HT.ck n n hi-HT.ck n 0 lo)).map (λk=>HT.ck n 0 lo+k):=by
 have ea:∀(v:Int),max 0 (min (if v<0 then v+(n:Int) else v) (n:Int))=(((if v<0 then (v+(n:Int)).toNat else min v.toNat n):Nat):Int):=by
  intro v;split<;>lia
 have e:Builtin.Str.strSliceIndices lo hi 1 n=sliceRange (HT.ck n 0 lo) (HT.ck n n hi) 1:=by
  cases lo with
  |none=>cases hi with
   |none=>rfl
   |some j=>show sliceRange 0 (max 0 (min (if j<0 then j+(n:Int) else j) (n:Int))) 1=_;rw[ea];rfl
  |some i=>cases hi with
   |none=>show sliceRange (max 0 (min (if i<0 then i+(n:Int) else i) (n:Int))) n 1=_;rw[ea];rfl
   |some j=>show sliceRange (max 0 (min (if i<0 then i+(n:Int) else i) (n:Int))) (max 0 (min (if j<0 then j+(n:Int) else j) (n:Int))) 1=_;rw[ea,ea];rfl
 rw[e];generalize HT.ck n 0 lo=a;generalize HT.ck n n hi=b;unfold sliceRange;simp only[show ((1:Int) > 0)=True from by simp,Jn,Int.one_mul]
 have c:(if (a:Int)<(b:Int) then ((b:Int)-a+1-1) / 1 else 0).toNat=b-a:=by split<;>lia
 rw[c];refine List.map_congr_left λk _=>?_;lia
theorem qg(z:Str)(lo hi:Option Int):Txt.slice z lo hi=⟨((z.cps.toList.drop (HT.ck z.cps.toList.length 0 lo)).take (HT.ck z.cps.toList.length z.cps.toList.length hi-HT.ck z.cps.toList.length 0 lo)).toArray⟩:=by
 have hl:z.cps.toList.length=z.length:=Ha;rw[hl];have hp:(Builtin.Str.strSliceIndices lo hi 1 z.length).filterMap (z.cps[·]?)=(z.cps.toList.drop (HT.ck z.length 0 lo)).take (HT.ck z.length z.length hi-HT.ck z.length 0 lo):=by
  rw[mR];have:=wU z.cps.toList (HT.ck z.length z.length hi-HT.ck z.length 0 lo) (HT.ck z.length 0 lo)
  simpa using this
 unfold Txt.slice;split
 ·rename_i h;rw[mR] at h;simp at h;have h2:=HT.pF z.length z.length (Gs _) hi;have h3:=HT.pF z.length 0 (GF _) lo;have a0:HT.ck z.length 0 lo=0:=by lia
  have b0:HT.ck z.length z.length hi=z.length:=by lia
  rw[a0,b0,HX,Lz,<- hl,Iz]
 ·rw[hp]
noncomputable def f_(z:Str)(lo hi:Option Int):Str:=⟨(lI z.cps.toList lo hi).toArray⟩
theorem rN(z:Str)(lo hi:Option Int):Txt.slice z lo hi=f_ z lo hi:=qg z lo hi
noncomputable def Fd:V->Option Int->Option Int->Hp->VK->Prop:=λx lo hi H Q=>∃z,x=.str z/\z.length<=sizeLine/\Q (.str (f_ z lo hi)) H
theorem fi:zV X Fd:=by
 intro pins s σ H x v vl vu lo hi sl Q I rx hs pl pu h;obtain⟨z,rfl,hz,q⟩:=h;rw[<- rN] at q;obtain⟨t,rfl⟩:=rx;refine⟨"str",_,PySem.F.slot_str_getitem.lookup,Lo _ _ _,?_⟩
 cases pl<;>cases pu
 ·exact IH (l:=none) (u:=none) (st:=none) hs rfl (JP ⟨Gw (Txt.slice_le z _ _) hz,λt' k=>⟨.str _,H,I.tok _,⟨_,rfl⟩,q⟩⟩)
 ·exact IH (l:=none) (u:=some (_,_)) (st:=none) hs rfl (JP ⟨Gw (Txt.slice_le z _ _) hz,λt' k=>⟨.str _,H,I.tok _,⟨_,rfl⟩,q⟩⟩)
 ·exact IH (l:=some (_,_)) (u:=none) (st:=none) hs rfl (JP ⟨Gw (Txt.slice_le z _ _) hz,λt' k=>⟨.str _,H,I.tok _,⟨_,rfl⟩,q⟩⟩)
 ·exact IH (l:=some (_,_)) (u:=some (_,_)) (st:=none) hs rfl (JP ⟨Gw (Txt.slice_le z _ _) hz,λt' k=>⟨.str _,H,I.tok _,⟨_,rfl⟩,q⟩⟩)
noncomputable def ja(z y:Str)(i:Int):Bool:=decide (fromIndex z.length i+y.length<=z.length) && Builtin.Str.subAt z y (fromIndex z.length i)
noncomputable def vJ:V->List V->Hp->VK->Prop:=λx vs H Q=>∃z y i,x=.str z/\vs=[.str y,.int i]/\Q (.bl (ja z y i)) H
theorem qo:rQ X "str.startswith" vJ:=by
 intro pins s σ H x xs v us Q I rx rs h;obtain⟨z,y,i,rfl,rfl,q⟩:=h;obtain⟨t,rfl⟩:=rx;obtain⟨_,_,rfl,r1,rs⟩:=Paired.Af rs;obtain⟨_,_,rfl,r2,rs⟩:=Paired.Af rs;obtain rfl:=Paired.yl rs;obtain⟨u1,rfl⟩:=r1;obtain⟨u2,rfl⟩:=r2;exact call_gives PySem.F.slot_str_startswith (Lo _ _ _) PySem.F.entry_str_startswith (PySem.F.args_str_startswith_3 _ _ _) (gives_str_startswith_from z y i t _ _) ⟨.bl _,H,I,rfl,q⟩
end Y
abbrev Xw:=T->Mu->Prop
abbrev UX:=Mu->(R->Mu->Prop)->Xw->Prop
abbrev Gb:=Ed->Xw->Mu->Prop
noncomputable def Br(K:LA)(mg:Str->Option Value)(x:Str)(f:Addr)(cdv:Value):Prop:=mg x=some (.ref f)/\∃(o:Obj) (fd:FuncData),K.lookup f=some o/\o.data=.func fd/\fd.code=cdv
abbrev UJ:=Mu->(Mu->Prop)->Prop
theorem mE:∀{ws:List Str} {its:List Value},Vals (ws.map V.str) its->∀(m:Nat) (y:Str),ws[m]?=some y->∃t,its[m]?=some (.str y t):=λr m y e=>by
 obtain⟨u,h1,h2⟩:=r.get (i:=m) (x:=V.str y) (by rw[G8,e];rfl)
 obtain⟨t,rfl⟩:=(show RelV (.str y) u from h2);exact⟨t,h1⟩
open Builtin Builtin.Str
noncomputable def Dk(z:Str):It:=⟨λi _=>i<z.cps.size,λi H x H'=>H'=H/\∃c,z.cps[i]?=some c/\x=.str ⟨#[c]⟩,λi _=>z.cps.size<=i⟩
theorem sA(z:Str)(t:Tok)(it:Addr):Turn P w K tg (Dk z) [it] it (λi h=>h.IsStrIter it "str_ascii_iterator" z t i) where
 mem:=by simp
 obj:=λi h st b hb=>by
  have e:b=it:=by simpa using hb
  subst e;obtain⟨o,e,c,d⟩:=st;exact⟨o,e,λv z=>by rw[d] at z;cases z⟩
 keep:=λi h h' st k=>let ⟨o,e,r⟩:=st;⟨o,k it (by simp) o e,r⟩
 item:=by
  intro X hP hw hK hc i pins s σ H E I hf st hg;subst hP hw hK;obtain⟨f0,f1,f2,f3,f4,f5⟩:=hf it (by simp)
  have hi:i<z.cps.size:=hg;refine wpAny_pyNext_ascii_item st (c:=z.cps[i]) (by simp[hi]) λh' st' sb=>?_
  have I1:Inv X pins σ H {s with heap:=h',toks:=s.toks+1}:=I.turned (t':=s.toks+1) (λb o hb e=>(sb.2 b hb).trans e) f0 f1 f3 f4 f5
  obtain⟨o,e,c,d⟩:=id st';exact⟨_,rfl,m_ (s:={s with heap:=h',toks:=s.toks+1}) e c d (by decide) ⟨.str ⟨#[z.cps[i]]⟩,H,I1,⟨_,rfl⟩,⟨rfl,_,by simp[hi],rfl⟩,st',λb hb=>(hf b hb).1⟩⟩
 done:=by
  intro X hP hw hK hc i pins s σ H E I hf st hg;subst hP hw hK;obtain⟨f0,f1,f2,f3,f4,f5⟩:=hf it (by simp)
  have hi:z.cps.size<=i:=hg;exact wpAny_pyNext_ascii_end (I.ok.hd hc) st (by simpa using hi) λh' eb=>⟨rfl,I.turned (t':=s.toks) (λb o hb e=>eb b o hb e) f0 f1 f3 f4 f5⟩
 self:=λ_ _ _ _ _ st h=>wpAny_pyIter_striter_ascii st h
theorem tP(z:Str)(t:Tok)(it:Addr):Turn P w K tg (Dk z) [it] it (λi h=>h.IsStrIter it "str_iterator" z t i) where
 mem:=by simp
 obj:=λi h st b hb=>by
  have e:b=it:=by simpa using hb
  subst e;obtain⟨o,e,c,d⟩:=st;exact⟨o,e,λv z=>by rw[d] at z;cases z⟩
 keep:=λi h h' st k=>let ⟨o,e,r⟩:=st;⟨o,k it (by simp) o e,r⟩
 item:=by
  intro X hP hw hK hc i pins s σ H E I hf st hg;subst hP hw hK;obtain⟨f0,f1,f2,f3,f4,f5⟩:=hf it (by simp)
  have hi:i<z.cps.size:=hg;refine wpAny_pyNext_wide_item st (c:=z.cps[i]) (by simp[hi]) λh' st' sb=>?_
  have I1:Inv X pins σ H {s with heap:=h',toks:=s.toks+1}:=I.turned (t':=s.toks+1) (λb o hb e=>(sb.2 b hb).trans e) f0 f1 f3 f4 f5
  obtain⟨o,e,c,d⟩:=id st';exact⟨_,rfl,m_ (s:={s with heap:=h',toks:=s.toks+1}) e c d (by decide) ⟨.str ⟨#[z.cps[i]]⟩,H,I1,⟨_,rfl⟩,⟨rfl,_,by simp[hi],rfl⟩,st',λb hb=>(hf b hb).1⟩⟩
 done:=by
  intro X hP hw hK hc i pins s σ H E I hf st hg;subst hP hw hK;obtain⟨f0,f1,f2,f3,f4,f5⟩:=hf it (by simp)
  have hi:z.cps.size<=i:=hg;exact wpAny_pyNext_wide_end (I.ok.hd hc) st (by simpa using hi) λh' eb=>⟨rfl,I.turned (t':=s.toks) (λb o hb e=>eb b o hb e) f0 f1 f3 f4 f5⟩
 self:=λ_ _ _ _ _ st h=>wpAny_pyIter_striter_wide st h
noncomputable def vM(tl:TE):TI:=λσ H R=>tl σ H λx H1=>∃z,x=V.str z/\R (Dk z) H1
theorem AZ{l:Expr}(hl:PE X l tl):PI X tg l (vM tl):=by
 intro pins s σ H R I h;refine bL (hl pins s σ H _ I h) λv s1 hq1=>?_;obtain⟨x,H1,I1,r1,q1⟩:=hq1;obtain⟨z,rfl,q⟩:=q1;obtain⟨t,rfl⟩:=r1;have fr:∀b∈[s1.heap.objs.size],ji X pins H1 b:=λb hb=>by
  have e:b=s1.heap.objs.size:=by simpa using hb
  subst e;exact I1.lO (Gs _) (I1.aX.fresh (Gs _))
 cases ha:z.cps.all (· < 128)
 ·refine wpAny_pyIter_wide ha ?_;exact⟨s1.heap.objs.size,[s1.heap.objs.size],_,_,H1,rfl,I1.kept (t':=s1.toks) λb o e=>Gk _ e,tP z t _,⟨_,G0 _ rfl,rfl,rfl⟩,fr,q⟩
 ·refine wpAny_pyIter_ascii ha ?_;exact⟨s1.heap.objs.size,[s1.heap.objs.size],_,_,H1,rfl,I1.kept (t':=s1.toks) λb o e=>Gk _ e,sA z t _,⟨_,G0 _ rfl,rfl,rfl⟩,fr,q⟩
open PySem PySem.Spec PyProof PyProof.Rows
noncomputable def zg(K:LA)(a:Addr):It:=
 ⟨λi H=>∃x,getL K a i H x,λi H x H'=>∃p y,(∀xs,bZ K H a xs->xs[i]?=some y)/\H p=none/\x=.ref p/\H'=upd H p (.tup [.int i,y]),Ff K a⟩
theorem oP{P:Program}{w:World}{K:LA}{es:List Expr}{tk:Nat}{tp:Pos}(a it e:Addr)(hne:e≠it):Turn P w K (.Tuple es tk tp) (zg K a) [e,it] e (λi h=>(∃old,IsEnum h e it i old)/\h.IsListIter it a i) where
 mem:=by simp
 obj:=λi h st b hb=>by
  obtain⟨⟨old,he⟩,o,eo,c,d⟩:=st;rcases Gv.mp hb with z|z
  ·subst z;exact⟨_,he,λv z=>by cases z⟩
  ·have z:b=it:=by simpa using z
   subst z;exact⟨o,eo,λv z=>by rw[d] at z;cases z⟩
 keep:=λi h h' st k=>by
  obtain⟨⟨old,he⟩,o,eo,r⟩:=st;exact⟨⟨old,k e (by simp) _ he⟩,o,k it (by simp) o eo,r⟩
 item:=by
  intro X hP hw hK hc i pins s σ H E I hf st hg;subst hP hw hK;obtain⟨x,xs,hq,hx⟩:=hg;obtain⟨⟨old,he⟩,hit⟩:=st;obtain⟨its,rv,p,hz⟩:=I.list hq;obtain⟨u,hu,ru⟩:=rv.get hx;obtain⟨g0,g1,g2,g3,g4,g5⟩:=hf e (by simp)
  obtain⟨f0,f1,f2,f3,f4,f5⟩:=hf it (by simp)
  have ht:s.heap.IsList a its.toArray:=p.isList;have ha:a≠it:=by
   rintro rfl;obtain⟨o,e1,c1,_⟩:=hit;obtain⟨o',e2,c2,_⟩:=ht;rw[e1] at e2;cases e2;rw[c1] at c2;exact absurd (Value.type.inj c2) (by decide)
  have hea:e≠a:=by
   rintro rfl;obtain⟨o',e2,c2,_⟩:=ht;have e1:s.heap.get? e=some _:=he;rw[e1] at e2;cases e2;exact absurd (Value.type.inj c2) (by decide)
  have hi:i<its.toArray.size:=by
   have:=(Gq.mp hu).1
   simpa using this
  refine KJ (Draws.list (A:=X.A.in1) (I.ok.hd hc) it a ha its.toArray) he ⟨hit,ht⟩ hi hne (by simp[hne,hea]) λx' h' tk' hP ho hs' hT hsz hk=>?_
  have ex:x'=u:=by
   have hP':its.toArray[i]?=some x':=hP;rw[Hl,hu] at hP';exact (Option.some.inj hP').symm
  subst ex;refine⟨.ref s.heap.objs.size,rfl,Kp ho λh2 he2 hs2=>?_⟩;have fr:H s.heap.objs.size=none:=I.aX.fresh (Gs _);have hle:e≠s.heap.objs.size:=GD (G5 he);have hT2:h2.get? s.heap.objs.size=some {cls:=.type "tuple",data:=.seq #[.int i tk',x']}:=(hs2.2 _ (Hy hle)).trans hT;have I2:Inv X pins σ (upd H s.heap.objs.size (.tup [.int i,x])) {s with heap:=h2,toks:=tk'+1}:=by
   refine I.lV (fp:=[e,it]) hf (Gs _) (λb o hb eb=>?_) ⟨by show 2<=sizeLine;decide,[.int i tk',x'],.cons ⟨_,rfl⟩ (.cons ru .nil),⟨_,hT2,rfl,_,rfl,rfl⟩⟩
   have n1:b≠e:=λz=>hb (by simp[z])
   have n2:b≠it:=λz=>hb (by simp[z])
   exact (hs2.2 b n1).trans (hk b o n1 n2 eb)
  refine⟨.ref s.heap.objs.size,_,I2,rfl,⟨s.heap.objs.size,x,λys hy=>by rw[I.jd hy hq];exact hx,fr,rfl,rfl⟩,⟨⟨x',?_⟩,?_⟩,λb hb=>?_⟩
  ·have e:(((i+1:Nat)):Int)=(i:Int)+1:=by lia
   rw[e];exact he2
  ·obtain⟨o,e1,r⟩:=hs'.1;exact⟨o,(hs2.2 it (Hy hne)).trans e1,r⟩
  ·have n:b≠s.heap.objs.size:=by
    rcases Gv.mp hb with z|z
    ·subst z;exact hle
    ·have z:b=it:=by simpa using z
     subst z;obtain⟨o,e1,_⟩:=hit;exact GD (G5 e1)
   rw[ae n];exact (hf b hb).1
 done:=by
  intro X hP hw hK hc i pins s σ H E I hf st hg;subst hP hw hK;obtain⟨xs,hq,hx⟩:=hg;obtain⟨⟨old,he⟩,hit⟩:=st;obtain⟨its,rv,p,hz⟩:=I.list hq;have ht:s.heap.IsList a its.toArray:=p.isList;have ha:a≠it:=by
   rintro rfl;obtain⟨o,e1,c1,_⟩:=hit;obtain⟨o',e2,c2,_⟩:=ht;rw[e1] at e2;cases e2;rw[c1] at c2;exact absurd (Value.type.inj c2) (by decide)
  have hl:=rv.length;have hsz:its.toArray.size=i:=by simp;lia
  refine La (Draws.list (A:=X.A.in1) (I.ok.hd hc) it a ha its.toArray) he (by rw[hsz];exact⟨hit,ht⟩) λh' eb=>⟨rfl,?_⟩
  exact I.turns (t':=s.toks) hf λb o hb e1=>eb b o (λz=>hb (by simp[z])) e1
 self:=λA i s Q E st h=>by
  obtain⟨⟨old,he⟩,_⟩:=st;exact Jp he h
section
variable {X:Cx} {es:List Expr} {tk:Nat} {tp:Pos}
noncomputable def i_(K:LA)(ta:TA):TI:=λσ H R=>ta σ H λvs H1=>∃a,vs=[.ref a]/\(∃xs,bZ K H1 a xs)/\R (zg K a) H1
theorem vW{e:Expr}{ta:TA}{p pos:Pos}(hg:Gl X "enumerate")(hm:X.mg "enumerate"=none)(ha:PA X [e] ta)(h1:autoParam (fz e=true) ℜ0)(hv:autoParam (bootBuiltins "enumerate"=some (.type "enumerate")) ℜ6):
  PI X (.Tuple es tk tp) (.Call (.Name "enumerate" p) [e] [] pos) (i_ X.K ta):=by
 intro pins s σ H R I h;refine Call_ (eZ I hg hm hv (Ht (bL (ha pos pins s σ H _ I h) λus s1 hq1=>?_) (cS h1) rfl));obtain⟨vs,H1,I1,r1,q1⟩:=hq1;obtain⟨a,e,⟨xs,hq⟩,q⟩:=q1;subst e;obtain⟨u,rfl,ru⟩:=vals1 r1;cases ru;obtain⟨its,rv,pt,hz⟩:=I1.list hq;refine call_enumerate_list pt.isList λh' he hit hsz hk=>?_;refine Jp he ?_;have I2:Inv X pins σ H1 {s1 with heap:=h'}:=I1.kept (t':=s1.toks) hk
 refine⟨s1.heap.objs.size+1,[s1.heap.objs.size+1,s1.heap.objs.size],_,_,H1,rfl,I2,oP a s1.heap.objs.size (s1.heap.objs.size+1) (HN (J7 _)),⟨⟨_,he⟩,hit⟩,λb hb=>?_,q⟩;have hb':s1.heap.objs.size<=b:=by
  rcases Gv.mp hb with z|z
  ·rw[z];exact HA _
  ·have z:b=s1.heap.objs.size:=by simpa using z
   rw[z];exact Gs _
 exact I1.lO hb' (I1.aX.fresh hb')
end
noncomputable def wJ(K:LA)(ws:List Str)(v:Value):Prop:=∃p,v=.ref p/\EN K p (ws.map V.str)
structure jP (K:LA) (a:Addr) (D:List (Str×List Str)):Prop where
 low:(a == sysModules)=false
 ex:∃o es ep,K.lookup a=some o/\o.ExactDict/\o.data=.dict es ep/\KTD.Rows (wJ K) es.toList D
section
variable {prog:Program} {w:World} {A:Around} {E:Value->Shared->Prop} {s:Shared} {K:LA} {a:Addr} {D:List (Str×List Str)} {k:Str} {tk:Tok}
theorem jP.typeIs(T:jP K a D)(X:K.In s.heap):s.TypeIs (.ref a) "dict":=let ⟨o,_,_,ho,hc,_⟩:=T.ex;⟨o,X _ _ ho,hc.1⟩
theorem u9{Q:Option Value->Shared->Prop}(T:jP K a D)(X:K.In s.heap)(h1:∀d v,KTD.datumAt k D=some d->wJ K d v->Q (some v) {s with toks:=s.toks+1})(h2:KTD.datumAt k D=none->Q none {s with toks:=s.toks+1}):
  wpAny (model prog w) A (dictGet a (.str k tk)) Q E s:=by
 obtain⟨o,es,ep,ho,hc,hd,hr⟩:=T.ex;have ho:=X _ _ ho;unfold dictGet
 try with_reducible refine He ?_
 refine Gj (wpAny_pyHash_str (Gj (KTD.kt_dictFind_strs (s:={s with toks:=s.toks+1}) ho hd (by obtain⟨l⟩:=es;simpa using hr.exact) ?_)))
 have hq:Q (findBy (λk v=>v.isStr k) es k) {s with toks:=s.toks+1}:=by
  have hf:findBy (λk v=>v.isStr k) es k=(es.toList.find? λe=>e.key.isStr k).map (·.val):=by
   obtain⟨l⟩:=es;simp[findBy]
  rw[hf]
  cases hat:KTD.datumAt k D with
  |some d=>obtain⟨v,hv,hfl⟩:=hr.find_some hat;rw[hv];exact h1 d v hat hfl
  |none=>rw[hr.find_none hat];exact h2 hat
 rw[findBy_of_findIdx?] at hq
 cases hi:es.findIdx? λe=>e.key.isStr k with
 |none=>rw[hi] at hq;exact Gu hq
 |some i=>rw[hi] at hq;exact Gj (Jq (s:={s with toks:=s.toks+1}) ho hd (Gu hq))
end
namespace Y
noncomputable def C_(neg:Bool):R2:=λx y H Q=>∃a o,y=.ref a/\fZ H a x o/\Q (.bl (if neg then !o.isSome else o.isSome)) H
theorem zH{X:Cx}(hu:X.A.units+1<cLine):dz X (compareOp .In) (C_ false):=by
 intro pins s σ H x y v u Q I rx ry h;obtain⟨a,o,rfl,g,q⟩:=h;obtain rfl:u=Value.ref a:=ry;exact E_ hu I g rx λs' I'=>⟨.bl o.isSome,H,I',rfl,q⟩
theorem ig:∀(more kvs:List (Key×V)),((kvs++more).map (·.1)).Nodup->cB kvs more=kvs++more
 |[],kvs,_=>by rw[HL];rfl
 |p::r,kvs,h=>by
  have hn:cR kvs p.1=none:=by
   cases hv:cR kvs p.1 with
   |none=>rfl
   |some v =>
    have hm:=yC hv;rw[GO,GV] at h;have:=List.nodup_append.mp h;exact absurd rfl (this.2.2 _ hm _ GB)
  show cB (putK kvs p.1 p.2) r=_;rw[nk p.2 hn,ig r _ (by rw[GS];exact h),GS]
  rfl
end Y
noncomputable def ia{α:Type}(xs:List α)(i:Nat)(y:α):List α:=xs.take i++y::xs.drop i
noncomputable def xS:V->List V->Hp->VK->Prop:=λx vs H Q=>∃l xs i y,x=.ref l/\vs=[.int i,y]/\H l=some (.lst xs)/\0<=i/\i<2^63/\xs.length<sizeLine/\Q .aQ (upd H l (.lst (ia xs (min i.toNat xs.length) y)))
theorem kQ{X:Cx}:EC X "list.insert" xS:=by
 intro pins s σ H x vs v us Q I rx rv h;obtain⟨l,xs,i,y,rfl,rfl,hH,h0,h1,hz,q⟩:=h;cases rx;obtain⟨u,w',rfl,⟨t,rfl⟩,rw'⟩:=vals2 rv;obtain⟨z,its,n,r,hl,e⟩:=I.oQ hH;have hfit:¬ (!Builtin.List.listFitsIndex i)=true:=by
  have:=Lh (k:=i) (by lia) h1
  rw[this];exact Gz
 refine IX F.slot_list_insert ⟨_,e,rfl⟩ F.entry_list_insert (F.args_list_insert_3 _ _ _) (AutoSeq1.list_insert_list_int_val_1 l its.toArray n i t w' hfit (by rw[G4];lia)) ⟨e,?_⟩
 have el:its.length=xs.length:=hl.symm;refine⟨.aQ,_,I.A5 (its':=ia its (min i.toNat its.length) w') hH e ?_ ?_ ?_,rfl,q⟩
 ·show (have k:=if i<0 then _ else min i.toNat its.toArray.size;(its.toArray.extract 0 k).push w'++its.toArray.extract k)=_
  rw[Gn (by lia)]
  apply K8.mp;unfold ia;simp[Kx,Hq]
 ·rw[el];unfold ia;exact (r.take _).append (.cons rw' (r.drop _))
 ·unfold ia;rw[Gr,GC,GP,Hd];lia
open Builtin Builtin.Str
open PySem PySem.Spec PyProof PyProof.Rows
open Builtin Builtin.Str
section
variable {prog:Program} {w:World} {A:Around} {E:Value->Shared->Prop} {h:Heap} {g:Array GenState} {d:Drawn} {t:Nat} {os:OsState} {a:Addr} {items:Array Value} {cn:Nat}
theorem zy:typeLookup (.type "list") "keys"=pure none:=am_miss_of_fast (by kernel_rfl)
theorem p7:typeLookup (.type "list") "__getattr__"=pure none:=by rw[typeLookup_type,builtinLookup_eq_fast];kernel_rfl
theorem wB{name:Str}{tk:Tok}{Q:Fin->Shared->Prop}(hx:h.get? a=some {cls:=.type "list",dict:=none,data:=.seq items cn,slots:=#[]})(hmiss:typeLookup (.type "list") name=pure none)(hnc:(["__module__","__name__","__qualname__","__doc__","__annotations__"]:List Str).contains name=false)(hh:A.handled=none)
  (hq:∀h' tk' e,Heap.NewAttrErr h h' e (.ref a) name->E (.ref e) ⟨h',g,d,tk',os⟩) (hsz:name.length+100<=sizeLine:=by size_fits) :
  wpAny (model prog w) A (Builtin.«object.__getattribute__» ⟨[.ref a,.str name tk],[]⟩) Q E ⟨h,g,d,t,os⟩:=by
 have hT:(⟨h,g,d,t,os⟩:Shared).TypeIs (.ref a) "list":=⟨_,hx,rfl⟩;unfold Builtin.«object.__getattribute__»
 repeat (any_goals (first|assumption|wp_step))
 rw[Gn (by rw[hnc];decide)]
 repeat (any_goals (first|assumption|wp_step))
 exact wpAny_raiseAttrError hh hq (attrMsg_fits (by decide +kernel) hsz)
theorem xJ{name:Str}{tk:Tok}{R:Result->Shared->Prop}(hx:h.get? a=some {cls:=.type "list",dict:=none,data:=.seq items cn,slots:=#[]})(hmiss:typeLookup (.type "list") name=pure none)(hnc:(["__module__","__name__","__qualname__","__doc__","__annotations__"]:List Str).contains name=false)(hh:A.handled=none)
  (hq:∀h' tk' e,Heap.NewAttrErr h h' e (.ref a) name->R (.error (.ref e)) ⟨h',g,d,tk',os⟩) (hsz:name.length+100<=sizeLine:=by size_fits) :
  codeAny (model prog w) A (.call (.builtin "list.__getattribute__") ⟨[.ref a,.str name tk],[]⟩) R ⟨h,g,d,t,os⟩:=
 codeAny_call_builtin IA.plain F.entry_list_ga (IA.check _ _ _ _ _ _ _ _ (show (⟨h,g,d,t,os⟩:Shared).TypeIs (.ref a) "list" from⟨_,hx,rfl⟩) (F.args_list_getattribute_2 _ _) (wB hx hmiss hnc hh hq hsz))
theorem Ez{name:Str}{tk:Tok}{Q:Value->Shared->Prop}(hx:h.get? a=some {cls:=.type "list",dict:=none,data:=.seq items cn,slots:=#[]})(hmiss:typeLookup (.type "list") name=pure none)(hnc:(["__module__","__name__","__qualname__","__doc__","__annotations__"]:List Str).contains name=false)(hh:A.handled=none)
  (hq:∀h' tk' e,Heap.NewAttrErr h h' e (.ref a) name->E (.ref e) ⟨h',g,d,tk',os⟩) (hsz:name.length+100<=sizeLine:=by size_fits) :
  wpAny (model prog w) A (getAttrBy (.ref a) (.str name tk) false) Q E ⟨h,g,d,t,os⟩:=by
 have hT:(⟨h,g,d,t,os⟩:Shared).TypeIs (.ref a) "list":=⟨_,hx,rfl⟩;have f1:=sub_AttributeError;have f2:=IA.lookup;have f3:=IA.bind (.ref a);have f5:=p7
 repeat (any_goals (first|assumption|wp_step))
 refine xJ hx hmiss hnc hh (λh' tk' e x=>?_) hsz;obtain⟨t',u',he⟩:=x.there;show wpAny _ _ (getattributeRaised _ _ _ _ _ _ _) _ _ _;unfold getattributeRaised
 repeat (any_goals (first|assumption|wp_step))
 exact hq _ _ _ x
theorem xY{name:Str}{Q:Option Value->Shared->Prop}(hx:h.get? a=some {cls:=.type "list",dict:=none,data:=.seq items cn,slots:=#[]})(hmiss:typeLookup (.type "list") name=pure none)(hnc:(["__module__","__name__","__qualname__","__doc__","__annotations__"]:List Str).contains name=false)(hh:A.handled=none)
  (hq:∀h' tk',(∀b o,h.get? b=some o->h'.get? b=some o)->Q none ⟨h',g,d,tk',os⟩) (hsz:name.length+100<=sizeLine:=by size_fits) :
  wpAny (model prog w) A (getAttr? (.ref a) name) Q E ⟨h,g,d,t,os⟩:=by
 have f1:=sub_AttributeError;unfold getAttr? getAttrBy?;refine Gj (wpAny_mkText (Gj (Jz (Ez hx hmiss hnc hh (λh' tk' e x=>?_) hsz))));obtain⟨t',u',he⟩:=x.there;have k:=x.keeps
 repeat (any_goals (first|assumption|wp_step))
 exact hq _ _ x.keeps
end
section
variable {prog:Program} {w:World} {K:Type} [DecidableEq K] {knd:KeyKind prog w K} {A:Around} {R:Result->Shared->Prop}
theorem gZ:plainId "dict.update.loop"=true:=by decide +kernel
theorem gj:entryFor table "dict.update.loop"=some Builtin.«dict.update.loop»:=entryFor_of_fast (by kernel_rfl)
theorem pK(kvs:List (K×Value))(k:K)(v:Value):(stored kvs k v).length<=kvs.length+1:=by
 unfold stored;split
 ·rw[Gx];lia
 ·rw[Gr];simp
theorem j9:∀(more kvs:List (K×Value)),(merged kvs more).length<=kvs.length+more.length
 |[],kvs=>by unfold merged;simp
 |p::more,kvs=>by
  have h1:=j9 more (stored kvs p.1 p.2);have h2:=pK kvs p.1 p.2;have e:merged kvs (p::more)=merged (stored kvs p.1 p.2) more:=rfl;rw[e,GC];lia
theorem yx{it l dd:Addr}{items:Array Value}{more:List (K×Value)}(hh:A.handled=none)(hn:more.length=items.size)(h1:dd≠it)(h2:dd≠l)(h3:it≠l)(ps:Nat->Addr)(hps:∀i,i<items.size->items[i]?=some (.ref (ps i))/\ps i≠it/\ps i≠dd)(hsz:more.length<=20000):
  ∀(k i:Nat) (s:Shared),items.size-i=k->i<=items.size->s.heap.IsListIter it l i->s.heap.IsList l items->s.heap.DictOf knd dd (merged [] (more.take i)) ->
  (∀j,j<items.size->∃key v,s.heap.IsTuple (ps j) #[key,v]/\∃kk,more[j]?=some (kk,v)/\knd.is kk key=true) ->
  (∀h' tk,h'.DictOf knd dd (merged [] more)->(∀b o,b≠it->b≠dd->s.heap.get? b=some o->h'.get? b=some o)->R (.ok (.ret .none)) {s with heap:=h',toks:=tk}) ->
  codeAny (model prog w) A (.builtin "dict.update.loop" ⟨[.ref dd,.ref it,rawInt i,.none],[]⟩) R s:=by
 intro k
 induction k with
 |zero =>
  intro i s hk hi hit hl hd hp hR;have hin:i=items.size:=by lia
  subst hin;refine IL gj ?_;rw[IY gZ _];show wpAny _ A.in1 (pyNext (.ref it) >>= _) _ _ s;refine Gj (JC hh hit hl (by simp) λh' he=>?_)
  refine Gj (Gu (Gu ?_));refine hR h' s.toks ?_ λb o b1 b2 e=>he b o b1 e;rw[Hq (by lia)] at hd
  exact hd.extBut he h1
 |succ k ih =>
  intro i s hk hi hit hl hd hp hR;have hlt:i<items.size:=by lia
  refine IL gj ?_;rw[IY gZ _];show wpAny _ A.in1 (pyNext (.ref it) >>= _) _ _ s;obtain⟨e1,e2,e3⟩:=hps i hlt;refine Gj (Js hit hl e1 λh' hit' hs'=>?_);obtain⟨key,v,ht,kk,em,hkk⟩:=hp i hlt;have ht':h'.IsTuple (ps i) #[key,v]:=by obtain⟨o,ho,r⟩:=ht;exact⟨o,(hs'.2 _ e2).trans ho,r⟩
  have hd':h'.DictOf knd dd (merged [] (more.take i)):=by obtain⟨o,es,ep,ho,r⟩:=hd;exact⟨o,es,ep,(hs'.2 _ h1).trans ho,r⟩
  refine Gj (He (Gj (wpAny_tryCatch ?_)));unfold Dict.pairItems;refine Gj (Lv ht'.typeIs ?_);rw[Gp (by decide)]
  obtain⟨o,ho,hoc,nn,hod⟩:=id ht';refine Gj (HW ho hod (Gu ?_));show wpAny _ A.in1 (holding [key,v] (dictSet dd key v)) _ _ _;refine He (wpAny_dictSet_pairs hkk hd' (λh2' hd2 hs2=>?_) ?_)
  rotate_left
  ·exact Gw (j9 _ _) (Gw (by rw[Hs,L0,GP];exact Gw (Nat.min_le_right _ _) hsz) (by decide))
  have et:merged [] (more.take (i+1))=stored (merged [] (more.take i)) kk v:=by
   have hlt':i<more.length:=by lia
   have:more[i]=(kk,v):=by rw[Gm hlt'] at em;exact Option.some.inj em
   rw[JA hlt',this];unfold merged;rw[List.foldl_append];rfl
  refine Gu ⟨Lp gZ _,?_⟩;have:=ih (i+1) {s with heap:=h2',toks:=s.toks+1} (by lia) hlt (by obtain⟨o,ho,r⟩:=hit';exact⟨o,(hs2.2 _ (Hy h1)).trans ho,r⟩) (by obtain⟨o,ho,r⟩:=hl;exact⟨o,(hs2.2 _ (Hy h2)).trans ((hs'.2 _ (Hy h3)).trans ho),r⟩) (by rw[et];exact hd2) (λj hj=>by
   obtain⟨key,v,⟨o,ho,r⟩,rr⟩:=hp j hj;obtain⟨f1,f2,f3⟩:=hps j hj;exact⟨key,v,⟨o,(hs2.2 _ f3).trans ((hs'.2 _ f2).trans ho),r⟩,rr⟩) (λh3' tk hd3 hk3=>hR h3' tk hd3 λb o b1 b2 e=>hk3 b o b1 b2 ((hs2.2 _ b2).trans ((hs'.2 _ b1).trans e)))
  exact this
theorem oV{E:Value->Shared->Prop}{s:Shared}{l:Addr}{items:Array Value}{cn:Nat}{more:List (K×Value)}{Q:Value->Shared->Prop}(hl:s.heap.get? l=some {cls:=.type "list",dict:=none,data:=.seq items cn,slots:=#[]})(hh:A.handled=none)(hn:more.length=items.size)(hsz:more.length<=20000)
  (ps:Nat->Addr) (hps:∀i,i<items.size->items[i]?=some (.ref (ps i))) (hp:∀j,j<items.size->∃key v,s.heap.IsTuple (ps j) #[key,v]/\∃kk,more[j]?=some (kk,v)/\knd.is kk key=true)
  (h:∀h' tk,h'.DictOf knd s.heap.objs.size (merged [] more)->(∀b o,s.heap.get? b=some o->h'.get? b=some o)->Q (.ref s.heap.objs.size) {s with heap:=h',toks:=tk}) :
  wpAny (model prog w) A (call (.type "dict") [.ref l]) Q E s:=by
 refine callType_codes (Q₁:=λobj s₁=>obj=.ref s.heap.objs.size/\s₁={s with heap:=s.heap.push {cls:=.type "dict",data:=.dict #[]}}) F.kt_called_dict (F.kt_typeCall_dict_1 _) F.entry_dict_init (kt_code_dict_new _ ⟨rfl,rfl⟩) ?_
 rintro obj s₁ ⟨rfl,rfl⟩;have hnew:(s.heap.push {cls:=.type "dict",data:=.dict #[]}).DictOf knd s.heap.objs.size []:=Heap.DictOf.new s.heap;refine⟨hnew.typeIs,F.args_dict_init_2 _ _,?_⟩;unfold Builtin.«dict.__init__»;refine Gj ?_;unfold Builtin.Dict.selfAndRest;refine Gj (wpAny_notOrdered_dict hnew.typeIs ?_);show wpAny _ _ (pure (s.heap.objs.size,[Value.ref l])) _ _ _;refine Gu ?_;show wpAny _ _ (Builtin.Dict.updateFrom "dict.__init__" s.heap.objs.size (.ref l) [] .none) _ _ _;unfold Builtin.Dict.updateFrom;have hl1:(s.heap.push {cls:=.type "dict",data:=.dict #[]}).get? l=some {cls:=.type "list",dict:=none,data:=.seq items cn,slots:=#[]}:=Gk _ hl;have hT:({s with heap:=s.heap.push {cls:=.type "dict",data:=.dict #[]}}:Shared).TypeIs (.ref l) "list":=⟨_,hl1,rfl⟩
 refine Gj (Lv hT ?_);rw[Gp (by decide)]
 refine Gj ?_;refine xY hl1 zy (by decide +kernel) hh (λh1 tk1 k1=>?_)
 rw[Gp (show (none:Option Value).isNone=true from rfl)];have hl2:h1.IsList l items:=⟨_,k1 _ _ hl1,rfl,cn,rfl⟩;have up:∀b o,s.heap.get? b=some o->h1.get? b=some o:=λb o e=>k1 b o (Gk _ e);obtain⟨od,es,ep,hod,hor⟩:=hnew;have hdl:s.heap.objs.size<h1.objs.size:=G5 (k1 _ _ hod);have hll:l<s.heap.objs.size:=G5 hl;have hpl:∀j,j<items.size->ps j<s.heap.objs.size:=λj hj=>by obtain⟨key,v,⟨o,ho,_⟩,_⟩:=hp j hj;exact G5 ho
 refine Gj (Kv (Gj (HK hl2 (Gu ⟨Lp gZ _,?_⟩))));refine yx (knd:=knd) (it:=h1.objs.size) (l:=l) (items:=items) (more:=more) (A:=A.in1) hh hn (GD hdl) (HN hll) (HN (JL hll hdl)) ps (λi hi=>⟨hps i hi,GD (JL (hpl i hi) hdl),GD (hpl i hi)⟩) hsz _ 0 _ rfl (GF _) ⟨_,G0 _ rfl,rfl,rfl⟩ ?_ ⟨od,es,ep,Gk _ (k1 _ _ hod),hor⟩ (λj hj=>?_) (λh' tk hd hk=>⟨rfl,h h' tk hd λb o e=>hk b o ?_ ?_ (Gk _ (up b o e))⟩)
 ·obtain⟨o,ho,r⟩:=hl2;exact⟨o,Gk _ ho,r⟩
 ·obtain⟨key,v,⟨o,ho,r⟩,rr⟩:=hp j hj;exact⟨key,v,⟨o,Gk _ (up _ _ ho),r⟩,rr⟩
 ·exact GD (JL (G5 e) hdl)
 ·exact GD (G5 e)
end
theorem kK{α β:Type}{F:α->β->Prop}:∀{l₁:List α} {l₂:List β},l₁.length=l₂.length->(∀(j:Nat) a b,l₁[j]?=some a->l₂[j]?=some b->F a b)->Paired F l₁ l₂
 |[],[],_,_=>.nil
 |[],_::_,h,_=>by cases h
 |_::_,[],h,_=>by cases h
 |a::l₁,b::l₂,h,f=>.cons (f 0 a b rfl rfl) (kK (Nat.succ.inj h) λj x y hx hy=>f (j+1) x y (by simpa using hx) (by simpa using hy))
noncomputable def yL(K:LA)(H:Hp)(vs:List V)(kvs:List (Key×V)):Prop:=vs.length=kvs.length/\∀(j:Nat) (k:Key) (x:V),kvs[j]?=some (k,x)->∃p,vs[j]?=some (.ref p)/\H p=some (.tup [kV k,x])
noncomputable def Cs(K:LA):List V->Hp->VK->Prop:=λxs H Q=>∃l vs kvs,xs=[.ref l]/\H l=some (.lst vs)/\yL K H vs kvs/\kvs.length<=20000/\∀p,H p=none->Q (.ref p) (upd H p (.dK (cB [] kvs)))
theorem nM{X:Cx}(K:LA)(hc:X.calm=true):bC X (.type "dict") (Cs K):=by
 intro pins s σ H xs us Q I r h;obtain⟨l,vs,kvs,rfl,hl,hp,hk,q⟩:=h;obtain⟨u,rfl,e0⟩:=vals1 r;have e1:u=.ref l:=e0;subst e1;obtain⟨hlen,its,n,hv,hget⟩:=(show bp X.prog X.w H s.heap l (.lst vs) from I.aX l _ hl);have hsz:its.toArray.size=kvs.length:=by rw[<- hp.1,G4,<- Paired.length hv]
 have key:∀j,j<kvs.length->∃p k x,kvs[j]?=some (k,x)/\its[j]?=some (.ref p)/\∃ku xu,s.heap.IsTuple p #[ku,xu]/\hG k ku=true/\RelV x xu:=λj hj=>by
  obtain⟨p,e1,e2⟩:=hp.2 j kvs[j].1 kvs[j].2 (Gm hj);obtain⟨u,e3,e4⟩:=Vals.get hv e1;have e5:u=.ref p:=e4;subst e5;obtain⟨_,ts,tv,hT⟩:=(show bp X.prog X.w H s.heap p (.tup [kV kvs[j].1,kvs[j].2]) from I.aX p _ e2);obtain⟨ku,xu,rfl,r1,r2⟩:=vals2 tv;exact⟨p,_,_,Gm hj,e3,ku,xu,hT.to,kT (P:=X.prog) (w:=X.w) r1,r2⟩
 obtain⟨f,hf⟩:=Classical.axiomOfChoice (r:=λ(j:Nat) (y:Addr×Value×Value)=>∀hj:j<kvs.length,s.heap.IsTuple y.1 #[y.2.1,y.2.2]/\hG kvs[j].1 y.2.1=true/\RelV kvs[j].2 y.2.2/\its[j]?=some (.ref y.1)) (λj=>by
  by_cases hj:j<kvs.length
  ·obtain⟨p,k,x,e1,e2,ku,xu,hT,h1,h2⟩:=key j hj;rw[Gm hj] at e1;have e1':kvs[j]=(k,x):=Option.some.inj e1;exact⟨(p,ku,xu),λ_=>⟨hT,by rw[e1'];exact h1,by rw[e1'];exact h2,e2⟩⟩
  ·exact⟨(0,.none,.none),λh=>absurd h hj⟩)
 let mv:List (Key×Value):=(List.range kvs.length).map λj=>((kvs[j]?.getD (.inl 0,.aQ)).1,(f j).2.2)
 have hmv:mv.length=kvs.length:=by simp[mv]
 have hmj:∀j (hj:j<kvs.length),mv[j]?=some (kvs[j].1,(f j).2.2):=λj hj=>by
  simp only[mv,G8,ID hj,Jg,Gm hj,Option.getD_some]
 have at':∀j (hj:j<kvs.length),∃ku xu,s.heap.IsTuple (f j).1 #[ku,xu]/\hG kvs[j].1 ku=true/\RelV kvs[j].2 xu/\its[j]?=some (.ref (f j).1)/\mv[j]?=some (kvs[j].1,xu):=λj hj=>by
  obtain⟨h1,h2,h3,h4⟩:=hf j hj;exact⟨_,_,h1,h2,h3,h4,hmj j hj⟩
 have hKV:KV kvs mv:=by
  refine kK (by rw[hmv]) λj a b ha hb=>?_
  have hj:j<kvs.length:=by
   rcases Ho j kvs.length with c|c
   ·exact c
   ·rw[GU.mpr c] at ha;cases ha
  obtain⟨ku,xu,_,_,h2,_,h3⟩:=at' j hj;rw[Gm hj] at ha;cases ha;rw[h3] at hb;cases hb;exact⟨rfl,h2⟩
 refine oV (knd:=bG X.prog X.w) hget (I.ok.hd hc) (by rw[hmv,hsz]) (by rw[hmv];exact hk) (λj=>(f j).1) (λi hi=>?_) (λj hj=>?_) (λh' tk hd hkp=>?_)
 ·rw[hsz] at hi;obtain⟨_,_,_,_,_,e,_⟩:=at' i hi;rw[Hl];exact e
 ·rw[hsz] at hj;obtain⟨ku,xu,hT,h1,_,_,h3⟩:=at' j hj;exact⟨ku,xu,hT,_,h3,h1⟩
 ·have hz:(cB [] kvs).length<=sizeLine:=by
   have h1:=e8 kvs [];rw[Hs] at h1;exact Gw (show _<=20000 by lia) (by decide)
  exact⟨.ref s.heap.objs.size,_,I.laid (t':=tk) hkp (Gs _) (pJ hz (G_.mpr (Hy (GD I.big))) (hKV.merge .nil) hd),rfl,q _ (I.aX.fresh (Gs _))⟩
open PySem PySem.Spec PyProof PyProof.Rows
namespace Z
section
variable {X:Cx} {CX:nY} {k:Nat} {f C:Addr} {fd:FuncData} {ps:List Str} {sp:Sp} {E:XK} {x m nm:Str} {p pos pos' apos:Pos} {e o i value:Expr} {es:List Expr} {ta tv td ty:TE} {t:TA}
theorem fld(K:LA)(hK:X.K=K)(he:QE X e ta)(hb:autoParam (attributeBase e nm X.env (eval e X.env)=eval e X.env) ℜ0):QE X (.Attribute e nm pos) (v9 K ta nm):=by subst hK;exact⟨B7 he.h hb⟩
theorem xq(K:LA)(hK:X.K=K)(ha:QE X o ta)(hv:QE X value tv)(hs:autoParam (swapsWith value (some (.Attribute o nm pos')) pos.line X.env=pure false) ℜ0):QS X (.Assign [.Attribute o nm pos'] value pos) (wg K ta tv nm):=by subst hK;exact⟨A8 ha.h hv.h hs⟩
theorem Cz(K:LA)(hK:X.K=K){pl:Sem Bool}(he:QE X o ta)(c:jK K C)(hm:Meth K C m f)(F:cC X.prog X.w K X.mg X.base CX k f fd ps sp)(hr:bE k X.A)(hb:Binds K fd ps [])(hx:Passes CX X E)(ha:QA X (e::es) t)
  (hst:autoParam (starEach (e::es) X.env=(false,eval e X.env)::starEach es X.env) ℜ0) (hpl:autoParam ((backTo pos (starEach es X.env)).any (·.1)=false) ℜ0)
  (ht:autoParam (eval (.Call (.Attribute o m apos) (e::es) [] pos) X.env=(do
   let ov <- eval o X.env
   standAt apos.atName
   let (f,first) <- holding [ov] (getMethod ov m pl)
   callWith pos f first (backTo pos (starEach (e::es) X.env)) (backToKw pos (keywordEach [] X.env)))) ℜ0) :
  QE X (.Call (.Attribute o m apos) (e::es) [] pos) (jo C m sp [] E ta t):=by subst hK;exact⟨ya (pl:=pl) he.h c hm F hr hb .nil hx ha.h hst hpl ht⟩
theorem vS(K:LA)(hK:X.K=K){pl:Sem Bool}(he:QE X o ta)(c:jK K C)(hm:Meth K C m f)(F:cC X.prog X.w K X.mg X.base CX k f fd ps sp)(hr:bE k X.A)(hb:Binds K fd ps [])(hx:Passes CX X E)
  (ht:autoParam (eval (.Call (.Attribute o m apos) [] [] pos) X.env=(do
   let ov <- eval o X.env
   standAt apos.atName
   let (f,first) <- holding [ov] (getMethod ov m pl)
   callWith pos f first (backTo pos (starEach [] X.env)) (backToKw pos (keywordEach [] X.env)))) ℜ0) :
  QE X (.Call (.Attribute o m apos) [] [] pos) (jo C m sp [] E ta iI):=by subst hK;exact⟨uO (pl:=pl) he.h c hm F hr hb .nil hx ht⟩
theorem make(K:LA)(hK:X.K=K)(M:Mk K C f)(F:cC X.prog X.w K X.mg X.base CX k f fd ps sp)(hr:bE (k+1) X.A)(hg:Gl X x)(hm:X.mg x=some (.ref C))(hb:Binds K fd ps [])(hx:Passes CX X E)
  (ha:QA X (e::es) t) (hdb:autoParam ((x ==("__debug__":Str))=false) ℜ1) (he:autoParam (starEach (e::es) X.env=(false,eval e X.env)::starEach es X.env) ℜ0) (hpl:autoParam ((backTo pos (starEach es X.env)).any (·.1)=false) ℜ0) :
  QE X (.Call (.Name x p) (e::es) [] pos) (mI C sp [] E t):=by subst hK;exact⟨zJ M F hr hg hm hb .nil hx ha.h hdb he hpl⟩
theorem oM(hu:X.A.units+1<cLine)(ho:QE X o td)(hi:QE X i ty)(hs:vR i:=by exactλ_ _=>rfl):QE X (.Subscript o i pos) (nW td ty):=⟨zD hu ho.h hi.h hs⟩
theorem dput(hu:X.A.units+1<cLine)(ho:QE X o td)(hi:QE X i ty)(hv:QE X value tv)(hs:autoParam (swapsWith value (some (.Subscript o i pos')) pos.line X.env=pure false) ℜ0):QS X (.Assign [.Subscript o i pos'] value pos) (nK td ty tv):=⟨yU hu ho.h hi.h hv.h hs⟩
end
end Z
namespace Ap
theorem v9(K:LA)(ta:TE)(f:Str)(σ:St)(H:Hp)(Q:VK):L2.v9 K ta f σ H Q=ta σ H λx H1=>∃a C dx fs v,x=.ref a/\H1 a=some (.ins C dx fs)/\jK K C/\b9 K C f/\fs.lookup f=some v/\Q v H1:=rfl
theorem wg(K:LA)(ta tv:TE)(f:Str)(D:Ends)(σ:St)(H:Hp):L2.wg K ta tv f D σ H=tv σ H λy H1=>ta σ H1 λx H2=>∃a C dx fs,x=.ref a/\H2 a=some (.ins C dx fs)/\jK K C/\b9 K C f/\fs.length<1000/\D.nx σ (upd H2 a (.ins C dx (d6 f y fs))):=rfl
theorem jo(C:Addr)(m:Str)(sp:Sp)(dvs:List V)(E:XK)(ta:TE)(t:TA)(σ:St)(H:Hp)(Q:VK):L2.jo C m sp dvs E ta t σ H Q=ta σ H λx H1=>∃a dx fs,x=.ref a/\H1 a=some (.ins C dx fs)/\fs.lookup m=none/\t σ H1 λvs H2=>sp (x::(vs++dvs)) H2 Q E:=rfl
theorem mI(C:Addr)(sp:Sp)(dvs:List V)(E:XK)(t:TA)(σ:St)(H:Hp)(Q:VK):L2.mI C sp dvs E t σ H Q=t σ H λvs H1=>∀x dx,H1 x=none->H1 dx=none->dx≠x->sp (.ref x::(vs++dvs)) (upd (upd H1 dx (.own x)) x (.ins C dx [])) (λv H2=>v=.aQ/\Q (.ref x) H2) E:=rfl
theorem nW(td ty:TE)(σ:St)(H:Hp)(Q:VK):L2.nW td ty σ H Q=td σ H λx H1=>ty σ H1 λy H2=>∃a v,x=.ref a/\fZ H2 a y (some v)/\Q v H2:=rfl
theorem nK(td ty tv:TE)(D:Ends)(σ:St)(H:Hp):L2.nK td ty tv D σ H=tv σ H λv H1=>td σ H1 λx H2=>ty σ H2 λy H3=>∃a H4,x=.ref a/\sL H3 a y v H4/\D.nx σ H4:=rfl
end Ap
section
variable {prog:Program} {w:World} {A:Around} {E:Value->Shared->Prop} {s:Shared} {K:LA} {a:Addr} {D:List (Str×List Str)} {k:Str} {tk:Tok}
theorem rZ{ws:List Str}{Q:Value->Shared->Prop}(T:jP K a D)(X:K.In s.heap)(hk:KTD.datumAt k D=some ws)(h:∀v,wJ K ws v->Q v {s with toks:=s.toks+1}):wpAny (model prog w) A (getItem (.ref a) (.str k tk)) Q E s:=by
 have hT:=T.typeIs X;unfold getItem
 try with_reducible refine He ?_
 refine Gj (wpAny_sequenceKey hT (by decide) ?_)
 refine Gj (Hu (name:=Str.ofString "__getitem__") hT PySem.F.slot_dict_getitem
  (Hw PySem.F.slot_dict_getitem hT PySem.F.entry_dict_getitem ?_ (args_dict_getitem _ _)))
 show wpAny _ _ (dictGet a (.str k tk) >>= _) _ _ s;refine Gj (u9 T X (λd v e r=>?_) λe=>?_)
 ·rw[hk] at e;cases e;exact Gu ⟨v,rfl,Gu (h v r)⟩
 ·rw[hk] at e;cases e
end
variable{Q:Value->Shared->Prop}{X:Cx}{body e:Expr}{c' d f kS:Addr}{D:List (Str×List Str)}{a b:List Nat}{q x:Str}{e1 ep i m:Nat}{y:Int×Int}{α:Type}{p:Array Nat}{N:List Str}{σf:List (Option V)}{scope:Scope}{cl:List (Str×Addr)}{params:Arguments}{ctv pm:Value}{H H1:Hp}{h h':Heap}{P:PySem.Fin->Shared->Prop}{us:List Value}{kz:List Int}{xs:List V}{K:LA}{es:Array DictEntry}{prog:Program}{w:World}{prs:List (Int×Int)}
noncomputable def w_(K:LA)(D:List (Str×List Str))(te:TE):TE:=λσ H Q=>te σ H λy H1=>∃k ws,y=.str k/\KTD.datumAt k D=some ws/\∀p,EN K p (ws.map V.str)->Q (.ref p) H1
theorem CF{o:Expr}{te:TE}{pos:Pos}(ho:PE X o (tC (.ref d)))(hD:jP X.K d D)(he:PE X e te)(hs:vR e):PE X (.Subscript o e pos) (w_ X.K D te):=by
 intro pins s σ H Q I h;refine rB PySem.F.slot_dict_getitem.lookup hs (bL (ho pins s σ H (λv H'=>v=.ref d/\H'=H) I ⟨rfl,rfl⟩) λu s1 hq1=>?_);obtain⟨x,H1,I1,rx,ex,eh⟩:=hq1;subst ex eh;obtain rfl:u=Value.ref d:=rx;refine bL (he pins s1 σ H1 _ I1 h) λiv s2 hq2=>?_;obtain⟨y,H2,I2,ry,k,ws,ek,e1,q⟩:=hq2;subst ek;obtain⟨t,rfl⟩:=ry;refine⟨hD.typeIs I2.gO,rZ hD I2.gO e1 λv r=>?_⟩;obtain⟨p,rfl,r⟩:=r;exact⟨.ref p,H2,I2.tok _,rfl,q p r⟩
theorem Z.seq{tg l:Expr}{tl:TE}(K:LA)(hK:X.K=K)(hl:QE X l tl):QI X tg l (wa K tl):=by subst hK;exact⟨Ct hl.h⟩
theorem Ap.wa(K:LA)(tl:TE)(σ:St)(H:Hp)(R:It->Hp->Prop):L2.wa K tl σ H R=tl σ H λx H1=>∃a,x=V.ref a/\(((∃xs,bZ K H1 a xs)/\R (vK K a) H1)\/((∃xs,b8 K H1 a xs)/\R (tN K a) H1)):=rfl
namespace Y
noncomputable def Cg:V->List V->Hp->VK->Prop:=λx vs H Q=>∃(z y:Str) (i:Nat) (rest:List Nat),x=.str z/\vs=[.str y]/\Builtin.Str.occurrences z y 0 z.length 1=i::rest/\Q (.int (i:Nat)) H
theorem fJ:rQ X "str.index" Cg:=by
 intro pins s σ H x xs v us Q I rx rs h;obtain⟨z,y,i,rest,rfl,rfl,ho,q⟩:=h;obtain⟨t,rfl⟩:=rx;obtain⟨u,rfl,k,rfl⟩:=vals1 rs;exact SC.index ho ⟨.int _,H,I.tok _,⟨_,rfl⟩,q⟩
noncomputable def Eb:V->List V->Hp->VK->Prop:=λx vs H Q=>∃(a:Addr) (ws:List Str) (k:Str) (j:Nat),x=.ref a/\H a=some (.lst (ws.map V.str))/\vs=[.str k]/\ws[j]?=some k/\(∀m,m<j->ws[m]?≠some k)/\Q (.int (j:Nat)) H
theorem yQ:EC X "list.index" Eb:=by
 intro pins s σ H x xs v us Q I rx rs h;obtain⟨a,ws,k,j,rfl,hH,rfl,hj,hno,q⟩:=h;cases rx;obtain⟨u,rfl,t,rfl⟩:=vals1 rs;obtain⟨z,its,n,r,hl,e⟩:=I.oQ hH;obtain⟨t',hit⟩:=mE r j k hj;have hjl:j<ws.length:=(Gq.mp hj).1;rw[Gx] at z hl;have hji:j<its.toArray.size:=by rw[G4];lia
 have sz:(sizeLine:Int)<2^63-1:=by decide
 have hje:its.toArray[j]=.str k t':=by
  have:its.toArray[j]?=some (.str k t'):=by rw[Hl];exact hit
  exact (HR.mp this).2
 have hall:∀(m:Nat) (hm:m<its.toArray.size),∃y ty,its.toArray[m]=.str y ty/\ws[m]?=some y:=λm hm=>by
  have hm':m<ws.length:=by rw[G4] at hm;lia
  have e1:=Gm hm';obtain⟨ty,hy⟩:=mE r m _ e1;have:its.toArray[m]?=some (.str ws[m] ty):=by rw[Hl];exact hy
  exact⟨_,ty,(HR.mp this).2,e1⟩
 refine IX PySem.F.slot_list_index ⟨_,e,rfl⟩ PySem.F.entry_list_index (PySem.F.args_list_index_2 _ _) (SeqAt.list_indexAt a its.toArray n none _ (.str k t) (λy=>match y with|.str y _=>y == k|_=>false) j hji (by lia) (by rw[hje];exact J8 k) λm hm hmj=>?_) ⟨e,λy hy=>?_,⟨.int (j:Nat),H,I.tok _,⟨_,rfl⟩,q⟩⟩
 ·obtain⟨y,ty,ey,ew⟩:=hall m hm;rw[ey];exact G_.mpr λz=>hno m hmj (by rw[ew,z])
 ·obtain⟨m,hm,rfl⟩:=Array.mem_iff_getElem.mp hy;obtain⟨y,ty,ey,ew⟩:=hall m hm;rw[ey];exact SeqAt.EqAt.str_str _ _ _ _
end Y
open PySem PySem.Spec PyProof PyProof.Rows PySem.W
namespace SP
section
variable (k:Nat->Int)
noncomputable def R(i j:Nat):Prop:=k i<k j\/(k i=k j/\i<j)
variable {k}
theorem R.le{a b:Nat}(h:R k a b):k a<=k b:=by unfold R at h;lia
end
structure PI (n m:Nat) (p:Array Nat) (a:List Nat):Prop where
 eq:p.toList=a++List.range' m (n-m)
 perm:a.Perm (List.range m)
 le:m<=n
section
variable {n m:Nat} {p:Array Nat} {a:List Nat}
theorem PI.len(h:PI n m p a):a.length=m:=by rw[h.perm.length_eq,Hc]
theorem PI.lt(h:PI n m p a){x:Nat}(hx:x∈a):x<m:=HH.mp (h.perm.mem_iff.mp hx)
theorem PI.size(h:PI n m p a):p.size=n:=by
 have:=h.len;have:=h.le;rw[<- Ha,h.eq,Gr,List.length_range',h.len];lia
theorem PI.at(h:PI n m p a){x:Nat}(hi:a[i]?=some x):p.getD i 0=x:=by
 have:p[i]?=some x:=by
  rw[<- GW,h.eq,Hg (Gq.mp hi).1];exact hi
 rw[Kj,this];rfl
theorem PI.nx(h:PI n m p a)(hm:m<n):p.getD m 0=m:=by
 have:p[m]?=some m:=by
  rw[<- GW,h.eq,GZ (by rw[h.len];exact Gs m),h.len,Io,List.getElem?_range' (by lia)];simp
 rw[Kj,this];rfl
theorem PI.step(h:PI n m p a)(hm:m<n):PI n (m+1) p (a++[m]):=by
 refine⟨?_,?_,hm⟩
 ·rw[h.eq,GS,show n-m=(n-(m+1))+1 by lia,Iy];rfl
 ·rw[JO];exact h.perm.append_right [m]
theorem PI.last(h:PI n m p a){y:Nat}(e:a=b++[y]):p.getD (m-1) 0=y:=by
 refine h.at ?_;have:=h.len;rw[e,Gr] at this;simp only[GC,Hs] at this;rw[e,GZ (by lia),show m-1-b.length=0 by lia];rfl
end
theorem wO{xs:Array α}{k l:Nat}{y:α}(hy:xs[k]?=some y)(hl:l<=k):(bubble xs k (k-l)).toList=xs.toList.take l++y::(xs.toList.drop l).take (k-l)++xs.toList.drop (k+1):=by
 have hk:k<xs.size:=(HR.mp hy).1;have hL:xs.toList.length=xs.size:=by simp
 apply Iu;intro i;rw[GW,getElem?_bubble hk _ (by lia),show k-(k-l)=l by lia]
 rw[GS,IZ];have ht:(xs.toList.take l).length=l:=by rw[GP];lia
 rw[ht];by_cases h1:i<l
 ·rw[Gp h1,Gn (by lia),Gn (by lia),IM,Gp h1,GW]
 ·rw[Gn h1];by_cases h2:i=l
  ·subst h2;rw[Gp rfl,Io,hy];rfl
  ·rw[Gn h2,show i-l=(i-l-1)+1 by lia,Ii,List.getElem?_cons_succ,IZ]
   have hm:((xs.toList.drop l).take (k-l)).length=k-l:=by rw[GP,Hd];lia
   rw[hm];by_cases h3:i-l-1<k-l
   ·rw[Gp h3,Gp (by lia),IM,Gp h3,HV,GW]
    congr 1;lia
   ·rw[Gn h3,Gn (by lia),HV,GW]
    congr 1;lia
theorem vi{xs:Array α}{j:Nat}(hi:i<=j)(hj:j<=xs.size):(mirror xs i j ((j-i) / 2)).toList=xs.toList.take i++((xs.toList.drop i).take (j-i)).reverse++xs.toList.drop j:=by
 have hL:xs.toList.length=xs.size:=by simp
 apply Iu;intro k;rw[GW,getElem?_mirror_all hj,GS,IZ];have ht:(xs.toList.take i).length=i:=by rw[GP];lia
 have hm:((xs.toList.drop i).take (j-i)).length=j-i:=by rw[GP,Hd];lia
 rw[ht];by_cases h1:k<i
 ·rw[Gp h1,Gn (by lia),IM,Gp h1,GW]
 ·rw[Gn h1,IZ,IE,hm];by_cases h2:k<j
  ·rw[Gp (by lia),Gp (by lia),List.getElem?_reverse (by lia),hm,IM,Gp (by lia),HV,GW]
   congr 1;lia
  ·rw[Gn (by lia),Gn (by lia),HV,GW]
   congr 1;lia
theorem PI.rev{n:Nat}{c:List Nat}(h:PI n m p (b++c)):PI n m (kas_rev p b.length m) (b++c.reverse):=by
 have hl:b.length+c.length=m:=by rw[<- h.len,Gr]
 refine⟨?_,((List.reverse_perm c).append_left b).trans h.perm,h.le⟩;unfold kas_rev;rw[vi (by lia) (by rw[h.size];exact h.le),h.eq,GS b c,List.take_left,List.drop_left,show m-b.length=c.length by lia,List.take_left,<- GS b c,List.drop_left' (by rw[Gr];exact hl)]
theorem l_(h:a.length=m)(hm:1<=m):∃b y,a=b++[y]:=by
 rcases Lm a with rfl|⟨b,y,rfl⟩
 ·cases h;exact absurd hm (by decide)
 ·exact⟨b,y,by simp⟩
section
variable {k:Nat->Int} {n:Nat} {cmp:Nat->Nat->(Bool->Shared->Prop)->Shared->Prop} {I:Shared->Prop}
noncomputable def nB(k:Nat->Int)(n:Nat)(cmp:Nat->Nat->(Bool->Shared->Prop)->Shared->Prop)(I:Shared->Prop):Prop:=∀i j C s,i<n->j<n->I s->(∀s',I s'->C (decide (k i<k j)) s')->cmp i j C s
theorem o_(hc:nB k n cmp I){G:Nat->Shared->Prop}:∀(f m:Nat) (a:List Nat) (s:Shared),PI n m p a->1<=m->f=n-m->a.Pairwise (R k)->I s ->
  (∀m' a' s',PI n m' p a'->m<=m'->a'.Pairwise (R k)->I s'->(∀b y,a'=b++[y]->m'<n->k m'<k y)->G m' s')->(kas_asc p f m).kasWp cmp G s
 |0,m,a,s,h,h1,hf,hp,hI,g=>g m a s h (Gs m) hp hI λ_ _ _ hl=>by have:=h.le;lia
 |f+1,m,a,s,h,h1,hf,hp,hI,g=>by
  have hm:m<n:=by lia
  obtain⟨b,y,e⟩:=l_ h.len h1;show cmp (p.getD m 0) (p.getD (m-1) 0) _ s;rw[h.nx hm,h.last e];have hy:y<m:=h.lt (by rw[e];simp)
  refine hc m y _ s hm (by lia) hI λs' hI'=>?_
  by_cases c:k m<k y
  ·rw[GX c];exact g m a s' h (Gs m) hp hI' λb' y' e' _=>by
    rw[e] at e';have:[y]=[y']:=(List.append_inj' e' rfl).2
    cases this;exact c
  ·rw[GH c];refine o_ hc f (m+1) (a++[m]) s' (h.step hm) (by lia) (by lia) ?_ hI' λm' a' s2 h' hm' hp' hI2 gl=>g m' a' s2 h' (by lia) hp' hI2 gl
   refine Hx.mpr ⟨hp,by simp,λx hx z hz=>?_⟩
   rw[G6.mp hz];have hxm:=h.lt hx;have:k x<=k y:=by
    rw[e] at hx hp;rcases Hh.mp hx with hx|hx
    ·exact ((Hx.mp hp).2.2 x hx y (by simp)).le
    ·rw[G6.mp hx];exact Lb _
   unfold R;lia
structure DI (k:Nat->Int) (b c:List Nat):Prop where
 Bn:b.Pairwise λx y=>R k y x
 less:∀y∈b,∀x∈c,k x<k y
 one:∀x∈c,∀y∈c,k x=k y
 up:c.Pairwise (· < ·)
theorem DI.rise{c:List Nat}(h:DI k b c):(b++c.reverse).reverse.Pairwise (R k):=by
 rw[JY,I_];refine Hx.mpr ⟨?_,JE.mpr h.Bn,λx hx y hy=>.inl (h.less y (Ik.mp hy) x hx)⟩;exact K9 (λ{x y} hx hy hl=>.inr ⟨h.one x hx y hy,hl⟩) h.up
theorem DI.next{c:List Nat}{x:Nat}(h:DI k b c)(hc:c≠[])(hx:∀y∈c,k x<k y):DI k (b++c.reverse) [x]:=by
 refine⟨Hx.mpr ⟨h.Bn,JE.mpr (K9 (λ{x y} hx hy hl=>.inr ⟨h.one x hx y hy,hl⟩) h.up),λy hy z hz=>.inl (h.less y hy z (Ik.mp hz))⟩,λy hy z hz=>?_,λy hy z hz=>?_,by simp⟩
 ·rw[G6.mp hz];rcases Hh.mp hy with hy|hy
  ·obtain⟨w,hw⟩:=Ky c hc;exact Int.lt_trans (hx w hw) (h.less y hy w hw)
  ·exact hx y (Ik.mp hy)
 ·rw[G6.mp hy,G6.mp hz]
theorem DI.more{c:List Nat}{x:Nat}(h:DI k b c)(he:∀y∈c,k x=k y)(hc:c≠[])(hl:∀y∈c,y<x):DI k b (c++[x]):=by
 refine⟨h.Bn,λy hy z hz=>?_,λy hy z hz=>?_,Hx.mpr ⟨h.up,by simp,λy hy z hz=>by rw[G6.mp hz];exact hl y hy⟩⟩
 ·rcases Hh.mp hz with hz|hz
  ·exact h.less y hy z hz
  ·rw[G6.mp hz];obtain⟨w,hw⟩:=Ky c hc;rw[he w hw];exact h.less y hy w hw
 ·rcases Hh.mp hy with hy|hy<;>rcases Hh.mp hz with hz|hz
  ·exact h.one y hy z hz
  ·rw[G6.mp hz];exact (he y hy).symm
  ·rw[G6.mp hy];exact he z hz
  ·rw[G6.mp hy,G6.mp hz]
theorem iP(hc:nB k n cmp I){G:Array Nat×Nat×Nat->Shared->Prop}:∀(f:Nat) (p:Array Nat) (m q:Nat) (b c:List Nat) (s:Shared),PI n m p (b++c)->c.length=q+1->DI k b c->f=n-m->I s ->
  (∀p' m' q' b' c' s',PI n m' p' (b'++c')->c'.length=q'+1->DI k b' c'->I s'->G (p',m',q') s')->(kas_desc f p m q).kasWp cmp G s
 |0,p,m,q,b,c,s,h,hl,hd,hf,hI,g=>g p m q b c s h hl hd hI
 |f+1,p,m,q,b,c,s,h,hl,hd,hf,hI,g=>by
  have hm:m<n:=by lia
  obtain⟨c0,y,e⟩:=l_ hl (by lia)
  have hbl:b.length+(q+1)=m:=by rw[<- hl,<- Gr,h.len]
  have ne:c≠[]:=by rw[e];simp
  have hy:y∈c:=by rw[e];simp
  have hya:y<m:=h.lt (GJ _ hy);have e1:p.getD m 0=m:=h.nx hm;have e2:p.getD (m-1) 0=y:=h.last (b:=b++c0) (by rw[e,GS])
  show cmp (p.getD m 0) (p.getD (m-1) 0) _ s;rw[e1,e2];refine hc m y _ s hm (by lia) hI λs' hI'=>?_
  by_cases c1:k m<k y
  ·rw[GX c1];have hx:∀z∈c,k m<k z:=λz hz=>by rw[hd.one z hz y hy];exact c1
   show KasT.kasWp cmp (if q > 0 then _ else _) G s'
   by_cases hq:q > 0
   ·rw[Gp hq,show m-(q+1)=b.length by lia]
    exact iP hc f _ (m+1) 0 (b++c.reverse) [m] s' (h.rev.step hm) rfl (hd.next ne hx) (by lia) hI' g
   ·rw[Gn hq];have e3:c.reverse=c:=by
     have:c.length=1:=by lia
     obtain⟨z,rfl⟩:=Lc.mp this;rfl
    exact iP hc f p (m+1) 0 (b++c.reverse) [m] s' (by rw[e3];exact h.step hm) rfl (hd.next ne hx) (by lia) hI' g
  ·rw[GH c1];show cmp y m _ s';refine hc y m _ s' (by lia) hm hI' λs2 hI2=>?_
   by_cases c2:k y<k m
   ·rw[GX c2];exact g p m q b c s2 h hl hd hI2
   ·rw[GH c2];refine iP hc f p (m+1) (q+1) b (c++[m]) s2 (by rw[<- GS];exact h.step hm) (by rw[Gr,hl];rfl) (hd.more (λz hz=>?_) ne λz hz=>h.lt (GJ _ hz)) (by lia) hI2 g
    rw[hd.one z hz y hy];lia
theorem qU(hc:nB k n cmp I){G:Nat×Array Nat->Shared->Prop}{s:Shared}(h:PI n m p a)(h1:1<=m)(hr:a.reverse.Pairwise (R k))(hI:I s)
  (g:∀m' p' a' s',PI n m' p' a'->1<=m'->a'.Pairwise (R k)->I s'->G (m',p') s'):(kas_tail3 m n p).kasWp cmp G s:=by
 unfold kas_tail3;rw[Ji];have hv:=PI.rev (b:=[]) (c:=a) h;exact o_ hc (n-m) m a.reverse s hv h1 rfl hr hI λm' a' s' h' hm' hp' hI' _=>g m' _ a' s' h' (by lia) hp' hI'
theorem rp(hc:nB k n cmp I){G:Nat×Array Nat->Shared->Prop}{s:Shared}(h:PI n m p a)(hm:m<n)(hd:DI k a [m])(hI:I s)
  (g:∀m' p' a' s',PI n m' p' a'->1<=m'->a'.Pairwise (R k)->I s'->G (m',p') s'):(kas_descPart m n p).kasWp cmp G s:=by
 unfold kas_descPart;rw[Ji];refine iP hc (n-(m+1)) p (m+1) 0 a [m] s (h.step hm) rfl hd rfl hI λp' m' q' b' c' s' h' hl' hd' hI'=>?_;have hbl:b'.length+(q'+1)=m':=by rw[<- hl',<- Gr,h'.len]
 show KasT.kasWp cmp (if q' > 0 then _ else _) G s'
 by_cases hq:q' > 0
 ·rw[Gp hq];show (kas_tail3 m' n (kas_rev p' (m'-(q'+1)) m')).kasWp cmp G s';rw[show m'-(q'+1)=b'.length by lia]
  exact qU hc h'.rev (by lia) hd'.rise hI' g
 ·rw[Gn hq];have e3:c'.reverse=c':=by
   have:c'.length=1:=by lia
   obtain⟨z,rfl⟩:=Lc.mp this;rfl
  exact qU hc h' (by lia) (by rw[<- e3];exact hd'.rise) hI' g
theorem uj(hc:nB k n cmp I){G:Nat×Array Nat->Shared->Prop}{s:Shared}(hn:1<=n)(hI:I s)
  (g:∀m' p' a' s',PI n m' p' a'->1<=m'->a'.Pairwise (R k)->I s'->G (m',p') s'):(kas_count n (List.toArray (List.range n))).kasWp cmp G s:=by
 unfold kas_count;rw[Ji];have h0:PI n 1 (List.toArray (List.range n)) [0]:=by
  refine⟨?_,List.Perm.refl _,hn⟩;show List.range n=[0]++List.range' 1 (n-1);rw[Ja,show n=(n-1)+1 by lia,Iy];rfl
 refine o_ hc (n-1) 1 [0] s h0 (Gs 1) rfl (by simp) hI λm a s' h hm hp hI' gl=>?_
 show KasT.kasWp cmp (if (m == n)=true then _ else _) G s'
 by_cases e:m=n
 ·subst e;rw[Gp (J8 m)];exact g m _ a s' h hm hp hI'
 ·rw[Gn (by simpa using e)]
  have hmn:m<n:=by have:=h.le;lia
  obtain⟨b,y,ea⟩:=l_ h.len hm;have ky:=gl b y ea hmn;have hya:y<m:=h.lt (by rw[ea];simp)
  by_cases h2:m > 1
  ·rw[Gp h2];obtain⟨x,r,ex⟩:∃x r,a=x::r:=by
    cases a with
    |nil=>have:=h.len;rw[Hs] at this;lia
    |cons x r=>exact⟨x,r,rfl⟩
   have hxa:x<m:=h.lt (by rw[ex];simp)
   show cmp ((List.toArray (List.range n)).getD 0 0) ((List.toArray (List.range n)).getD (m-1) 0) _ s';rw[h.at (i:=0) (x:=x) (by rw[ex];rfl),h.last ea]
   refine hc x y _ s' (by lia) (by lia) hI' λs2 hI2=>?_
   by_cases c:k x<k y
   ·rw[GX c];exact g m _ a s2 h hm hp hI2
   ·rw[GH c];have hv:=PI.rev (b:=[]) (c:=a) h;refine rp hc hv hmn ⟨JE.mpr hp,λz hz w hw=>?_,λz hz w hw=>by rw[G6.mp hz,G6.mp hw],by simp⟩ hI2 g
    rw[G6.mp hw];have hz':=Ik.mp hz;have hxz:k x<=k z:=by
     rw[ex] at hz' hp;rcases Gv.mp hz' with rfl|hz'
     ·exact Lb _
     ·exact ((GY.mp hp).1 z hz').le
    lia
  ·rw[Gn h2];have hm1:m=1:=by lia
   have hb:b=[]:=by
    have:=h.len;rw[ea,Gr,hm1] at this;simp only[GC,Hs] at this;exact KL.mp (by lia)
   subst hb;refine rp hc h hmn ⟨by rw[ea];simp,λz hz w hw=>?_,λz hz w hw=>by rw[G6.mp hz,G6.mp hw],by simp⟩ hI' g
   rw[G6.mp hw];rw[ea] at hz;rw[G6.mp hz];exact ky
theorem iU(hc:nB k n cmp I){G:Nat->Shared->Prop}{t:Nat}(h:PI n t p a)(ht:t<n)(hp:a.Pairwise (R k)):∀(f l r:Nat) (s:Shared),l<=r->r<=t->r-l<=f->(∀i x,i<l->a[i]?=some x->k x<=k t)->(∀i x,r<=i->a[i]?=some x->k t<k x)->I s ->
  (∀l' s',l'<=t->(∀i x,i<l'->a[i]?=some x->k x<=k t)->(∀i x,l'<=i->a[i]?=some x->k t<k x)->I s'->G l' s')->(kas_place p t f l r).kasWp cmp G s
 |0,l,r,s,h1,h2,h3,hlo,hhi,hI,g=>g l s (by lia) hlo (λi x hi e=>hhi i x (by lia) e) hI
 |f+1,l,r,s,h1,h2,h3,hlo,hhi,hI,g=>by
  show KasT.kasWp cmp (if l >= r then _ else _) G s
  by_cases hlr:l >= r
  ·rw[Gp hlr];exact g l s (by lia) hlo (λi x hi e=>hhi i x (by lia) e) hI
  ·rw[Gn hlr];have hmid:(l+r) / 2<a.length:=by rw[h.len];lia
   have em:a[(l+r) / 2]?=some a[(l+r) / 2]:=Gm hmid;have hma:a[(l+r) / 2]<t:=h.lt (GL hmid);have mono:∀i j x y,i<=j->a[i]?=some x->a[j]?=some y->k x<=k y:=λi j x y hij ex ey=>by
    rcases Ho i j with c|c
    ·obtain⟨hi,rfl⟩:=Gq.mp ex;obtain⟨hj,rfl⟩:=Gq.mp ey;exact (HZ.mp hp i j hi hj c).le
    ·have:i=j:=Nat.le_antisymm hij c;subst this;rw[ex] at ey;cases ey;exact Lb _
   show cmp (p.getD t 0) (p.getD ((l+r) / 2) 0) _ s;rw[h.nx ht,h.at em];refine hc t _ _ s ht (by lia) hI λs' hI'=>?_
   by_cases c:k t<k a[(l+r) / 2]
   ·rw[GX c];exact iU hc h ht hp f l ((l+r) / 2) s' (by lia) (by lia) (by lia) hlo (λi x hi e=>Int.lt_of_lt_of_le c (mono _ i _ x hi em e)) hI' g
   ·rw[GH c];exact iU hc h ht hp f ((l+r) / 2+1) r s' (by lia) h2 (by lia) (λi x hi e=>Int.le_trans (mono i _ x _ (by lia) e em) (by lia)) hhi hI' g
theorem vE(hc:nB k n cmp I){G:Array Nat->Shared->Prop}:∀(f:Nat) (p:Array Nat) (t:Nat) (a:List Nat) (s:Shared),PI n t p a->a.Pairwise (R k)->f=n-t->I s ->
  (∀p' a' s',PI n n p' a'->a'.Pairwise (R k)->I s'->G p' s')->(kas_bin f p t).kasWp cmp G s
 |0,p,t,a,s,h,hp,hf,hI,g=>by
  have:t=n:=by have:=h.le;lia
  subst this;exact g p a s h hp hI
 |f+1,p,t,a,s,h,hp,hf,hI,g=>by
  have ht:t<n:=by lia
  show KasT.kasWp cmp ((kas_place p t t 0 t).bind _) G s;rw[Ji];refine iU hc h ht hp t 0 t s (GF _) (Gs _) (by lia) (λi x hi _=>absurd hi (JQ i)) (λi x hi e=>?_) hI λl s' hl hlo hhi hI'=>?_
  ·have:=(Gq.mp e).1;rw[h.len] at this;lia
  ·have et:p[t]?=some t:=by
    rw[<- GW,h.eq,GZ (by rw[h.len];exact Gs t),h.len,Io,List.getElem?_range' (by lia)];simp
   have hla:l<=a.length:=by rw[h.len];exact hl
   have e1:(bubble p t (t-l)).toList=(a.take l++t::a.drop l)++List.range' (t+1) (n-(t+1)):=by
    rw[wO et hl,h.eq,List.take_append_of_le_length hla,List.drop_append_of_le_length hla,show n-t=(n-(t+1))+1 by lia,Iy]
    have e2:(a.drop l).length=t-l:=by rw[Hd,h.len]
    have e3:∀r:List Nat,(a++t::r).drop (t+1)=r:=λr=>by
     rw[show a++t::r=(a++[t])++r by simp]
     exact List.drop_left' (by rw[Gr,h.len];rfl)
    rw[List.take_left' e2,e3]
   have hP:PI n (t+1) (bubble p t (t-l)) (a.take l++t::a.drop l):=by
    refine⟨e1,?_,ht⟩;have:(a.take l++t::a.drop l).Perm (a++[t]):=by
     have h1:(a.take l++t::a.drop l).Perm (t::(a.take l++a.drop l)):=KA;rw[IU] at h1;exact h1.trans (List.perm_append_singleton t a).symm
    rw[JO];exact this.trans (h.perm.append_right [t])
   refine vE hc f _ (t+1) _ s' hP ?_ (by lia) hI' g
   have hp1:=(IU l a) ▸ hp;obtain⟨q1,q2,q3⟩:=Hx.mp hp1;refine Hx.mpr ⟨q1,GY.mpr ⟨λx hx=>?_,q2⟩,λx hx y hy=>?_⟩
   ·obtain⟨i,hi⟩:=JF.mp hx;rw[HV] at hi;exact .inl (hhi (l+i) x (by lia) hi)
   ·rcases Gv.mp hy with rfl|hy
    ·obtain⟨i,hi⟩:=JF.mp hx;rw[IM] at hi
     split at hi
     ·rename_i hil;have:=hlo i x hil hi;have hxt:=h.lt (List.mem_of_mem_take hx);unfold R;lia
     ·cases hi
    ·exact q3 x hx y hy
theorem qz(hc:nB k n cmp I){G:Array Nat->Shared->Prop}{s:Shared}(hn:1<=n)(hI:I s)(g:∀p s',p.toList.Perm (List.range n)->p.toList.Pairwise (R k)->I s'->G p s'):(kas_sort n).kasWp cmp G s:=by
 unfold kas_sort;rw[Ji];have fin:∀p a s',PI n n p a->a.Pairwise (R k)->I s'->G p s':=λp a s' h hp hI'=>by
  have e:p.toList=a:=by rw[h.eq,Io,List.range'_zero,HL]
  refine g p s' ?_ ?_ hI'<;>rw[e]
  ·exact h.perm
  ·exact hp
 refine uj hc hn hI λm p a s' h h1 hp hI'=>?_;show KasT.kasWp cmp (if m<n then _ else _) G s'
 by_cases hm:m<n
 ·rw[Gp hm];show (kas_bin (n-max m 1) p (max m 1)).kasWp cmp G s';rw[show max m 1=m by lia]
  exact vE hc (n-m) p m a s' h hp rfl hI' fin
 ·rw[Gn hm];have:m=n:=by have:=h.le;lia
  subst this;exact fin p a s' h hp hI'
end
end SP
abbrev CG(qual:Str)(scope:Scope)(L f:Addr)(cd:Value)(cl:List (Str×Addr)):Env:=PySem.W.envX qual scope L f cd cl
noncomputable def qE(X:Cx)(A:Around)(N:List Str)(qual:Str)(scope:Scope)(f:Addr)(cd:Value)(cl:List (Str×Addr))(s:Shared)(H:Hp):Cx where
 prog:=X.prog
 w:=X.w
 K:=X.K
 mg:=X.mg
 base:=X.base
 A:=A.deeper (CG qual scope s.heap.objs.size f cd cl)
 N:=N
 s₀:=s
 H₀:=H
 env:=CG qual scope s.heap.objs.size f cd cl
 outer:=X.stack
 stack:=CG qual scope s.heap.objs.size f cd cl::X.stack
 ex:=[]
 calm:=true
 fn:=λ_=>false
 pn:=[]
 xe:=λ_ _=>False
section
variable {X:Cx} {pins:List (Addr×Obj)} {σ:St} {H:Hp} {s:Shared}
theorem yk(I:Inv X pins σ H s){A:Around}(hA:A.frames=some X.stack)(hd:A.handled=none){qual:Str}{v:V}{u:Value}{cd:Value}{h₁:Heap}{tk:Nat}
  (hk:scope.kind=.function) (rv:RelV v u) (hloc:scope.names.lookup x=some .local) (hns:h₁.Ns s.heap.objs.size (λy=>[(x,u)].reverse.lookup y)) (old:∀b o,s.heap.get? b=some o->h₁.get? b=some o)
  (hlen:σf.length=N.length) (hcl:∀y c,cl.lookup y=some c->X.env.cells.lookup y=some c) (hhas:∀y,(scope.names.lookup y=some .cell\/scope.names.lookup y=some .free)->∃c,cl.lookup y=some c)
  (hf:∀(i:Nat) (y:Str) (v:V),N[i]?=some y->σf[i]?=some (some v)->scope.names.lookup y=some .free/\∃c u,cl.lookup y=some c/\s.heap.IsCell c (some u)/\RelV v u) :
  Inv (qE X A (x::N) qual scope f cd cl s H) [] (some v::σf) H {s with heap:=h₁,toks:=tk}:=by
 have noA:∀b:Addr,b∉(qE X A (x::N) qual scope f cd cl s H).ex:=λb z=>absurd (show b∈([]:List Addr) from z) (by simp)
 refine⟨⟨I.ok.mod,hk,rfl,rfl,Gs _,λy z c e1 e2=>I.ok.inj y z c (hcl y c e1) (hcl z c e2),hhas,λy c z _=>(by cases z),λ_=>hd,Around.frames_deeper hA,.inr ⟨rfl,rfl⟩,λb z=>absurd z (noA b),I.bs,Gw I.ok.xB I.sz,λb _ _=>noA b,λb z=>absurd z (noA b),I.stack,I.mf,I.ok.tabs.un I.base⟩,
  rfl,I.bare,Un.kept old,⟨_,hns,λi y w e1 e2 e3=>?_⟩,λy c e=>?_,I.aX.fresh (Gs _),λy c e=>I.fv y c (hcl y c e),λp hp=>absurd (show p∈([]:List (Addr×Obj)) from hp) (by simp),I.aX.kept old,?_⟩
 ·cases i with
  |zero =>
   have e1':some x=some y:=e1;have e2':some (some v)=some (some w):=e2
   cases e1';cases e2'
   exact⟨u,rv,.inl ⟨hloc,by simp⟩⟩
  |succ i =>
   obtain⟨h1,c,u',h2,h3,h4⟩:=hf i y w e1 e2;obtain⟨o,ho,hd'⟩:=h3;exact⟨u',h4,.inr ⟨.inr h1,c,h2,o,old _ _ ho,hd'⟩⟩
 ·obtain⟨v',o,ho,hd'⟩:=I.cell y c (hcl y c e);exact⟨v',o,old _ _ ho,hd'⟩
 ·show (some v::σf).length=(x::N).length;rw[GC,GC,hlen]
theorem vC(I:Inv X pins σ H s){A:Around}{k:Nat}(hr:bE (k+1) A)(hA:A.frames=some X.stack){qual:Str}{v:V}{u:Value}{f:Addr}{t:TE}{Q:VK}
  (hk:scope.kind=.function) (hco:scope.isCoroutine=false) (hgen:scope.isGenerator=false) (hcell:∀y∈scope.names,y.2≠.cell) (rv:RelV v u) (hloc:scope.names.lookup x=some .local)
  (ho:s.heap.get? f=some (PySem.W.kla_obj "<lambda>" qual params body scope cl pm c' ctv)) (gz:s.heap.CodeRec (.ref c') qual)
  (hbind:∀u,bindArgs (PySem.W.kla_fn "<lambda>" qual params body scope cl pm (.ref c') ctv) ⟨[u],[]⟩=pure [(x,u)])
  (hlen:σf.length=N.length) (hcl:∀y c,cl.lookup y=some c->X.env.cells.lookup y=some c) (hhas:∀y,(scope.names.lookup y=some .cell\/scope.names.lookup y=some .free)->∃c,cl.lookup y=some c)
  (hf:∀(i:Nat) (y:Str) (v:V),N[i]?=some y->σf[i]?=some (some v)->scope.names.lookup y=some .free/\∃c u,cl.lookup y=some c/\s.heap.IsCell c (some u)/\RelV v u)
  (hb:PE (qE X A (x::N) qual scope f (.ref c') cl s H) body t) (hq:t (some v::σf) H Q) :
  wpAny (model X.prog X.w) A (call (.ref f) [u]) (EP X pins σ Q) (λ_ _=>False) s:=by
 refine wpAny_call (PySem.W.kla_callFunE hr.depth ho rfl hco hgen rfl gz ?_);rw[hbind];refine Gu (wpAny_newFunctionEnv hcell (λy hy=>by rw[G6.mp hy];exact hloc) (λh₁ hns hsb=>⟨I.nolimit.fresh _ hsb,?_⟩) hk)
 have old:∀b o,s.heap.get? b=some o->h₁.get? b=some o:=λb o e=>hsb.extBut b o (GD (G5 e)) (Gk _ e);have J:=yk (tk:=s.toks+1) (qual:=qual) (f:=f) (cd:=.ref c') I hA hr.hd hk rv hloc hns old hlen hcl hhas hf;refine PySem.W.kla_codeExpr (Hn (hb [] _ _ H Q J hq) (λw s' h=>?_) λ_ _ h=>h.elim);obtain⟨v',H',J',r',q'⟩:=h;exact I.after ⟨v',H',J'.os,J'.bare,J'.base,J'.aX,r',q'⟩
end
inductive dU:Hp->Hp->Prop
 |refl {H:Hp}:dU H H
 |more {H H1:Hp} {p:Addr} {o:HO}:dU H H1->H1 p=none->dU H (upd H1 p o)
theorem dU.same(g:dU H H1):u_ H H1:=by
 induction g with
 |refl=>exact u_.refl _
 |more g n ih=>exactλb o e=>by rw[ae (ai (ih b o e) n)];exact ih b o e
theorem dU.trans{H2:Hp}(a:dU H H1)(b:dU H1 H2):dU H H2:=by
 induction b with
 |refl=>exact a
 |more _ n ih=>exact .more ih n
theorem i6{i j:Int}{ti tj:Tok}{c:Value}:∀l:List Value,TriplesOk l->TriplesOk (l++[.int i ti,.int j tj,c])
 |[],_=>trivial
 |.int _ _::.int _ _::_::r,h=>i6 r (show TriplesOk r from h)
theorem kN{p:Pos}{i j:Int}{ti tj:Tok}{c cv:Value}:∀l:List Value,TriplesOk l->codeAmong p (l++[.int i ti,.int j tj,c])=some cv->codeAmong p l=some cv\/cv=c
 |[],_,e=>by
  have e':(if (i == p.line && j == p.col)=true then some c else codeAmong p [])=some cv:=e
  by_cases z:(i == p.line && j == p.col)=true
  ·rw[Gp z] at e';cases e';exact .inr rfl
  ·rw[Gn z] at e';cases e'
 |.int a ta::.int b tb::d::r,h,e=>by
  have e':(if (a == p.line && b == p.col)=true then some d else codeAmong p (r++[.int i ti,.int j tj,c]))=some cv:=e
  show (if (a == p.line && b == p.col)=true then some d else codeAmong p r)=some cv\/_
  by_cases z:(a == p.line && b == p.col)=true
  ·rw[Gp z] at e' ⊢;exact .inl e'
  ·rw[Gn z] at e' ⊢;exact kN r (show TriplesOk r from h) e'
theorem qT(q:Str)(more:Array Value):vp (#[.str q 0]++more)=q:=by
 unfold vp;rw[IF];rfl
structure i5 (H:Hp) (f:Addr) (q:Str) (params:Arguments) (body:Expr) (scope:Scope) (cl:List (Str×Addr)) (c':Addr) (pm ctv:Value):Prop where
 fn:H f=some (.hZ (PySem.W.kla_obj "<lambda>" q params body scope cl pm c' ctv) (.own f))
 cd:Ah H q (.ref c')
section
variable {X:Cx} {pins:List (Addr×Obj)} {σ:St} {H:Hp} {s:Shared} {E:Value->Shared->Prop}
theorem i5.up(x:i5 H f q params body scope cl c' pm ctv)(g:∀b o u,H b=some (.hZ o u)->H1 b=some (.hZ o u)):i5 H1 f q params body scope cl c' pm ctv:=
 ⟨g _ _ _ x.fn,let ⟨c,oc,vs,t,e1,e2,e3⟩:=x.cd;⟨c,oc,vs,t,e1,g _ _ _ e2,e3⟩⟩
theorem i5.get(x:i5 H f q params body scope cl c' pm ctv)(I:Inv X pins σ H s):
  s.heap.get? f=some (PySem.W.kla_obj "<lambda>" q params body scope cl pm c' ctv)/\s.heap.CodeRec (.ref c') q:=by
 obtain⟨c,oc,vs,t,e1,e2,e3,e4⟩:=x.cd;exact⟨(I.aX f _ x.fn).1,c,oc,vs,t,e1,(I.aX c _ e2).1,e3,e4⟩
theorem Inv.vU{o:Obj}{t':Nat}(I:Inv X pins σ H s)(k:∀b u,s.heap.get? b=some u->h'.get? b=some u)(hp:s.heap.objs.size<=f)(e:h'.get? f=some o):Inv X pins σ (upd H f (.hZ o (.own f))) {s with heap:=h',toks:=t'}:=
 I.laid k hp ⟨e,o,e⟩
theorem uk(I:Inv X pins σ H s){c P:Addr}(hx:x∈dJ)(ht:PySem.W.tabIn X.K x=some (c,P))(hcode:X.env.code=.ref c)(hq:X.env.qual=x++".<locals>."){pos:Pos}
  (hdef:defaultsOf params X.env=([],[])) (hcl:closureFor scope X.env=pure cl)
  (h:∀f c' pm ctv H1 s1,dU H H1->Inv X pins σ H1 s1->i5 H1 f ((x++".<locals>.")++"<lambda>") params body scope cl c' pm ctv->Q (.ref f) s1) :
  wpAny (model X.prog X.w) X.A (eval (.Lambda params body scope pos) X.env) Q E s:=by
 have hm:(c,P,(x++".<locals>.")++"<lambda>")∈bV X.K:=Jj.mpr ⟨x,hx,by rw[ht];rfl⟩
 obtain⟨more,hP⟩:=(I.ok.tabs.un I.base) _ hm;have C:PySem.W.CodeHd s.heap c P:=(I.ok.mod.codes _ hm).keeps I.bk;obtain⟨qs,eP,tr,fa⟩:=I.aX P _ hP;have hns:=I.ok.mod.glob.keeps I.bk;have hgP:mainGlobals≠P:=λz=>by
  obtain⟨o,es,ep,e,_⟩:=I.ok.mod.glob;have:=(I.bs _ _ e).2;rw[z,hP] at this;cases this
 have hb:s.heap.BuiltinsAt X.mg P:=by
  obtain⟨bm,ob,b1,b2,b3,b4,b5⟩:=I.ok.mod.bm;refine⟨bm,ob,b1,b2,λz=>?_,λz=>?_,I.bk _ _ b3,b4,b5⟩
  ·obtain⟨o,es,ep,e,hd,_⟩:=I.ok.mod.glob;rw[z,e] at b3;cases b3;rw[hd] at b5;cases b5.2
  ·have:=(I.bs _ _ b3).2;rw[z,hP] at this;cases this
 refine PySem.W.kla_eval hdef ?_;rw[hq]
 cases ca:codeAmong pos qs.toList with
 |some cv =>
  have il:=fa pos cv ca;rw[qT] at il;obtain⟨c',oc,vs,t,rfl,e2,e3⟩:=il;refine PySem.W.kla_makeFunctionHit hcl I.ok.glob hns hcode C eP tr ca hb λctv h' tk hk hsz=>?_;have n0:H h'.objs.size=none:=I.aX.fresh hsz;have J:=I.vU (f:=h'.objs.size) (t':=tk) (h':=h'.push {cls:=.type "function",data:=.func (PySem.W.kla_fn "<lambda>" ((x++".<locals>.")++"<lambda>") params body scope cl ((X.mg "__name__").getD .none) (.ref c') ctv)}) (λb u e=>Gk _ (hk b u e)) hsz (G0 _ rfl);exact h _ c' _ ctv _ _ (.more .refl n0) J ⟨aa,c',oc,vs,t,rfl,by rw[ae (ai e2 n0)];exact e2,e3⟩
 |none =>
  refine PySem.W.kla_makeFunction hcl I.ok.glob hns hcode C eP tr ca hgP hb λc' ctv h' tk hx2 hge hlt hrec htb=>?_;obtain⟨c2,oc,vs,t,e2,hoc,hd,hv⟩:=hrec;cases e2;have nP:P≠c':=λz=>absurd (G5 eP) (by rw[z];exact Kz.mpr hge)
  have n1:H c'=none:=I.aX.fresh hge;have keep:∀b u,b≠P->s.heap.get? b=some u->h'.get? b=some u:=λb u hb' e=>hx2 b u hb' e;have H1ne:∀b u,H b=some u->upd H c' (.hZ oc (.own c')) b=some u:=λb u e=>by rw[ae (ai e n1)];exact e
  have hoP:∀y,H P≠some (.own y):=λy z=>by rw[hP] at z;cases z
  have J1:Inv X pins σ (upd H c' (.hZ oc (.own c'))) {s with heap:=h',toks:=tk}:=by
   refine I.un ⟨λb o e n _ _=>keep b o (λz=>by rw[z,hP] at n;cases n) e,λb o e n _ _=>⟨o.slots,keep b o (λz=>by rw[z,hP] at n;cases n) e⟩,λb o e n _=>?_,λb o e _=>?_,λb xs e=>H1ne b _ e,λb o u e=>H1ne b _ e,λb ps e=>⟨#[],by rw[H1ne b _ e,Kh]⟩⟩ λb u e=>?_
   ·rw[ae (λz=>absurd (G5 e) (by rw[z];exact Kz.mpr hge))];exact n
   ·by_cases z:b=P
    ·rw[z];exact⟨_,htb⟩
    ·exact⟨o,keep b o z e⟩
   ·by_cases z:b=c'
    ·subst z;rw[aa] at e;cases e;exact⟨hoc,oc,hoc⟩
    ·rw[ae z] at e;by_cases z2:b=P
     ·subst z2;rw[hP] at e;cases e;refine⟨_,htb,by rw[IF];exact i6 _ tr,λp cv hc=>?_⟩
      rw[IF] at hc;rcases kN _ tr hc with q|q
      ·obtain⟨c2,oc2,vs2,t2,g1,g2,g3⟩:=fa p cv q;exact⟨c2,oc2,vs2,t2,g1,H1ne _ _ g2,g3⟩
      ·rw[qT];exact⟨c',oc,vs,t,q,aa,hd,hv⟩
     ·refine (I.aX b u e).mw (λc v hc q=>keep c v ?_ q) (λc q=>H1ne c _ q) (λc xs q=>H1ne c _ q) λc _ _ q=>H1ne c _ q;rcases hc with rfl|hc
      ·exact z2
      ·exactλz3=>hoP b (by rw[<- z3];exact hc)
  have n2:upd H c' (.hZ oc (.own c')) h'.objs.size=none:=J1.aX.fresh (Gs _);have J:=J1.vU (f:=h'.objs.size) (t':=tk) (h':=h'.push (PySem.W.kla_obj "<lambda>" ((x++".<locals>.")++"<lambda>") params body scope cl ((X.mg "__name__").getD .none) c' ctv)) (λb u e=>Gk _ e) (Gs _) (G0 _ rfl);exact h _ c' _ ctv _ _ (.more (.more .refl n1) n2) J ⟨aa,c',oc,vs,t,rfl,by rw[ae (ai aa n2)];exact aa,hd,hv⟩
end
section
variable {α β:Type}
noncomputable def gU(p:Int×α):List (Int×α)->List (Int×α)
 |[]=>[p]
 |q::r=>if p.1<=q.1 then p::q::r else q::gU p r
noncomputable def ee:List (Int×α)->List (Int×α)
 |[]=>[]
 |p::r=>gU p (ee r)
abbrev CL(l:List (Int×α)):Prop:=l.Pairwise λp q=>p.1<=q.1
noncomputable def atK(a:Int)(l:List (Int×α)):List (Int×α):=l.filter λp=>decide (p.1=a)
theorem fO(p:Int×α):∀l,(gU p l).Perm (p::l)
 |[]=>.refl _
 |q::r=>by
  unfold gU;split
  ·exact .refl _
  ·exact ((fO p r).cons q).trans (List.Perm.swap p q r)
theorem dQ:∀l:List (Int×α),(ee l).Perm l
 |[]=>.refl _
 |p::r=>(fO p _).trans ((dQ r).cons p)
theorem rf{p:Int×α}:∀{l:List (Int×α)},CL l->CL (gU p l)
 |[],_=>KN _ _
 |q::r,h=>by
  obtain⟨h1,h2⟩:=GY.mp h;unfold gU;split
  ·rename_i c;exact GY.mpr ⟨λz hz=>by
    rcases Gv.mp hz with rfl|hz
    ·exact c
    ·exact Int.le_trans c (h1 z hz),h⟩
  ·rename_i c;refine GY.mpr ⟨λz hz=>?_,rf h2⟩;rcases Gv.mp ((fO p r).mem_iff.mp hz) with rfl|hz
   ·lia
   ·exact h1 z hz
theorem n_:∀l:List (Int×α),CL (ee l)
 |[]=>List.Pairwise.nil
 |_::r=>rf (n_ r)
theorem bw(a:Int)(p:Int×α)(l:List (Int×α)):atK a (p::l)=if p.1=a then p::atK a l else atK a l:=by
 unfold atK;rw[List.filter_cons];by_cases z:p.1=a
 ·rw[Gp z,Gp (GX z)]
 ·rw[Gn z,Gn (by simp[z])]
theorem qw{a:Int}{p:Int×α}:∀{l:List (Int×α)},atK a (gU p l)=atK a (p::l)
 |[]=>rfl
 |q::r=>by
  unfold gU;split
  ·rfl
  ·rename_i c;rw[bw,qw,bw,bw,bw];by_cases z:p.1=a
   ·have z2:¬ q.1=a:=by lia
    simp only[z,z2,Jn,Ih]
   ·simp only[z,Ih]
theorem oq{a:Int}:∀l:List (Int×α),atK a (ee l)=atK a l
 |[]=>rfl
 |p::r=>by
  show atK a (gU p (ee r))=_;rw[qw,bw,bw,oq r]
theorem jt{a:Int}:∀{l:List (Int×α)},(∀p∈l,a<p.1)->atK a l=[]
 |[],_=>rfl
 |p::r,h=>by
  have:=h p (GB ..);rw[bw,Gn (by lia),jt λq hq=>h q (GA _ hq)]
theorem kh:∀{l m:List (Int×α)},CL l->CL m->(∀a,atK a l=atK a m)->l=m
 |[],[],_,_,_=>rfl
 |[],q::m,_,_,h=>by
  have:=h q.1;rw[bw,Gp rfl] at this;cases this
 |p::l,[],_,_,h=>by
  have:=h p.1;rw[bw,Gp rfl] at this;cases this
 |p::l,q::m,hl,hm,h=>by
  obtain⟨l1,l2⟩:=GY.mp hl;obtain⟨m1,m2⟩:=GY.mp hm;have e:p.1=q.1:=by
   rcases Int.lt_trichotomy p.1 q.1 with z|z|z
   ·have q1:=h p.1;rw[bw,Gp rfl,bw,Gn (by lia),jt (l:=m) λr hr=>by have:=m1 r hr;lia] at q1
    cases q1
   ·exact z
   ·have q1:=h q.1;rw[bw,Gn (by lia),bw,Gp rfl,jt (l:=l) λr hr=>by have:=l1 r hr;lia] at q1
    cases q1
  have q1:=h p.1;rw[bw,Gp rfl,bw,Gp e.symm] at q1;obtain⟨q2,q3⟩:=List.cons.inj q1;subst q2;congr 1;refine kh l2 m2 λa=>?_;have q4:=h a;rw[bw,bw] at q4;by_cases z:p.1=a
  ·rw[Gp z,Gp z] at q4;exact (List.cons.inj q4).2
  ·rw[Gn z,Gn z] at q4;exact q4
theorem mL{l m:List (Int×α)}(hm:CL m)(h:∀a,atK a m=atK a l):m=ee l:=kh hm (n_ l) λa=>by rw[h a,oq]
abbrev CK(R:α->β->Prop):List (Int×α)->List (Int×β)->Prop:=Paired λp q=>p.1=q.1/\R p.2 q.2
theorem wN{R:α->β->Prop}{p:Int×α}{q:Int×β}(h:p.1=q.1/\R p.2 q.2){l:List (Int×α)}{m:List (Int×β)}(k:CK R l m):CK R (gU p l) (gU q m):=by
 induction k with
 |nil=>exact .cons h .nil
 |cons r t ih =>
  unfold gU;split
  ·rename_i z;rw[Gp (by rw[<- h.1,<- r.1];exact z)]
   exact .cons h (.cons r t)
  ·rename_i z;rw[Gn (by rw[<- h.1,<- r.1];exact z)]
   exact .cons r ih
theorem sU{R:α->β->Prop}{l:List (Int×α)}{m:List (Int×β)}(k:CK R l m):CK R (ee l) (ee m):=by
 induction k with
 |nil=>exact .nil
 |cons r t ih=>exact wN r ih
theorem wI{R:α->β->Prop}{ks:List Int}{l:List α}{m:List β}(k:Paired R l m):CK R (ks.zip l) (ks.zip m):=by
 induction k generalizing ks with
 |nil=>rw[List.zip_nil_right,List.zip_nil_right];exact .nil
 |cons r t ih =>
  cases ks with
  |nil=>exact .nil
  |cons k ks=>exact .cons ⟨rfl,r⟩ ih
theorem uw{R:α->β->Prop}{l:List (Int×α)}{m:List (Int×β)}(k:CK R l m):Paired R (l.map (·.2)) (m.map (·.2)):=by
 induction k with
 |nil=>exact .nil
 |cons r t ih=>exact .cons r.2 ih
noncomputable def iK(ks:List Int)(l:List α):List α:=(ee (ks.zip l)).map (·.2)
theorem rg{R:α->β->Prop}{ks:List Int}{l:List α}{m:List β}(h:Paired R l m):Paired R (iK ks l) (iK ks m):=uw (sU (wI h))
theorem qI{ks:List Int}{l:List α}(h:ks.length=l.length):(iK ks l).length=l.length:=by
 unfold iK;rw[Gx,(dQ _).length_eq,JR,h,KC]
theorem jI{ks:List Int}{l:List α}(h:ks.length=l.length):(iK ks l).Perm l:=by
 have h2:((ks.zip l).map (·.2))=l:=KD (by lia)
 have h3:=(dQ (ks.zip l)).map (·.2);rw[h2] at h3;exact h3
end
theorem iE:∀{xs:List V} {us:List Value},Vals xs us->Paired RelV xs us
 |_,_,.nil=>.nil
 |_,_,.cons r t=>.cons r (iE t)
theorem iG:∀{xs:List V} {us:List Value},Paired RelV xs us->Vals xs us
 |_,_,.nil=>.nil
 |_,_,.cons r t=>.cons r (iG t)
theorem qB:∀{us:List Value} {ns:List Int},IntsAre us ns->∀{i:Nat},i<ns.length->∃t,us.getD i Value.none=.int (ns.getD i 0) t
 |_,_,.cons n t h,0,_=>⟨t,rfl⟩
 |_,_,.cons n t h,i+1,hi=>qB h (i:=i) (by simpa using hi)
theorem xi{p:List Nat}(hl:kz.length=us.length)(hp:p.Perm (List.range us.length))(hr:p.Pairwise (SP.R λi=>kz.getD i 0)):p.map (λi=>us.getD i Value.none)=iK kz us:=by
 have ez:(List.range us.length).map (λi=>(kz.getD i 0,us.getD i Value.none))=kz.zip us:=by
  apply IB
  ·rw[Gx,Hc,JR,hl,KC]
  ·intro i h1 h2;rw[Gx,Hc] at h1;rw[List.getElem_map,List.getElem_range,List.getElem_zip];simp[h1,hl]
 have e1:p.map (λi=>(kz.getD i 0,us.getD i Value.none))=ee (kz.zip us):=by
  refine mL ?_ λa=>?_
  ·exact Iv.mpr (hr.imp λh=>h.le)
  ·have fl:∀l:List Nat,atK a (l.map λi=>(kz.getD i 0,us.getD i Value.none))=(l.filter λi=>decide (kz.getD i 0=a)).map λi=>(kz.getD i 0,us.getD i Value.none):=λl=>by
    unfold atK;rw[List.filter_map];rfl
   rw[<- ez,fl,fl];congr 1;refine KG (le:=(· < ·)) (λa b _ _ h g=>absurd h (Nat.lt_asymm g)) ?_ (Ju.filter _) (hp.filter _);rw[List.pairwise_filter];refine hr.imp λ{i j} h hi hj=>?_;have hi:=Hr hi;have hj:=Hr hj;rcases h with h|h
   ·exfalso;have h':kz.getD i 0<kz.getD j 0:=h;lia
   ·exact h.2
 unfold iK;rw[<- e1,JS];rfl
section
variable {X:Cx} {pins:List (Addr×Obj)} {σ:St} {H:Hp} {s:Shared} {E:Value->Shared->Prop}
theorem Inv.take{D:Addr}{ob:Obj}{o:HO}{t':Nat}(I:Inv X ((D,ob)::pins) σ H s)(hs0:X.s₀.heap.objs.size<=D)(hnp:∀p∈X.pn++pins,p.1≠D)(k:∀b u,b≠D->s.heap.get? b=some u->h'.get? b=some u)(new:bp X.prog X.w (upd H D o) h' D o):
  Inv X pins σ (upd H D o) {s with heap:=h',toks:=t'}:=by
 obtain⟨g1,g2,g3,g4,g5⟩:=I.pin (D,ob) (GJ _ (GB ..));have I0:Inv X pins σ H s:=⟨I.ok,I.os,I.bare,I.base,I.loc,I.cell,I.free,I.fv,λp hp=>I.pin p ((Hh.mp hp).elim (λz=>IV _ z) λz=>GJ _ (GA _ z)),I.aX,I.len⟩;have ne:∀b u,H b=some u->b≠D:=λb u e=>ai e g2;refine I0.step (g':=s.gens) (d':=s.drawn) (ch:=[D]) (λb hb=>?_) (λb o' _ _ hc e _=>k b o' (λz=>hc (by rw[z];exact G6.mpr rfl)) e) (λb o' _ _ hc e _=>⟨o'.slots,k b o' (λz=>hc (by rw[z];exact G6.mpr rfl)) e⟩) (λb o' hc e n=>by rw[ae (λz=>hc (by rw[z];exact G6.mpr rfl))];exact n)
  (λb o' hc e=>⟨o',k b o' (λz=>hc (by rw[z];exact G6.mpr rfl)) e⟩) (λb xs e=>by rw[ae (ne b _ e)];exact e) (λb o' u e=>by rw[ae (ne b _ e)];exact e) (λb ps e=>⟨#[],by rw[ae (ne b _ e),e,Kh]⟩) (λm hm=>?_) (λb u e=>?_) I.bare
 ·rw[G6.mp hb];refine⟨.inr hs0,g3,λx c e z=>?_,hnp⟩;obtain⟨v,o',ho',hd⟩:=I.cell x c e;rw[z,g1] at ho';cases ho';exact g5 v hd
 ·obtain⟨o',es,ep,ho',r⟩:=hm;exact⟨o',es,ep,k _ _ (Hy g3) ho',r⟩
 ·by_cases z:b=D
  ·subst z;rw[aa] at e;cases e;exact new
  ·rw[ae z] at e;refine (I.aX b u e).mw (λc v hc q=>k c v ?_ q) (λc q=>by rw[ae (ne c _ q)];exact q) (λc xs q=>by rw[ae (ne c _ q)];exact q) λc _ _ q=>by rw[ae (ne c _ q)];exact q
   rcases hc with rfl|hc
   ·exact z
   ·exact ne c _ hc
theorem rH{A:Around}{D:Nat}{st:SortSt}
  (I:Inv X ((D,seqObj "list" #[] e1)::pins) σ (upd H kS (.lst (kz.map V.int))) s) (hkS:H kS=none) (hD:H D=none) (hkD:kS≠D) (hs0:X.s₀.heap.objs.size<=D) (hnp:∀p∈X.pn++pins,p.1≠D)
  (hv:Vals xs us) (hlen:kz.length=us.length) (h64:us.length<64) (ho:((arrOf st).map (·.2)).toList=iK kz us) (hfl:failedOf st=none)
  (h:∀s',Inv X pins σ (upd (upd H kS (.lst [])) D (.lst (iK kz xs))) s'->P (.done (.ret .none)) s') :
  wpAny (model X.prog X.w) A (ksk_tail D false e1 (.ref kS) st) P E s:=by
 obtain⟨_,its,n,vr,ek⟩:=I.aX kS _ aa;have hz:its.toArray.size<=sizeLine:=by
  rw[G4,<- vr.length,Gx,hlen,Hz];lia
 have pD:=I.pin _ (GJ _ (GB ..));have hout:((arrOf st).map (·.2)).size=us.length:=by
  rw[<- Ha,ho,qI hlen]
 have s1:=HM s.heap kS (Obj.mapSeq λ_=>(#[]:Array Value));obtain⟨c1,hc1⟩:∃c,(s.heap.update kS (Obj.mapSeq λ_=>(#[]:Array Value))).get? kS=some (seqObj "list" #[] c):=⟨_,Jh ek λ_=>#[]⟩;have J1:Inv X ((D,seqObj "list" #[] e1)::pins) σ (upd H kS (.lst [])) {s with heap:=s.heap.update kS (Obj.mapSeq λ_=>(#[]:Array Value))}:=by
  have J:=I.write (x:=kS) (e:=kS) (o:=.lst []) (t':=s.toks) (h':=s.heap.update kS (Obj.mapSeq λ_=>(#[]:Array Value))) (by rw[aa];trivial) (.inl rfl) (λb u hb q=>(s1.2 b hb).trans q) ⟨_,hc1⟩ ⟨GF _,[],c1,.nil,hc1⟩
  rw[my] at J;exact J
 have pD1:=J1.pin _ (List.mem_append_right _ (List.mem_cons_self ..));have s2:=Heap.SameBut.update (s.heap.update kS (Obj.mapSeq λ_=>(#[]:Array Value))) D (Obj.mapSeq λ_=>(arrOf st).map (·.2));obtain⟨c2,hc2⟩:∃c,((s.heap.update kS (Obj.mapSeq λ_=>(#[]:Array Value))).update D (Obj.mapSeq λ_=>(arrOf st).map (·.2))).get? D=some (seqObj "list" ((arrOf st).map (·.2)) c):=⟨_,get?_update_seq pD1.1 λ_=>(arrOf st).map (·.2)⟩;have vB:Vals (iK kz xs) (iK kz us):=iG (rg (iE hv));unfold ksk_tail;dsimp only;refine wpAny_bind (listUpdate_at ek rfl ?_ hz (Nat.zero_le _));refine wpAny_bind (wpAny_letGo ?_);refine wpAny_bind (seqEpoch_at pD1.1 rfl ?_);refine wpAny_bind (listUpdate_at pD1.1 rfl ?_ (Nat.zero_le _) (by show ((arrOf st).map (·.2)).size<=_;rw[hout,sizeLine_eq];lia))
 rw[hfl];simp only[Ks,HE,Ih];refine Gu (h _ (J1.take hs0 hnp (λb u hb q=>(s2.2 b hb).trans q) ⟨?_,iK kz us,c2,vB,?_⟩))
 ·rw[vB.length,qI hlen,Hz];lia
 ·rw[<- ho,Jb];exact hc2
theorem B0{A:Around}{D:Nat}{us:List Value}{kz:List Int}{keys:Array Value}
  (I:Inv X ((D,seqObj "list" #[] e1)::pins) σ (upd H kS (.lst (kz.map V.int))) s) (hkS:H kS=none) (hD:H D=none) (hkD:kS≠D) (hs0:X.s₀.heap.objs.size<=D) (hnp:∀p∈X.pn++pins,p.1≠D)
  (hv:Vals xs us) (hlen:kz.length=us.length) (h64:us.length<64) (hk:IntsAre keys.toList kz)
  (h:∀s',Inv X pins σ (upd (upd H kS (.lst [])) D (.lst (iK kz xs))) s'->P (.done (.ret .none)) s') :
  wpAny (model X.prog X.w) A (ksk_end D false us.toArray e1 (.ref kS) keys) P E s:=by
 have hsz:keys.size=us.length:=by
  have z:=hk.length;rw[Ha] at z;exact z.trans hlen
 have hzs:(keys.zip us.toArray).size=us.length:=by
  rw[Array.size_zip,hsz,G4,KC]
 unfold ksk_end;dsimp only;rw[if_neg Bool.false_ne_true,if_neg Bool.false_ne_true];by_cases h2:us.toArray.size<2
 ·rw[if_pos h2,if_pos h2];refine wpAny_bind (wpAny_pure ?_);rw[StateT.run_pure];refine wpAny_bind (wpAny_pure ?_);dsimp only;refine rH I hkS hD hkD hs0 hnp hv hlen h64 ?_ rfl h;rw[List.size_toArray] at h2;have:=xi (us:=us) (kz:=kz) (p:=List.range us.length) hlen (List.Perm.refl _) (by
   rcases us with _|⟨x,_|⟨y,r⟩⟩
   ·exact .nil
   ·simp
   ·exfalso;simp only[GC] at h2;lia)
  rw[<- this];show ((keys.zip us.toArray).map (·.2)).toList=_;rw[Array.toList_map,Array.toList_zip,KD (by simp only[Ha,G4];lia)]
  apply IB
  ·simp
  ·intro i h1 h2;have h1':i<us.length:=h1;simp[h1']
 ·rw[Gn h2,Gn h2];rw[G4] at h2;rw[ksk_kind hk (by lia)]
  refine Gj (Gu ?_);have ek:keys=keys.toList.toArray:=(Jb).symm;have hkl:keys.toList.length=us.length:=by rw[Ha,hsz]
  have hat:∀i,i<us.length->∃t,keys.toList.getD i Value.none=.int (kz.getD i 0) t:=λi hi=>qB hk (by rw[hlen];exact hi)
  generalize keys.toList=ks at *;subst ek;refine Gj (Hn (PySem.W.kat_run (ks:=ks) (vs:=us) (κ:=oneType') (Q:=λst' s'=>s'=s/\failedOf st'=none/\((arrOf st').map (·.2)).toList=iK kz us)
   (G:=λp s'=>s'=s/\p.toList.Perm (List.range us.length)/\p.toList.Pairwise (SP.R λi=>kz.getD i 0)) hkl (by lia) h64 (λp st' s' a1 a2 a3 a4=>⟨a4.1,a3,by rw[PySem.W.kat_snds hkl a2];exact xi hlen a4.2.1 a4.2.2⟩) ?_) ?_ λ_ _ e=>e)
  ·refine SP.qz (k:=λi=>kz.getD i 0) (I:=λs'=>s'=s) (λi j C s' hi hj hI hC=>?_) (by lia) rfl λp s' hp hr hI=>⟨hI,hp,hr⟩
   subst hI;obtain⟨t1,e1⟩:=hat i hi;obtain⟨t2,e2⟩:=hat j hj;unfold PySem.W.kas_ask;rw[e1,e2];exact PySem.W.kat_lt_int (hC _ rfl)
  rintro⟨⟨⟩,st'⟩ s' ⟨rfl,hf,ho⟩;dsimp only;exact rH I hkS hD hkD hs0 hnp hv hlen h64 ho hf h
theorem jH:∀{us:List Value} {ns:List Int},Vals (ns.map V.int) us->IntsAre us ns
 |_,[],.nil=>.nil
 |_,n::ns,.cons ⟨t,e⟩ r=>by subst e;exact .cons n t (jH r)
theorem xR{A:Around}{D:Nat}{f:Value}
  (I:Inv X ((D,seqObj "list" #[] e1)::pins) σ (upd H kS (.lst [])) s) (hkS:H kS=none) (hD:H D=none) (hkD:kS≠D) (hs0:X.s₀.heap.objs.size<=D) (hnp:∀p∈X.pn++pins,p.1≠D)
  (hv:Vals xs us) (hlen:kz.length=us.length) (h64:us.length<64)
  (turn:∀(i:Nat) (u:Value) (k:Int),us[i]?=some u->kz[i]?=some k->∀pins' H' s',dU H H'->Inv X pins' σ H' s'->wpAny (model X.prog X.w) A (call f [u]) (λr s2=>(∃t,r=.int k t)/\Inv X pins' σ H' s2) (λ_ _=>False) s')
  (h:∀s',Inv X pins σ (upd (upd H kS (.lst [])) D (.lst (iK kz xs))) s'->P (.done (.ret .none)) s') :
  wpAny (model X.prog X.w) A (ksk_rest D f false us.toArray e1 (.ref kS)) P E s:=by
 unfold ksk_rest;refine Gj (Kv ?_)
 first
  |rw[List.forIn_toArray]
  | (rw[<- Array.forIn_toList];simp only[JZ])
 refine Gj (ksk_fold (λi s'=>Inv X ((D,seqObj "list" #[] e1)::pins) σ (upd H kS (.lst ((kz.take i).map V.int))) s') us 0 s I ?one ?all)
 case one =>
  intro j u s' hu J;rw[L0] at J ⊢;have hj:j<us.length:=(Gq.mp hu).1;obtain⟨k,hkj⟩:∃k,kz[j]?=some k:=⟨_,Gm (by lia)⟩
  refine wpAny_bind (wpAny_attempt (wpAny_mono (turn j u k hu hkj _ _ s' (.more .refl hkS) J) (λr s2 hr=>?_) λ_ _ z=>z.elim));obtain⟨⟨t,rfl⟩,J2⟩:=hr;dsimp only;obtain⟨_,its,n,vr,ek⟩:=J2.aX kS _ aa;have lenI:its.length<=us.length:=by
   rw[<- vr.length,Gx,GP];lia
  have s1:=HM s2.heap kS (Obj.mapSeq (·.push (.int k t)));obtain⟨c1,hc1⟩:∃c,(s2.heap.update kS (Obj.mapSeq (·.push (.int k t)))).get? kS=some (seqObj "list" (its.toArray.push (.int k t)) c):=⟨_,Jh ek (·.push (.int k t))⟩;have et:kz.take (j+1)=kz.take j++[k]:=by
   rw[List.take_add_one,hkj];rfl
  have vr2:Vals ((kz.take (j+1)).map V.int) (its++[.int k t]):=by
   rw[et,GO];exact vr.append (.cons ⟨t,rfl⟩ .nil)
  refine Gj (J5 ek rfl ?_ (by rw[G4,Hz];lia) (by show (its.toArray.push (.int k t)).size<=_;rw[Array.size_push,G4,Hz];lia))
  refine Gu ⟨rfl,?_⟩;have J3:=J2.write (x:=kS) (e:=kS) (o:=.lst ((kz.take (j+1)).map V.int)) (t':=s2.toks) (h':=s2.heap.update kS (Obj.mapSeq (·.push (.int k t)))) (by rw[aa];trivial) (.inl rfl) (λb u hb q=>(s1.2 b hb).trans q) ⟨_,hc1⟩
   ⟨by rw[Gx,GP,Hz];lia,its++[.int k t],c1,vr2,by rw[hc1,List.push_toArray]⟩
  rw[my] at J3;exact J3
 case all =>
  intro s' J;have ez:kz.take (0+us.length)=kz:=Hq (by lia)
  have J':Inv X ((D,seqObj "list" #[] e1)::pins) σ (upd H kS (.lst (kz.map V.int))) s':=by
   rw[<- ez];rw[ez];simpa only[ez] using J
  obtain⟨_,its,n,vr,ek⟩:=J'.aX kS _ aa;refine Gj (JN ek rfl ?_);exact B0 J' hkS hD hkD hs0 hnp hv hlen h64 (by rw[JZ];exact jH vr) h
theorem zq{A:Around}{D:Addr}{n0:Nat}{h0:Heap}{f:Value}
  (I:Inv X pins σ H s) (k0:∀b o,s.heap.get? b=some o->h0.get? b=some o) (hDs:s.heap.objs.size<=D) (ho:h0.get? D=some (seqObj "list" us.toArray n0)) (hv:Vals xs us) (hlen:kz.length=us.length) (h64:us.length<64)
  (turn:∀(i:Nat) (u:Value) (k:Int),us[i]?=some u->kz[i]?=some k->∀pins' H' s',dU H H'->Inv X pins' σ H' s'->wpAny (model X.prog X.w) A (call f [u]) (λr s2=>(∃t,r=.int k t)/\Inv X pins' σ H' s2) (λ_ _=>False) s')
  (h:∀H' s',dU H H'->H' D=none->Inv X pins σ (upd H' D (.lst (iK kz xs))) s'->P (.done (.ret .none)) s') :
  wpAny (model X.prog X.w) A (ksk_tree D f false) P E {s with heap:=h0}:=by
 have hsz0:D<h0.objs.size:=G5 ho;have s1:=HM h0 D (Obj.mapSeq λ_=>(#[]:Array Value));obtain⟨e1,ho1⟩:∃e,(h0.update D (Obj.mapSeq λ_=>(#[]:Array Value))).get? D=some (seqObj "list" #[] e):=⟨_,Jh ho λ_=>#[]⟩;have hkz:((h0.update D (Obj.mapSeq λ_=>(#[]:Array Value))).push (seqObj "tuple" us.toArray 0)).objs.size=h0.objs.size+1:=by
  rw[size_push',K7]
 have nD:∀b o,s.heap.get? b=some o->b≠D:=λb o e=>GD (GI (G5 e) hDs);have keep:∀b o,s.heap.get? b=some o->(((h0.update D (Obj.mapSeq λ_=>(#[]:Array Value))).push (seqObj "tuple" us.toArray 0)).push (seqObj "list" #[] 0)).get? b=some o:=λb o e =>
  Gk _ (Gk _ ((s1.2 b (nD b o e)).trans (k0 b o e)))
 have hle:s.heap.objs.size<=h0.objs.size+1:=Gw hDs (Nat.le_succ_of_le (Iw hsz0));have hkD:h0.objs.size+1≠D:=HN (IQ hsz0);have hkS:H (h0.objs.size+1)=none:=I.aX.fresh hle;have hD:H D=none:=I.aX.fresh hDs;have hnp:∀p∈X.pn++pins,p.1≠D:=λp hp=>nD _ _ (I.pin p hp).1;have J0:Inv X pins σ (upd H (h0.objs.size+1) (.lst [])) {s with heap:=((h0.update D (Obj.mapSeq λ_=>(#[]:Array Value))).push (seqObj "tuple" us.toArray 0)).push (seqObj "list" #[] 0)}:=
  I.laid (t':=s.toks) keep hle ⟨GF _,[],0,.nil,by rw[<- hkz];exact G0 _ rfl⟩
 have J:Inv X ((D,seqObj "list" #[] e1)::pins) σ (upd H (h0.objs.size+1) (.lst [])) {s with heap:=((h0.update D (Obj.mapSeq λ_=>(#[]:Array Value))).push (seqObj "tuple" us.toArray 0)).push (seqObj "list" #[] 0)}:=by
  refine J0.lL λp hp=>?_;rcases Gv.mp hp with rfl|hp
  ·exact⟨Gk _ (Gk _ ho1),by rw[ae (Hy hkD)];exact hD,λz=>absurd I.lt (by rw[<- z];exact Kz.mpr hDs),I.E5 hDs,λv z=>by cases z⟩
  ·exact J0.pin p (GJ _ hp)
 unfold ksk_tree;refine Gj (JN ho rfl ?_);refine Gj (J5 ho rfl ?_ (by rw[G4,Hz];lia) (GF _))
 refine Gj (seqEpoch_at ho1 rfl ?_);refine Gj (Lj ?_ (by show us.length<=_;rw[Hz];lia))
 refine Gj (Je ?_ (GF _));refine He ?_;show wpAny _ _ (ksk_rest D f false us.toArray e1 (.ref ((h0.update D (Obj.mapSeq λ_=>(#[]:Array Value))).push (seqObj "tuple" us.toArray 0)).objs.size)) _ _ _;rw[hkz];exact xR J hkS hD hkD (Gw I.sz hDs) hnp hv hlen h64 turn λs' K=>h _ s' (.more .refl hkS) (by rw[ae (Hy hkD)];exact hD) K
end
noncomputable def yf(q:Str)(params:Arguments)(body:Expr)(scope:Scope)(cl:List (Str×Addr)):TE:=λ_ H Q=>∀f c' pm ctv H1,dU H H1->i5 H1 f q params body scope cl c' pm ctv->Q (.ref f) H1
theorem CH{c P:Addr}(hx:x∈dJ)(ht:PySem.W.tabIn X.K x=some (c,P))(hcode:X.env.code=.ref c)(hq:X.env.qual=x++".<locals>."){pos:Pos}
  (hdef:defaultsOf params X.env=([],[])) (hcl:closureFor scope X.env=pure cl):PE X (.Lambda params body scope pos) (yf ((x++".<locals>.")++"<lambda>") params body scope cl):=λpins s σ H Q I h =>
 uk I hx ht hcode hq hdef hcl λf c' pm ctv H1 s1 g J l=>⟨.ref f,H1,J,rfl,h f c' pm ctv H1 g l⟩
section
variable {X:Cx} {pins:List (Addr×Obj)} {σ:St} {H:Hp} {s:Shared} {E:Value->Shared->Prop}
noncomputable def vq(X:Cx)(A:Around)(s:Shared)(l:Addr)(xs:List V):Prop:=∀(Q:List Value->Shared->Prop) (E:Value->Shared->Prop),(∀h0 tk us,(∀b o,s.heap.get? b=some o->h0.get? b=some o)->s.heap.objs.size<=h0.objs.size->Vals xs us->Q us {s with heap:=h0,toks:=tk})->wpAny (model X.prog X.w) A (collect (.ref l)) Q E s
theorem si{A:Around}{l:Addr}{Q:VK}(I:Inv X pins σ H s)(hcol:vq X A.in1 s l xs)(hlen:kz.length=xs.length)(h64:xs.length<64)
  (turn:∀(i:Nat) (v:V) (u:Value) (k:Int),xs[i]?=some v->RelV v u->kz[i]?=some k->∀pins' H' s',dU H H'->Inv X pins' σ H' s'->wpAny (model X.prog X.w) A.in1.in1 (call (.ref f) [u]) (λr s2=>(∃t,r=.int k t)/\Inv X pins' σ H' s2) (λ_ _=>False) s')
  (h:∀H' D,dU H H'->H' D=none->Q (.ref D) (upd H' D (.lst (iK kz xs)))) :
  wpAny (model X.prog X.w) A (call (.builtin "sorted") [.ref l] [(Str.ofString "key",.ref f)]) (EP X pins σ Q) E s:=by
 refine call_function_entry_kw kind_sorted plain_sorted entry_sorted (ksk_s1 _ _) ?_;unfold Builtin.«sorted»;refine Gj (m:=checkCount "sorted" 1 1 _) (Gu (Gj (hcol _ _ λh0 tk us k0 hz hv=>?_)));have ul:us.length=xs.length:=hv.length.symm;refine Gj (Je ?_ (by rw[ul,Hz];lia))
 have hoL:(h0.push (seqObj "list" us.toArray 0)).get? h0.objs.size=some (seqObj "list" us.toArray 0):=G0 _ rfl;refine Gj (He (wpAny_call_entry_kw slot_list_sort ⟨_,hoL,rfl⟩ entry_list_sort ?srt (ksk_l1 _ _)))
 case srt =>
  show wpAny _ A.in1.in1 (Builtin.«list.sort» ⟨[.ref h0.objs.size],[(Str.ofString "key",.ref f)]⟩) _ _ _;rw[ksk_t1];refine zq (s:={s with toks:=tk}) (h0:=h0.push (seqObj "list" us.toArray 0)) (I.tok tk) (λb o e=>Gk _ (k0 b o e)) hz hoL hv (by rw[ul];exact hlen) (by rw[ul];exact h64)
   (λi u k hu hk pins' H' s' g J=>?_) λH' s' g n J=>⟨_,rfl,?_⟩
  ·have hi:i<xs.length:=by rw[<- ul];exact (Gq.mp hu).1
   obtain⟨u',hu',rv⟩:=hv.get (Gm hi);rw[hu] at hu';cases hu';exact turn i _ u k (Gm hi) rv hk pins' H' s' g J
  ·exact Gu ⟨_,rfl,.ref h0.objs.size,_,J,rfl,h H' _ g n⟩
noncomputable def uZ(src:Hp->Addr->List V->Prop)(pre:V->Int->Hp->St->Prop)(fr:St->St)(t:TA):TE:=λσ H Q=>t σ H λvs H1=>∃l xs kz,vs=[.ref l]/\src H1 l xs/\kz.length=xs.length/\xs.length<64 /\
 (∀(i:Nat) (v:V) (k:Int),xs[i]?=some v->kz[i]?=some k->∀H',dU H1 H'->pre v k H' (fr σ))/\∀H2 D,dU H1 H2->H2 D=none->Q (.ref D) (upd H2 D (.lst (iK kz xs)))
theorem uu{t:TA}{p pos kpos lpos:Pos}{k:Nat}{src:Hp->Addr->List V->Prop}{pre:V->Int->Hp->St->Prop}{fr:St->St}
  (hg:Gl X "sorted") (hm:X.mg "sorted"=none) (ha:PA X [e] t) (h1:fz e=true) (hr:bE (k+3) X.A) (hL:PE X (.Lambda params body scope lpos) (yf q params body scope cl))
  (hsrc:∀pins σ H s H1 l xs A,Inv X pins σ H s->src H1 l xs->dU H1 H->A.handled=none->xs.length<64->vq X A s l xs)
  (hk:scope.kind=.function) (hco:scope.isCoroutine=false) (hgen:scope.isGenerator=false) (hcell:∀y∈scope.names,y.2≠.cell) (hloc:scope.names.lookup x=some .local)
  (hbind:∀c' pm ctv u,bindArgs (PySem.W.kla_fn "<lambda>" q params body scope cl pm (.ref c') ctv) ⟨[u],[]⟩=pure [(x,u)])
  (hlen:∀σ:St,(fr σ).length=N.length) (hcl:∀y c,cl.lookup y=some c->X.env.cells.lookup y=some c) (hhas:∀y,(scope.names.lookup y=some .cell\/scope.names.lookup y=some .free)->∃c,cl.lookup y=some c)
  (hf:∀pins σ H s,Inv X pins σ H s->∀(i:Nat) (y:Str) (v:V),N[i]?=some y->(fr σ)[i]?=some (some v)->scope.names.lookup y=some .free/\∃c u,cl.lookup y=some c/\s.heap.IsCell c (some u)/\RelV v u)
  (hbody:∀A f c' s' H' σf v i,pre v i H' σf->∃t,PE (qE X A (x::N) q scope f (.ref c') cl s' H') body t/\t (some v::σf) H' (λw H2=>w=.int i/\H2=H')) :
  PE X (.Call (.Name "sorted" p) [e] [⟨some "key",.Lambda params body scope lpos,kpos⟩] pos) (uZ src pre fr t):=by
 intro pins s σ H Q I h;refine Il (eZ I hg hm (u:=.builtin "sorted") (by decide +kernel) ?_ (by decide) (by decide))
 have hkw:PK X [⟨some "key",.Lambda params body scope lpos,kpos⟩] (i8 (yf q params body scope cl) iI):=zc hL AU;refine callWith_kw ?_ (by rw[cS h1];rfl) (by rw[cS h1];rfl) rfl rfl
 refine bL (ha pos pins s σ H _ I h) λus s1 hq1=>?_;obtain⟨vs,H1,I1,r1,q1⟩:=hq1;obtain⟨l,xs,kz,rfl,hs,hle,h64,hpre,qq⟩:=q1;obtain⟨u,rfl,ru⟩:=vals1 r1;cases ru;refine bL (hkw pos pins s1 σ H1 (λzs H2=>∃f c' pm ctv,zs=[.ref f]/\dU H1 H2/\i5 H2 f ((q)) params body scope cl c' pm ctv) I1 λf c' pm ctv H2 g lm=>⟨f,c',pm,ctv,rfl,g,lm⟩) λws s2 hq2=>?_;obtain⟨zs,H2,I2,rz,f,c',pm,ctv,e1,g,lm⟩:=hq2;subst e1;obtain⟨wv,rfl,rw1⟩:=vals1 rz;cases rw1;have hr1:bE (k+2) X.A.in1:=hr.in1;refine si I2 (hsrc _ _ _ _ _ _ _ _ I2 hs g hr1.hd h64) hle h64 (λi v u j hv rv hj pins' H' s' g' J=>?_) λH' D g' n=>qq H' D (g.trans g') n;obtain⟨ho,gz⟩:=(lm.up λb o u e=>g'.same b _ e).get J;obtain⟨tb,hb,hq⟩:=hbody X.A.in1.in1 f c' s' H' (fr σ) v j (hpre i v j hv hj H' (g.trans g'));refine Hn (vC J hr1.in1 J.ok.frames hk hco hgen hcell rv hloc ho gz (hbind c' pm ctv) (hlen σ) hcl hhas (hf _ _ _ _ J) hb hq) (λr s4 hr4=>?_) λ_ _ z=>z;obtain⟨w,H4,J4,rw4,e4,e5⟩:=hr4;subst e4 e5;exact⟨rw4,J4⟩
end
theorem lW{a:α}{l:List (Str×α)}:List.lookup x ((x,a)::l)=some a:=by rw[Hi,J8]
theorem iR{y:Str}{a:α}{l:List (Str×α)}(h:y≠x):List.lookup y ((x,a)::l)=List.lookup y l:=by rw[Hi,G_.mpr h]
abbrev j5(n:Nat):List V:=(List.range n).map λk=>V.int ((k:Nat):Int)
section
variable {X:Cx} {pins:List (Addr×Obj)} {σ:St} {H:Hp} {s:Shared}
theorem mF{A:Around}{r:Addr}{n:Nat}(hh:A.handled=none)(I:Inv X pins σ H s)(hr:H r=some (.mN 0 n))(h64:n<64):vq X A s r (j5 n):=λQ E h=>by
 obtain⟨t,u,v,e⟩:=I.aX r _ hr;have hn2:Builtin.Range.rangeSize 0 (n:Int) 1=n:=by rw[rangeSize_one];split<;>lia
 have hsm:Builtin.Range.small 0 (n:Int) 1=true:=small_one (by lia) (by lia) (by lia) (by lia)
 have oS:(s.heap.push {cls:=.type "list",data:=.seq ([]:List Value).toArray}).get? s.heap.objs.size=some {cls:=.type "list",data:=.seq #[] 0}:=G0 _ rfl;unfold collect;refine Gj (wpAny_runValue (IL PySem.F.entry_proto_collect ?_));rw[IY PySem.F.plain_proto_collect _];refine Gj (m:=newList []) (HJ (Gu ⟨Lp PySem.F.plain_list_iadd _,IL PySem.F.entry_list_iadd ?_⟩));rw[IY PySem.F.plain_list_iadd _];show wpAny _ A.in1 (Builtin.List.listExtendWith _ _ _) _ _ _;refine wpAny_extend_range (R:=λr s'=>match r with|.ok (.ret v)=>wpAny (model X.prog X.w) A (match v with|.ref a=>do (match (<- load a).data with|.seq xs _=>pure xs.toList|_=>unsupported "internal:collect")|_=>unsupported "internal:collect") Q E s'|.ok _=>_|.error e=>E e s') (s:={s with heap:=s.heap.push {cls:=.type "list",data:=.seq ([]:List Value).toArray}}) hh (Gk _ e) hsm hn2 (by lia) s.heap.objs.size (.ref s.heap.objs.size) 0 oS λh' tk acc c' hk hS hI=>?_
 refine Gj (m:=load s.heap.objs.size) (wpAny_load hS (Gu (h h' tk acc.toList (λb o e=>hk b o (GD (G5 e)) (Gk _ e)) (Iw (G5 hS)) ?_)));have hv:=Y.gn (lo:=0) n acc.toList 0 (by simpa using hI.1) λj v e=>by
  obtain⟨t,e2⟩:=hI.2 j v (by simpa using e)
  exact⟨t,by rw[e2];simp⟩
 show Vals ((List.range n).map λk=>V.int ((k:Nat):Int)) acc.toList;rw[Ja]
 simpa using hv
end
theorem b8.same{H':Hp}{a:Addr}(g:u_ H H')(h:b8 K H a xs):b8 K H' a xs:=by
 rcases h with (h|⟨o,h⟩)|h
 ·exact .inl (.inl (g _ _ h))
 ·exact .inl (.inr ⟨o,g _ _ h⟩)
 ·exact .inr h
noncomputable def FU(j:Nat)(σ:St):St:=[(σ[j]?).getD none]
noncomputable def iZ(K:LA)(j:Nat)(t:TA):TE:=uZ (λH l xs=>∃n:Nat,H l=some (.mN 0 n)/\xs=j5 n) (λv k H' σf=>∃i q ls,v=.int i/\σf=[some (.ref q)]/\b8 K H' q ls/\bX ls i=some (.int k)) (FU j) t
theorem wy{t:TA}{p pos kpos lpos p1 p2 p3:Pos}{y:Str}{c:Addr}{j:Nat}{k:Nat}(hg:Gl X "sorted")(hm:X.mg "sorted"=none)(ha:PA X [e] t)(h1:fz e=true)(hr:bE (k+3) X.A)
  (hL:PE X (.Lambda params (.Subscript (.Name y p1) (.Name x p2) p3) scope lpos) (yf q params (.Subscript (.Name y p1) (.Name x p2) p3) scope [(y,c)]))
  (hsc:scope={kind:=.function,names:=[(x,.local),(y,.free)],isGenerator:=false,isCoroutine:=false,more:=[]}) (hxy:y≠x) (hx1:(x ==("__debug__":Str))=false) (hx2:(x ==("__classdict__":Str))=false) (hy1:(y ==("__debug__":Str))=false) (hy2:(y ==("__classdict__":Str))=false)
  (hj:X.N[j]?=some y) (hyc:X.env.scope.names.lookup y=some .cell) (hyl:X.env.cells.lookup y=some c)
  (hbind:∀c' pm ctv u,bindArgs (PySem.W.kla_fn "<lambda>" q params (.Subscript (.Name y p1) (.Name x p2) p3) scope [(y,c)] pm (.ref c') ctv) ⟨[u],[]⟩=pure [(x,u)]) :
  PE X (.Call (.Name "sorted" p) [e] [⟨some "key",.Lambda params (.Subscript (.Name y p1) (.Name x p2) p3) scope lpos,kpos⟩] pos) (iZ X.K j t):=by
 subst hsc;have lx:List.lookup x [(x,NameKind.local),(y,NameKind.free)]=some .local:=lW;have ly:List.lookup y [(x,NameKind.local),(y,NameKind.free)]=some .free:=by rw[iR hxy,lW]
 have lz:∀z,z≠x->z≠y->List.lookup z [(x,NameKind.local),(y,NameKind.free)]=none:=λz h1 h2=>by rw[iR h1,iR h2];rfl
 have lc:List.lookup y [(y,c)]=some c:=lW;have lcz:∀z d,List.lookup z [(y,c)]=some d->z=y/\d=c:=λz d e=>by
  by_cases h:z=y
  ·rw[h,lc] at e;cases e;exact⟨h,rfl⟩
  ·rw[iR h] at e;cases e
 refine uu (N:=[y]) hg hm ha h1 hr hL (λpins σ H s H1 l xs A I hs g hh h64=>?_) rfl rfl rfl (λz hz=>?_) lx hbind (λ_=>rfl) (λz d e=>?_) (λz hz=>?_) (λpins σ H s I i z v e1 e2=>?_) λA f c' s' H' σf v i hp=>?_
 ·obtain⟨n,hs,rfl⟩:=hs;rw[Gx,Hc] at h64;exact mF hh I (g.same _ _ hs) h64
 ·rcases Gv.mp hz with rfl|hz
  ·nofun
  ·rw[G6.mp hz];nofun
 ·obtain⟨rfl,rfl⟩:=lcz z d e;exact hyl
 ·by_cases z1:z=x
  ·have hz':List.lookup z [(x,NameKind.local),(y,NameKind.free)]=some .cell\/List.lookup z [(x,NameKind.local),(y,NameKind.free)]=some .free:=hz;rw[z1,lx] at hz';rcases hz' with h|h<;>cases h
  ·by_cases z2:z=y
   ·rw[z2];exact⟨c,lc⟩
   ·have hz':List.lookup z [(x,NameKind.local),(y,NameKind.free)]=some .cell\/List.lookup z [(x,NameKind.local),(y,NameKind.free)]=some .free:=hz;rw[lz z z1 z2] at hz';rcases hz' with h|h<;>cases h
 ·cases i with
  |succ i=>cases e1
  |zero =>
   have e1':some y=some z:=e1;cases e1';have e2':some ((σ[j]?).getD none)=some (some v):=e2;have e3:σ[j]?=some (some v):=by
    cases hσ:σ[j]? with
    |none=>rw[hσ] at e2';cases e2'
    |some o=>rw[hσ] at e2';exact e2'
   obtain⟨m,_,hl⟩:=I.loc;obtain⟨u,rv,lk⟩:=hl j y v hj e3 (.inr (.inl hyc));refine⟨ly,c,u,lc,?_,rv⟩;rcases lk with ⟨z,_⟩|⟨_,d,z1,z2⟩
   ·have z':X.env.scope.names.lookup y=some .local:=z;rw[hyc] at z';cases z'
   ·rw[hyl] at z1;cases z1;exact z2
 ·obtain⟨ix,a,ls,rfl,rfl,hq,ha'⟩:=hp;refine⟨_,Aw qd (pv 1 rfl (.inr (.inr ly)) hy1 hy2) (pv 0 rfl (.inl lx) hx1 hx2) (Z.FV rfl),?_⟩;exact⟨_,rfl,_,rfl,a,ls,ix,.int i,rfl,rfl,hq,ha',rfl,rfl⟩
theorem y_{β:Type}{g:α->β}{ks:List Int}{l:List α}:iK ks (l.map g)=(iK ks l).map g:=by
 have p:∀l:List α,Paired (λa b=>b=g a) l (l.map g):=λl=>by
  induction l with
  |nil=>exact .nil
  |cons a l ih=>exact .cons rfl ih
 have q:∀{l:List α} {m:List β},Paired (λa b=>b=g a) l m->m=l.map g:=λ{l m} h=>by
  induction h with
  |nil=>rfl
  |cons r _ ih=>rw[r,ih];rfl
 exact q (rg (p l))
structure qN (K:LA) (mg:Str->Option Value) (x:Str):Prop where
 ex:∃c P,PySem.W.tabIn K x=some (c,P)/\∀f cdv,Br K mg x f cdv->cdv=.ref c
theorem mU{c P:Addr}{oc oc':Value}{od od':Option Addr}{sl sl':Array (Option Value)}{fd:FuncData}{vs:Array Value}(a:PySem.W.nsIn K mainGlobals x=some (some (.ref f)))(l:K.lookup f=some ⟨oc,od,.func fd,sl⟩)(hc:fd.code=.ref c)
  (lc:K.lookup c=some ⟨oc',od',.fields vs,sl'⟩) (hv:vs[11]?=some (.ref P)):PySem.W.tabIn K x=some (c,P):=by
 unfold PySem.W.tabIn;rw[a];dsimp only;rw[l];dsimp only;rw[hc];dsimp only;rw[lc];dsimp only;rw[hv]
theorem jr(a:PySem.W.nsIn K mainGlobals x=some none):PySem.W.tabIn K x=none:=by
 unfold PySem.W.tabIn;rw[a]
theorem qN.mk'{mg:Str->Option Value}{c P:Addr}(X:K.In h)(G:h.Ns mainGlobals mg)(ht:PySem.W.tabIn K x=some (c,P)):qN K mg x:=
 ⟨c,P,ht,λf cdv ⟨m,o,fd,lk,hd,e⟩=>by rw[<- e];exact PySem.W.law_code X G ht m (X _ _ lk) hd⟩
theorem gX.of{q:Program}{o1 o2 o3:Option (Addr×Addr)}(nt:PySem.W.noTabs K=true)(t1:PySem.W.tabIn K "by_worth"=o1)(t2:PySem.W.tabIn K "by_weight"=o2)(t3:PySem.W.tabIn K "code_of"=o3)(nd:((o1.toList++(o2.toList++o3.toList)).map (·.2)).Nodup)
  (f1:o1=none\/((recsOf q).find? (λe=>e.name ==("by_worth":Str))).isSome=true) (f2:o2=none\/((recsOf q).find? (λe=>e.name ==("by_weight":Str))).isSome=true) (f3:o3=none\/((recsOf q).find? (λe=>e.name ==("code_of":Str))).isSome=true):gX q K:=by
 refine⟨nt,?_,λx hx=>?_⟩
 ·have e:(bV K).map (·.2.1)=(o1.toList++(o2.toList++o3.toList)).map (·.2):=by
   unfold bV dJ
   cases o1<;>cases o2<;>cases o3<;>simp[List.filterMap,t1,t2,t3]
  rw[e];exact nd
 ·unfold dJ at hx;rcases Gv.mp hx with rfl|hx
  ·rw[t1];exact f1
  ·rcases Gv.mp hx with rfl|hx
   ·rw[t2];exact f2
   ·rw[G6.mp hx,t3];exact f3
namespace Y
noncomputable def zr:V->List V->Hp->VK->Prop:=λx vs H Q=>∃z y,x=.str z/\vs=[.str y]/\z.length<=sizeLine/\Q (.str (Txt.rstripChars z y)) H
theorem kl:rQ X "str.rstrip" zr:=by
 intro pins s σ H x xs v us Q I rx rs h;obtain⟨z,y,rfl,rfl,hz,q⟩:=h;obtain⟨t,rfl⟩:=rx;obtain⟨u,rfl,k,rfl⟩:=vals1 rs;exact SC.rstripChars (λt' k=>⟨.str _,H,I.tok _,⟨_,rfl⟩,q⟩) hz
noncomputable def BV:V->List V->Hp->VK->Prop:=λx vs H Q=>∃z i y,x=.str z/\vs=[.int i,.str y]/\0<=i/\i<1000/\y.length=1/\Q (.str (Txt.ljustF z i (y.cps.getD 0 0))) H
theorem mK:rQ X "str.ljust" BV:=by
 intro pins s σ H x xs v us Q I rx rs h;obtain⟨z,i,y,rfl,rfl,h0,h1,hy,q⟩:=h;obtain⟨t,rfl⟩:=rx;obtain⟨u1,u2,rfl,⟨t1,rfl⟩,⟨t2,rfl⟩⟩:=vals2 rs;exact ljust_fill (padOk_of (by lia) (by lia)) hy λt' k=>⟨.str _,H,I.tok _,⟨_,rfl⟩,q⟩
end Y
theorem nH(x y:Str):(Txt.rstripChars x y).cps.toList.reverse=x.cps.toList.reverse.dropWhile y.cps.contains:=by
 have key:∀(p:Nat->Bool) (l:List Nat),(l.take (l.length-(l.reverse.takeWhile p).length)).reverse=l.reverse.dropWhile p:=λp l=>by
  have h:(l.reverse.takeWhile p).length<=l.length:=by simpa using (List.takeWhile_sublist p (l:=l.reverse)).length_le
  rw[List.reverse_take,<- qO];congr 1;lia
 have hl:x.length=x.cps.toList.length:=by rw[Ha];rfl
 rw[<- key];unfold Txt.rstripChars Txt.stripBy;split
 ·rename_i h;unfold stripSame at h;rw[Hv] at h;have h2:x.length-(x.cps.toList.reverse.takeWhile y.cps.contains).length=x.length:=by simpa[stripLo,stripHi] using h.2
  rw[<- hl,h2,hl,Iz]
 ·have e:∀(a:Array Nat) (j:Nat),(a.extract 0 j).toList=a.toList.take j:=λa j=>by simp
  have e2:=e x.cps (x.length-(x.cps.toList.reverse.takeWhile y.cps.contains).length);rw[hl] at e2;exact Hm List.reverse e2
namespace Y
noncomputable def Eo:R2:=λx y H Q=>∃(c:Nat) (k:Int),x=.str ⟨#[c]⟩/\y=.int k/\0<=k/\k<=1000/\Q (.str ⟨(List.replicate k.toNat c).toArray⟩) H
theorem rJ:dz X (binaryOp .Mult) Eo:=by
 intro pins s σ H x y v u Q I rx ry h;obtain⟨c,k,rfl,rfl,h0,h1,q⟩:=h;obtain⟨t,rfl⟩:=rx;obtain⟨t2,rfl⟩:=ry;have e:Txt.mul ⟨#[c]⟩ k=⟨(List.replicate k.toNat c).toArray⟩:=by
  have:=mul_one_list c k
  cases hz:Txt.mul ⟨#[c]⟩ k with
  |mk a=>rw[hz] at this;rw[<- this,Jb]
 have ok:MulOk ⟨#[c]⟩ k:=by
  refine⟨by simp only[Bool.or_eq_false_iff,decide_eq_false_iff_not];lia,λz _=>?_,λz _=>?_⟩
  ·have hl:((⟨#[c]⟩:Str).length:Int)=1:=rfl;rw[hl];have:1<=(2^63-1) / k:=by
    rw[Ld (by lia)];lia
   lia
  ·have hl:(⟨#[c]⟩:Str).length=1:=rfl;rw[hl,Nat.one_mul];exact GH (Kz.mpr (Gw (show k.toNat<=1000 by lia) (by decide)))
 exact SB.mul ok λt' j=>⟨.str _,H,I.tok _,⟨t',by rw[e]⟩,q⟩
noncomputable def Es:V->List V->Hp->VK->Prop:=λx vs H Q=>∃a:Int,x=.int a/\vs=[]/\Q (.int (Builtin.Int.intBits a:Nat)) H
theorem x_:rQ X "int.bit_length" Es:=by
 intro pins s σ H x xs v us Q I rx rs h;obtain⟨a,rfl,rfl,q⟩:=h;obtain⟨t,rfl⟩:=rx;obtain rfl:=Paired.yl rs;exact call_int_bit_length ⟨.int _,H,I.tok _,⟨_,rfl⟩,q⟩
noncomputable def FI(K:LA):R2:=λx y H Q=>∃a b xs,x=.ref a/\y=.ref b/\bZ K H a xs/\bZ K H b []/\Q (.bl xs.isEmpty) H
theorem B9(K:LA)(hK:X.K=K)(hu:X.A.units<cLine):dz X (compareOp .Eq) (FI K):=by
 subst hK;intro pins s σ H x y v u Q I rx ry h;obtain⟨a,b,xs,rfl,rfl,ha,hb,q⟩:=h
 cases rx;cases ry
 obtain⟨its,r1,p1,_⟩:=I.list ha;obtain⟨its2,r2,p2,_⟩:=I.list hb;obtain rfl:=Paired.yl r2
 cases r1 with
 |nil=>exact SeqAt.eq_listAt (e:=λ_=>true) p1.isList p2.isList rfl hu (λj h1=>absurd h1 (JQ _)) ⟨.bl true,H,I,rfl,q⟩
 |cons h r=>exact SeqAt.eq_list_lengthsAt p1.isList p2.isList (by simp) hu ⟨.bl false,H,I,rfl,q⟩
end Y
noncomputable def hX(h:Heap)(d:Addr)(es:Array DictEntry)(ep:Nat):Prop:=∃o,h.get? d=some o/\o.ExactDict/\o.data=.dict es ep
section
variable {prog:Program} {w:World} {A:Around} {E:Value->Shared->Prop} {s:Shared}
theorem hX.ty(x:hX s.heap d es ep):s.TypeIs (.ref d) "dict":=let ⟨o,ho,hc,_⟩:=x;⟨o,ho,hc.1⟩
theorem hX.keep(x:hX h d es ep)(k:∀o,h.get? d=some o->h'.get? d=some o):hX h' d es ep:=let ⟨o,ho,r⟩:=x;⟨o,k _ ho,r⟩
theorem hX.lt(x:hX h d es ep):d<h.objs.size:=let ⟨_,ho,_⟩:=x;G5 ho
theorem zl(low:(d == sysModules)=false)(x:hX s.heap d es ep)
  (q:Q (.ref s.heap.objs.size) {s with heap:=s.heap.push {cls:=.type "dict_keyiterator",data:=.fields #[.ref d,.int 0 0,.int es.size 0,.int ep 0]}}):wpAny (model prog w) A (pyIter (.ref d)) Q E s:=by
 obtain⟨o,ho,hx,hdat⟩:=id x;refine wpAny_pyIter_slot x.ty PySem.F.slot_dict_iter (Hw PySem.F.slot_dict_iter x.ty PySem.F.entry_dict_iter ?_ (PySem.F.args_dict_iter_1 _));unfold Builtin.«dict.__iter__» Builtin.Dict.dictSlotNone;refine Gj (Gj (wpAny_notOrdered_dict x.ty ?_));show wpAny _ _ (pure (Value.ref d)) _ _ s;refine Gu ?_;show wpAny _ _ (Builtin.Dict.showsAll d >>= _) _ _ s;unfold Builtin.Dict.showsAll;rw[low,Gn Gz];refine Gj (Gu (Gj (Jq ho hdat (Gj (KW ho hdat ?_)))));exact Gj (HJ (Gu ⟨_,rfl,"dict_keyiterator",_,⟨_,G0 _ rfl,rfl⟩,PySem.F.slot_dict_keyiterator_next.lookup,q⟩))
theorem zf{it:Addr}{Q:Option Value->Shared->Prop}(hit:s.heap.IsKeyIter it d i es.size ep)(x:hX s.heap d es ep)(hi:i<es.size)
  (q:∀h',h'.IsKeyIter it d (i+1) es.size ep->Heap.SameBut it s.heap h'->Q (some es[i].key) {s with heap:=h'}):wpAny (model prog w) A (pyNext (.ref it)) Q E s:=by
 obtain⟨o,ho,hc,hd⟩:=id hit;obtain⟨od,hod,hx,hdd⟩:=id x;unfold pyNext;refine Gj (Jz (Hu (name:=Str.ofString "__next__") hit.typeIs PySem.F.slot_dict_keyiterator_next (Hw PySem.F.slot_dict_keyiterator_next hit.typeIs PySem.F.entry_dict_keyiterator_next ?_ (PySem.F.args_dict_keyiterator_next_1 _))));refine Gj (Gu (Gj (Gj ?_)))
 first|refine Gj (Ig hit.typeIs (Gu (Gj (Kc ho hd ?_))))|refine Gj (IC hit.typeIs (Gu (Gj (Kc ho hd ?_))))
 simp only[show Builtin.Dict_items.ownsTuple "dict_keyiterator"=false by decide,HE,Ih]
 show wpAny _ _ (if (Value.ref d == Value.none)=true then _ else _) _ _ s;rw[Gn (show ¬ ((Value.ref d == Value.none)=true) from Gz)]
 refine Gj (Gu (Gj (Jq hod hdd ?_)));rw[Gn (by simp)]
 refine Gj (Gu (Gj (KW hod hdd ?_)));rw[Gn (by simp)]
 refine Gu ?_;simp only[show ¬ ((i:Int)<0) by lia,Ih,Hb,K0 hi]
 refine Gj ?_
 first|refine Gj (Ig hit.typeIs (Gu (Gj (JG hit.typeIs ?_))))|refine Gj (IC hit.typeIs (Gu (Gj (JG hit.typeIs ?_))))
 show wpAny _ _ (setField (.ref it) 1 (rawInt ((i:Int)+1)) >>= _) _ _ s;refine Gj (Kb ho hd (by simp) ?_)
 have h2:(s.heap.update it (Obj.mapFields (·.setIfInBounds 1 (rawInt ((i:Int)+1))))).IsKeyIter it d (i+1) es.size ep:=⟨_,JD _ ho (Obj.isFreed_of_fields (Jm hd _)),(Obj.cls_mapFields ..).trans hc,by rw[Jm hd];simp[rawInt]⟩
 refine Gj (He (Gj (JG (s:={s with heap:=s.heap.update it (Obj.mapFields (·.setIfInBounds 1 (rawInt ((i:Int)+1))))}) h2.typeIs ?_)))
 show wpAny _ _ (pure es[i].key) _ _ _;exact Gu (Gu ⟨_,rfl,Gu (q _ h2 (HM ..))⟩)
theorem y9{it:Addr}{Q:Option Value->Shared->Prop}(hh:A.handled=none)(hit:s.heap.IsKeyIter it d es.size es.size ep)(x:hX s.heap d es ep)
  (q:∀h',Heap.ExtBut it s.heap h'->Q none {s with heap:=h'}):wpAny (model prog w) A (pyNext (.ref it)) Q E s:=by
 obtain⟨o,ho,hc,hd⟩:=id hit;obtain⟨od,hod,hx,hdd⟩:=id x;unfold pyNext;refine Gj (Jz (Hu (name:=Str.ofString "__next__") hit.typeIs PySem.F.slot_dict_keyiterator_next (Hw PySem.F.slot_dict_keyiterator_next hit.typeIs PySem.F.entry_dict_keyiterator_next ?_ (PySem.F.args_dict_keyiterator_next_1 _))));refine Gj (Gu (Gj (Gj ?_)))
 first|refine Gj (Ig hit.typeIs (Gu (Gj (Kc ho hd ?_))))|refine Gj (IC hit.typeIs (Gu (Gj (Kc ho hd ?_))))
 simp only[show Builtin.Dict_items.ownsTuple "dict_keyiterator"=false by decide,HE,Ih]
 show wpAny _ _ (if (Value.ref d == Value.none)=true then _ else _) _ _ s;rw[Gn (show ¬ ((Value.ref d == Value.none)=true) from Gz)]
 refine Gj (Gu (Gj (Jq hod hdd ?_)));rw[Gn (by simp)]
 refine Gj (Gu (Gj (KW hod hdd ?_)));rw[Gn (by simp)]
 refine Gu ?_;simp only[show ¬ ((es.size:Int)<0) by lia,Ih,Hb,Le (Gs es.size)]
 refine Gj ?_
 first|refine Gj (Ig hit.typeIs (Gu ?_))|refine Gj (IC hit.typeIs (Gu ?_))
 show wpAny _ _ (setField (.ref it) 0 .none >>= _) _ _ s;refine Gj (Kb ho hd (by simp) ?_)
 show wpAny _ _ (newExc (.type "StopIteration") [] >>= _) _ _ _;refine Gj ?_;simp only[newExc,newTuple];refine Gj (HJ ?_ (by size_fits))
 refine Gj (m:=firstArgMember _ _) (wpAny_of_eq (a:=Value.none) (by first|rfl | (simp only[firstArgMember];rfl)) (HJ ?_ (by size_fits)))
 simp only[raiseNew];refine Gj (wpAny_handled ?_);rw[show A.in1.handled=none from hh];refine Gj (Gu (wpAny_throw ?_));refine Gj (wpAny_isInstance (T:="StopIteration") (b:=true) ⟨_,G0 _ rfl,rfl⟩ isSubtype_stop ?_);exact Gu (q _ (((HM ..).extBut.push _).push _))
end
theorem vV{A:Around}(hh:A.handled=none)(I d:Addr)(ne:d≠I)(es:Array DictEntry)(ep:Nat):
  Walks prog w A I [I,d] [I] es.size (λi v=>∃h:i<es.size,v=es[i].key) (λi h=>h.IsKeyIter I d i es.size ep/\hX h d es ep) where
 sub:=λb hb=>by simp at hb;simp[hb]
 frame:=λ_ _ _ st hk=>⟨st.1.at λo e=>hk I (by simp) o e,st.2.keep λo e=>hk d (by simp) o e⟩
 item:=λi s Q E hi st hQ=>zf st.1 st.2 hi λh' a b=>hQ _ h' s.toks ⟨hi,rfl⟩ ⟨a,st.2.keep λo e=>b.extBut _ _ ne e⟩ λc o hc e=>b.extBut c o (λh=>hc (by simp[h])) e
 done:=λs Q E st hQ=>y9 hh st.1 st.2 λh' he=>hQ h' s.toks λc o hc e=>he c o (λh=>hc (by simp[h])) e
 self:=λ_ _ _ _ st hQ=>wpAny_pyIter_keyiter st.1 hQ
theorem Bz(low:(d == sysModules)=false):PySem.W.KdlSrc prog w "dict" d d es.size (λi v=>∃h:i<es.size,v=es[i].key) (λh=>hX h d es ep) where
 type:=λ_ x=>x.ty
 there:=λ_ x=>⟨x.lt,x.lt⟩
 keep:=λ_ _ x k=>x.keep λo e=>k d (.inl rfl) o e
 notList:=by decide
 notTuple:=by decide
 hint:=λ_ _ _ _ x q=>PySem.W.kdl_hint_dict x.ty q
 iter:=λ_ _ hh x=>⟨_,_,(λ_ _ q=>zl low x q),vV hh _ d (GD x.lt) es ep,⟨⟨_,G0 _ rfl,rfl,rfl⟩,x.keep λ_ e=>Gk _ e⟩⟩
theorem vY{es:List DictEntry}(h:KTD.Rows (wJ K) es D):es.length=D.length:=by
 induction h with
 |nil=>rfl
 |cons _ _ _ ih=>simp[ih]
theorem uG{es:List DictEntry}(h:KTD.Rows (wJ K) es D):Vals (D.map λp=>V.str p.1) (es.map λe=>e.key):=by
 induction h with
 |nil=>exact .nil
 |cons e _ _ ih=>exact .cons ⟨_,e⟩ ih
noncomputable def BE(K:LA)(D:List (Str×List Str)):List V->Hp->VK->Prop:=λxs H Q=>∃d,xs=[.ref d]/\jP K d D/\D.length<=sizeLine/\∀l,H l=none->Q (.ref l) (upd H l (.lst (D.map λp=>V.str p.1)))
theorem pQ(K:LA)(hK:X.K=K)(hc:X.calm=true):bC X (.type "list") (BE K D):=by
 intro pins s σ H xs us Q I r h;subst hK;obtain⟨d,rfl,hd,hz,q⟩:=h;obtain⟨u,rfl,rx⟩:=vals1 r;cases rx;obtain⟨o,es,ep,ho,hx,hdat,hr⟩:=hd.ex;have at0:hX s.heap d es ep:=⟨o,I.gO _ _ ho,hx,hdat⟩;have hl:es.size=D.length:=by rw[<- vY hr,Ha]
 refine PySem.W.kdl_call (Bz hd.low) (I.ok.hd hc) at0 (by rw[hl];exact hz) λh' tk acc c' hk hS hI=>?_
 have hv:Vals (D.map λp=>V.str p.1) acc.toList:=by
  have e:acc.toList=es.toList.map λe=>e.key:=by
   refine Iu λj=>?_;rw[GW,G8,GW]
   cases z:acc[j]? with
   |none =>
    have:acc.size<=j:=Array.getElem?_eq_none_iff.mp z;rw[Le (by rw[<- hI.1];exact this)];rfl
   |some v =>
    obtain⟨hj,rfl⟩:=hI.2 j v z;rw[K0 hj];rfl
  rw[e];exact uG hr
 refine⟨.ref s.heap.objs.size,_,I.laid (t':=tk) hk (Gs _) (show bp X.prog X.w _ h' _ (.lst _) from⟨?_,acc.toList,c',hv,by simpa using hS⟩),rfl,q _ (I.aX.fresh (Gs _))⟩
 rw[Gx];exact hz
theorem Z.zip{es:List Expr}{tk:Nat}{tp:Pos}{e1 e2:Expr}{ta:TA}{p pos:Pos}(K:LA)(hK:X.K=K)(hg:Gl X "zip")(hm:X.mg "zip"=none)(ha:QA X [e1,e2] ta)(h1:autoParam (fz e1=true) ℜ0)(h2:autoParam (fz e2=true) ℜ0):QI X (.Tuple es tk tp) (.Call (.Name "zip" p) [e1,e2] [] pos) (ny K ta):=by
 subst hK;exact⟨xW hg hm ha.h h1 h2⟩
theorem Ap.ny(K:LA)(ta:TA)(σ:St)(H:Hp)(R:It->Hp->Prop):L2.ny K ta σ H R=ta σ H λvs H1=>∃a b k1 k2,vs=[V.ref a,V.ref b]/\(∃xs,pC K k1 H1 a xs)/\(∃ys,pC K k2 H1 b ys)/\R (yM K k1 k2 a b) H1:=rfl
section
variable {K:LA} {g:TG} {tb:TS} {D:Ends} {σ:St} {H:Hp} {te:TE} {Q:VK}
theorem pS{a:Addr}(hn:xs.length<=sizeLine)(Pv:Addr->Nat->List V->Hp->Prop)(h0:∀D,H D=none->Pv D 0 [] (upd H D (.lst [])))(hD:∀D i ys H',Pv D i ys H'->H' D=some (.lst ys)/\ys.length=i)
  (hl:∀D i ys H',Pv D i ys H'->bZ K H' a xs)
  (hs:∀D i ys H' x (R:VK),xs[i]?=some x->Pv D i ys H'->(∀v H5,H5 D=some (.lst ys)->Pv D (i+1) (ys++[v]) (upd H5 D (.lst (ys++[v])))->R v H5)->te (some x::σ) H' R) (hd:∀D ys H',Pv D xs.length ys H'->Q (.ref D) H') :
  kr (vK K a) 1 (bq 0) gi te Q σ H:=by
 intro D hD0;refine⟨λi m ys σ' H'=>m=xs.length-i/\i<=xs.length/\Pv D i ys H'/\∃o,σ'=o::σ,⟨xs.length,by simp,GF _,h0 D hD0,none,rfl⟩,?_⟩
 rintro i m ys σ' H' ⟨rfl,hi,p,o,rfl⟩;obtain⟨hDi,hly⟩:=hD _ _ _ _ p;have q:=hl _ _ _ _ p;refine⟨hDi,?_⟩;by_cases hlt:i<xs.length
 ·refine .inr ⟨⟨xs,xs[i],q,by simp[hlt]⟩,by lia,λx H2 y=>?_⟩
  obtain⟨rfl,y⟩:=y;unfold bq gi;dsimp only;rw[if_pos rfl];exact hs D i ys H2 x _ (y xs q) p λv H5 q1 q2=>⟨q1,xs.length-(i+1),by lia,rfl,hlt,q2,_,rfl⟩
 ·have e:i=xs.length:=by lia
  subst e;exact .inl ⟨⟨xs,q,Gs _⟩,hd D ys H' p⟩
end
noncomputable def but(B:sI)(a:Addr):sI:=λb=>B b/\b≠a
section
variable {prog:Program} {w:World} {A:Around} {E:Value->Shared->Prop} {s:Shared}
structure C0 (prog:Program) (w:World) (s:Shared) (vs:List Value) (κ:SortKind) (kz:Nat->Int) (h:Heap):Prop where
 kind:∀(A:Around) (E:Value->Shared->Prop) (Q:SortKind->Shared->Prop),2<=vs.length->Q κ {s with heap:=h}->wpAny (model prog w) A (keyKind' vs.toArray) Q E {s with heap:=h}
 lt:∀(A:Around) (C:Bool->Shared->Prop) (i j:Nat),i<vs.length->j<vs.length->C (decide (kz i<kz j)) {s with heap:=h}->kas_ask prog w A κ vs i j C {s with heap:=h}
theorem uv{a:Addr}{vs:List Value}{n:Nat}{κ:SortKind}{kz:Nat->Int}{P:Fin->Shared->Prop}(ho:s.heap.get? a=some (seqObj "list" vs.toArray n))(h64:vs.length<64)
  (hq:∀h',(∀b o,b≠a->s.heap.get? b=some o->h'.get? b=some o)->C0 prog w s vs κ kz h')
  (h:∀p:Array Nat,p.toList.Perm (List.range vs.length)->p.toList.Pairwise (SP.R kz)->P (.done (.ret .none)) {s with heap:=sortedHeap s.heap a vs (List.toArray (p.toList.map λi=>vs.getD i Value.none))}) :
  wpAny (model prog w) A (Builtin.«list.sort» ⟨[.ref a],[]⟩) P E s:=by
 rw[list_sort_plain];have ha:a<s.heap.objs.size:=G5 ho;refine Gj (JN ho rfl (Gj (J5 ho rfl ?_)));obtain⟨e1,ho1⟩:∃e1,(s.heap.update a (Obj.mapSeq λ_=>#[])).get? a=some (seqObj "list" #[] e1):=⟨_,Jh ho (λ_=>#[])⟩;refine Gj (seqEpoch_at ho1 rfl (Gj (Lj (Gj (Je (He ?_))))));have up:∀b o,b≠a->s.heap.get? b=some o->(((s.heap.update a (Obj.mapSeq λ_=>#[])).push (seqObj "tuple" vs.toArray 0)).push (seqObj "list" #[] 0)).get? b=some o:=λb o hb e =>
  Gk _ (Gk _ ((Jt _ _ (Hy hb)).trans e))
 have ho6:(((s.heap.update a (Obj.mapSeq λ_=>#[])).push (seqObj "tuple" vs.toArray 0)).push (seqObj "list" #[] 0)).get? a=some (seqObj "list" #[] e1):=Gk _ (Gk _ ho1);show wpAny (model prog w) A _ P E {s with heap:=((s.heap.update a (Obj.mapSeq λ_=>#[])).push (seqObj "tuple" vs.toArray 0)).push (seqObj "list" #[] 0)}
 dsimp only;have hs:=hq _ up;have hsz:vs.toArray.size=vs.length:=by simp
 by_cases h2:vs.toArray.size<2
 ·rw[if_pos h2,if_pos h2];refine wpAny_bind (wpAny_pure ?_);rw[StateT.run_pure];refine wpAny_bind (wpAny_pure ?_);dsimp only;refine wpAny_bind (seqEpoch_at ho6 rfl (wpAny_bind (listUpdate_at ho6 rfl ?_ (hsz2:=by rw[Array.size_map];show (pairsOf vs).size<=_;rw[pairsOf_size,sizeLine_eq];lia))))
  simp only[Ks,HE,Ih];refine Gu ?_;have hid:=h (List.toArray (List.range vs.length)) (List.Perm.refl _) (by
   rcases vs with _|⟨x,_|⟨y,r⟩⟩
   ·exact .nil
   ·simp
   ·exfalso;rw[hsz] at h2;simp only[GC] at h2;lia)
  have e:(arrOf (SortSt.mk' general' (vs.toArray.zip vs.toArray) #[] 7 none)).map (·.2)=List.toArray ((List.toArray (List.range vs.length)).toList.map λi=>vs.getD i Value.none):=by
   show (vs.toArray.zip vs.toArray).map (·.2)=_;apply K8.mp;rw[Array.toList_map,Array.toList_zip];show (vs.zip vs).map (·.2)=(List.range vs.length).map λi=>vs.getD i Value.none;rw[KD (Gs _)];refine Iu λi=>?_;rw[G8];rcases Ho i vs.length with c|c
   ·rw[ID c,Gm c];simp[c]
   ·rw[GU.mpr c,GU.mpr (by rw[Hc];exact c)];rfl
  rw[e];exact hid
 ·rw[Gn h2,Gn h2];have h2':2<=vs.length:=by rw[hsz] at h2;lia
  refine Gj (hs.kind _ _ _ h2' ?_);refine Gj (Hn (kat_run (ks:=vs) (vs:=vs) (Q:=λst' s'=>s'={s with heap:=((s.heap.update a (Obj.mapSeq λ_=>#[])).push (seqObj "tuple" vs.toArray 0)).push (seqObj "list" #[] 0)}/\∃p:Array Nat,arrOf st'=p.map (kas_item (vs.toArray.zip vs.toArray))/\failedOf st'=none/\p.toList.Perm (List.range vs.length)/\p.toList.Pairwise (SP.R kz))
   (G:=λp s'=>s'={s with heap:=((s.heap.update a (Obj.mapSeq λ_=>#[])).push (seqObj "tuple" vs.toArray 0)).push (seqObj "list" #[] 0)}/\p.toList.Perm (List.range vs.length)/\p.toList.Pairwise (SP.R kz))
   rfl h2' h64 (λp st' s' a1 a2 a3 a4=>⟨a4.1,p,a2,a3,a4.2⟩) ?_) ?_ λ_ _ e=>e)
  ·refine SP.qz (k:=kz) (I:=λs'=>s'={s with heap:=((s.heap.update a (Obj.mapSeq λ_=>#[])).push (seqObj "tuple" vs.toArray 0)).push (seqObj "list" #[] 0)}) (λi j C s' hi hj hI hC=>?_) (by lia) rfl λp s' hp hr hI=>⟨hI,hp,hr⟩
   subst hI;exact hs.lt _ _ i j hi hj (hC _ rfl)
  rintro⟨⟨⟩,st'⟩ s' ⟨rfl,p,har,hf,hp,hr⟩;dsimp only;have esn:=kat_snds (ks:=vs) (vs:=vs) rfl har;have hl:(p.toList.map λi=>vs.getD i Value.none).length=vs.length:=by rw[List.length_map,hp.length_eq,List.length_range]
  refine Gj (seqEpoch_at ho6 rfl ?_);refine Gj (J5 ho6 rfl ?_ (hsz2:=by show ((arrOf st').map (·.2)).size<=_;rw[esn,G4,hl,Hz];lia))
  rw[hf];simp only[Ks,HE,Ih];rw[esn];exact Gu (h p hp hr)
theorem oW{l:Addr}{vs:List Value}{κ:SortKind}{kz:Nat->Int}(hl:s.heap.IsList l vs.toArray)(h64:vs.length<64)(hq:∀h',(∀b o,s.heap.get? b=some o->h'.get? b=some o)->C0 prog w s vs κ kz h')
  (h:∀p:Array Nat,p.toList.Perm (List.range vs.length)->p.toList.Pairwise (SP.R kz)->Q (.ref (s.heap.objs.size+1)) {s with heap:=sortedAll s.heap vs (List.toArray (p.toList.map λi=>vs.getD i Value.none))}) :
  wpAny (model prog w) A (call (.builtin "sorted") [.ref l]) Q E s:=by
 refine Kw kind_sorted plain_sorted entry_sorted (args_sorted1 _) ?_;unfold Builtin.«sorted»;refine Gj (m:=checkCount "sorted" 1 1 _) (Gu (Gj (collect_list hl (Gj (Je ?_)))));have hsz:((s.heap.push (seqObj "list" #[] 0)).update s.heap.objs.size (Obj.mapSeq (·++vs.toArray))).objs.size=s.heap.objs.size+1:=by rw[K7,size_push']
 have hoL:(((s.heap.push (seqObj "list" #[] 0)).update s.heap.objs.size (Obj.mapSeq (·++vs.toArray))).push (seqObj "list" vs.toArray 0)).get? (s.heap.objs.size+1)=some (seqObj "list" vs.toArray 0):=by rw[<- hsz];exact G0 _ rfl
 have keep:∀b o,s.heap.get? b=some o->(((s.heap.push (seqObj "list" #[] 0)).update s.heap.objs.size (Obj.mapSeq (·++vs.toArray))).push (seqObj "list" vs.toArray 0)).get? b=some o:=λb o q=>by
  have hlt:b<s.heap.objs.size:=G5 q;rw[Heap.get?_push_ne _ _ _ (by rw[hsz];exact GD (IQ hlt)),Heap.get?_update_ne _ _ _ _ (GD hlt),Heap.get?_push_ne _ _ _ (GD hlt)]
  exact q
 show wpAny _ _ _ _ _ {s with heap:=((s.heap.push (seqObj "list" #[] 0)).update s.heap.objs.size (Obj.mapSeq (·++vs.toArray))).push (seqObj "list" vs.toArray 0)}
 rw[hsz];refine Gj (He (Hw slot_list_sort ⟨_,hoL,rfl⟩ entry_list_sort (uv (kz:=kz) (κ:=κ) (s:={s with heap:=((s.heap.push (seqObj "list" #[] 0)).update s.heap.objs.size (Obj.mapSeq (·++vs.toArray))).push (seqObj "list" vs.toArray 0)}) hoL h64 (λh' hk=>?_) λp a1 a2=>⟨_,rfl,?_⟩) (args_list_sort _)))
 ·have:=hq h' λb o e=>hk b o (GD (IQ (G5 e))) (keep b o e);exact⟨this.kind,this.lt⟩
 ·exact Gu ⟨_,rfl,h p a1 a2⟩
end
noncomputable def lexLt(x y:Int×Int):Bool:=decide (x.1<y.1\/(x.1=y.1/\x.2<y.2))
theorem kB{x:Int×Int}:lexLt x y=true ↔ (x.1<y.1\/(x.1=y.1/\x.2<y.2)):=decide_eq_true_iff
noncomputable def rank(l:List (Int×Int))(x:Int×Int):Nat:=l.countP λy=>lexLt y x
noncomputable def rk(l:List (Int×Int))(i:Nat):Int:=(rank l (l.getD i (0,0)):Nat)
theorem pV{l:List (Int×Int)}{p q:Int×Int->Bool}(h:∀z,p z=true->q z=true){x:Int×Int}:x∈l->p x=false->q x=true->l.countP p<l.countP q:=by
 induction l with
 |nil=>intro hx;cases hx
 |cons y l ih =>
  intro hx h1 h2;have hle:l.countP p<=l.countP q:=Ln λz _=>h z;rw[List.countP_cons,List.countP_cons];rcases Gv.mp hx with rfl|hx
  ·rw[Gn (by rw[h1];exact Gz),Gp h2];lia
  ·have:=ih hx h1 h2
   cases hp:p y with
   |true=>rw[Gp rfl,Gp (h y hp)];lia
   |false=>rw[Gn Gz];split<;>lia
theorem rE{l:List (Int×Int)}{x:Int×Int}(hx:x∈l)(hy:y∈l):decide (rank l x<rank l y)=lexLt x y:=by
 have irr:∀z,lexLt z z=false:=λz=>GH (by lia)
 cases h:lexLt x y with
 |true =>
  refine GX (pV (λz hz=>?_) hx (irr x) h);rw[kB] at h hz ⊢;lia
 |false =>
  refine GH (Kz.mpr (Ln λz _ hz=>?_));have h':¬ (x.1<y.1\/(x.1=y.1/\x.2<y.2)):=of_decide_eq_false h;rw[kB] at hz ⊢;lia
noncomputable def w6(h:Heap)(v:Value)(pr:Int×Int):Prop:=∃(a:Addr) (o:Obj) (n:Nat) (t u:Tok),v=.ref a/\h.get? a=some o/\o.cls=.type "tuple"/\o.data=.seq #[.int pr.1 t,.int pr.2 u] n
theorem oy:∀{vs:List Value} {prs:List (Int×Int)},Paired (w6 h) vs prs->∃fs,KatTups h vs fs/\fs.length=vs.length/\∀v∈fs,∃i t,v=Value.int i t
 |_,_,.nil=>⟨[],trivial,rfl,λ_ h=>by cases h⟩
 |_,_,.cons r t=>by
  obtain⟨a,o,n,t1,u,rfl,ho,hc,hd⟩:=r;obtain⟨fs,h1,h2,h3⟩:=oy t;refine⟨_::fs,⟨⟨a,o,_,n,rfl,ho,hc,hd,rfl⟩,h1⟩,by simp[h2],λv hv=>?_⟩
  rcases Gv.mp hv with rfl|hv
  ·exact⟨_,_,rfl⟩
  ·exact h3 v hv
theorem uK{vs:List Value}(hp:Paired (w6 h) vs prs){i:Nat}(hi:i<vs.length):w6 h (vs.getD i .none) (prs.getD i (0,0))/\prs.getD i (0,0)∈prs:=by
 induction hp generalizing i with
 |nil=>cases hi
 |cons r t ih =>
  cases i with
  |zero=>exact⟨r,GB ..⟩
  |succ i =>
   obtain⟨h1,h2⟩:=ih (i:=i) (by simpa using hi)
   exact⟨h1,GA _ h2⟩
theorem tO{s:Shared}{vs:List Value}(hp:Paired (w6 h) vs prs):C0 prog w s vs (tuples' true) (rk prs) h where
 kind:=λA E Q h2 q=>by
  obtain⟨fs,h1,h3,h4⟩:=oy hp;exact kat_kind (s:={s with heap:=h}) (T:=.type "int") h1 (by lia) (λv hv=>by obtain⟨i,t,rfl⟩:=h4 v hv;exact Looks.of_pure rfl) rfl q
 lt:=λA C i j hi hj q=>by
  obtain⟨⟨a,o,n,t,u,ea,ho,hc,hd⟩,mi⟩:=uK hp hi;obtain⟨⟨a',o',n',t',u',ea',ho',hc',hd'⟩,mj⟩:=uK hp hj;have e:=rE mi mj;have e':decide (rk prs i<rk prs j)=lexLt (prs.getD i (0,0)) (prs.getD j (0,0)):=by
   rw[<- e,Ij];unfold rk;lia
  rw[e'] at q;clear e e' mi mj;unfold kas_ask;rw[ea,ea'];generalize prs.getD i (0,0)=x at *;generalize prs.getD j (0,0)=y at *;refine kat_lt (s:={s with heap:=h}) ho hd ho' hd' ?_
  show KatLex prog w A true _ C [(.int x.1 t,.int y.1 t'),(.int x.2 u,.int y.2 u')] 0 _;refine kat_cons (K1 ?_)
  cases c1:(x.1 == y.1) with
  |false =>
   refine kat_no ?_;have h1:x.1≠y.1:=G_.mp c1;have e1:lexLt x y=decide (x.1<y.1):=by unfold lexLt;rw[Ij];lia
   rw[e1] at q;exact oneLt_int q
  |true =>
   refine kat_yes (kat_cons (K1 ?_));have h1:x.1=y.1:=eq_of_beq c1;have e1:lexLt x y=decide (x.2<y.2):=by unfold lexLt;rw[Ij];lia
   rw[e1] at q
   cases c2:(x.2 == y.2) with
   |false =>
    refine kat_no ?_;show wpAny (model prog w) A (oneLt' false (.int x.2 u) (.int y.2 u')) C _ _;exact kat_one _ _ (lt_int q)
   |true =>
    have h2:x.2=y.2:=eq_of_beq c2;refine kat_yes (kat_nil ?_);rw[GH (by lia)] at q
    exact q
noncomputable def EH(l:List (Int×Int)):Prop:=l.Pairwise λx y=>lexLt y x=false
theorem DA{ix:List Nat}(hp:ix.Perm (List.range prs.length))(hr:ix.Pairwise (SP.R (rk prs))):(ix.map λi=>prs.getD i (0,0)).Perm prs/\EH (ix.map λi=>prs.getD i (0,0)):=by
 have e:(List.range prs.length).map (λi=>prs.getD i (0,0))=prs:=by
  refine Iu λi=>?_;rw[G8];rcases Ho i prs.length with c|c
  ·rw[ID c,Gm c];simp[c]
  ·rw[GU.mpr c,GU.mpr (by rw[Hc];exact c)];rfl
 refine⟨?_,Iv.mpr (hr.imp_of_mem λ{i j} hi hj h=>?_)⟩
 ·have:=hp.map λi=>prs.getD i (0,0);rw[e] at this;exact this
 ·have mem:∀i∈ix,prs.getD i (0,0)∈prs:=λi hi=>by
   have hl:=HH.mp (hp.mem_iff.mp hi);rw[Gy,Gm hl];exact GL hl
  rw[<- rE (mem j hj) (mem i hi)];have:=h.le;unfold rk at this;exact GH (by lia)
namespace Y
noncomputable def En(H:Hp)(v:V)(p:Int×Int):Prop:=∃q,v=.ref q/\H q=some (.tup [.int p.1,.int p.2])
noncomputable def Cj(K:LA):List V->Hp->VK->Prop:=λxs H Q=>∃p vs prs,xs=[.ref p]/\bZ K H p vs/\Paired (En H) vs prs/\prs.length<64/\∀ix:List Nat,ix.Perm (List.range prs.length)->EH (ix.map λi=>prs.getD i (0,0))->∀l,H l=none->Q (.ref l) (upd H l (.lst (ix.map λi=>vs.getD i .aQ)))
theorem ud{pins:List (Addr×Obj)}{σ:St}{s:Shared}(I:Inv X pins σ H s):∀{vs:List V} {its:List Value} {prs:List (Int×Int)},Vals vs its->Paired (En H) vs prs->Paired (w6 s.heap) its prs
 |_,_,_,.nil,.nil=>.nil
 |_,_,_,.cons r t,.cons r' t'=>by
  refine .cons ?_ (ud I t t');obtain⟨q,rfl,hq⟩:=r';have e:_=Value.ref q:=r;subst e;obtain⟨_,ts,tv,o,e1,c,n,d,_⟩:=(show bp X.prog X.w H s.heap q (.tup _) from I.aX q _ hq);obtain⟨u,w',rfl,⟨t1,rfl⟩,⟨t2,rfl⟩⟩:=vals2 tv;exact⟨q,o,n,t1,t2,rfl,e1,c,d⟩
theorem qK{vs:List V}{its:List Value}(h:Vals vs its):∀ix:List Nat,(∀i∈ix,i<vs.length)->Vals (ix.map λi=>vs.getD i .aQ) (ix.map λi=>its.getD i Value.none)
 |[],_=>.nil
 |i::ix,hi=>by
  refine .cons ?_ (qK h ix λj hj=>hi j (GA _ hj));have hl:=hi i (GB ..);obtain⟨u,e,r⟩:=Vals.get h (Gm hl);show RelV (vs.getD i .aQ) (its.getD i Value.none);rw[Gy,Gy,Gm hl,e];exact r
theorem pH(K:LA)(hK:X.K=K):bC X (.builtin "sorted") (Cj K):=by
 subst hK;intro pins s σ H xs us Q I r h;obtain⟨p,vs,prs,rfl,hq,hp,h64,q⟩:=h;obtain⟨u,rfl,ru⟩:=vals1 r;cases ru;obtain⟨its,rv,pl,hz⟩:=I.list hq;have hpa:=ud I rv hp;have l1:its.length=prs.length:=Paired.length hpa;have l2:vs.length=prs.length:=Paired.length hp;refine oW (κ:=tuples' true) (kz:=rk prs) pl.isList (by lia) (λh' hk=>tO (Paired.vv hpa λa b ⟨x,o,n,t,u,e,ho,r⟩=>⟨x,o,n,t,u,e,hk _ _ ho,r⟩)) λpx a1 a2=>?_
 rw[l1] at a1;obtain⟨e,he⟩:=sortedAll_at s.heap its (List.toArray (px.toList.map λi=>its.getD i Value.none));refine⟨.ref (s.heap.objs.size+1),_,I.laid (t':=s.toks) (λb ob q=>sortedAll_old q) (HA _) (show bp X.prog X.w _ _ _ (.lst (px.toList.map λi=>vs.getD i .aQ)) from⟨?_,_,e,qK rv px.toList (λi hi=>by rw[l2];exact HH.mp (a1.mem_iff.mp hi)),by simpa using he⟩),rfl,q px.toList a1 (DA a1 a2).2 _ (I.aX.fresh (HA _))⟩
 rw[Gx,a1.length_eq,Hc];exact Gw (Iw h64) (by decide)
end Y
open Builtin Builtin.Str
open PySem PySem.Spec PyProof PyProof.Rows
open Builtin Builtin.Str
open PySem PySem.Spec PyProof PyProof.Rows
open PySem PySem.Spec PyProof PyProof.Rows PySem.W
open PySem PySem.Calls PySem.NumText PySem.Spec PyProof PyProof.Rows
variable{cs:List Nat}{E Q:Value->Shared->Prop}{x:PySem.Str}{X:Cx}{H:Hp}{a:Addr}{xs:List V}{e:Expr}{p:Pos}{keys:List (Option Expr)}{values:List Expr}{trs:List (TE×TE)}{σ:St}
noncomputable def eJ(cs:List Nat):Nat:=cs.foldl (λa c=>a*2+(c-48)) 0
noncomputable def dy(cs:List Nat):Prop:=∀c∈cs,c=48\/c=49
theorem Dq{c:Nat}(h:c=48\/c=49)(ds:Array Nat)(b:Bool):step 2 (ds,b) c=some (ds.push (c-48),true):=by
 rcases h with rfl|rfl<;>rfl
theorem Av:∀(cs:List Nat) (ds:Array Nat) (b:Bool),dy cs->∃ds':Array Nat,cs.foldlM (step 2) (ds,b)=some (ds',b || !cs.isEmpty)/\ds'.foldl (λa d=>a*2+d) 0=cs.foldl (λa c=>a*2+(c-48)) (ds.foldl (λa d=>a*2+d) 0)
 |[],ds,b,_=>⟨ds,by simp,rfl⟩
 |c::cs,ds,b,h=>by
  obtain⟨ds',e1,e2⟩:=Av cs (ds.push (c-48)) true λx hx=>h x (GA _ hx);refine⟨ds',?_,?_⟩
  ·rw[List.foldlM_cons,Dq (h c GB)];show cs.foldlM (step 2) (ds.push (c-48),true)=_;rw[e1];simp
  ·rw[e2,Array.foldl_push,KP]
theorem so{c:Nat}(h:c=48\/c=49):blank c=false:=by rcases h with rfl|rfl<;>rfl
theorem mO(h:dy cs):cs.dropWhile blank=cs:=by
 cases cs with
 |nil=>rfl
 |cons c cs=>rw[Jf,so (h c GB)];rfl
theorem vP(h:dy cs):sign cs=(false,cs):=by
 cases cs with
 |nil=>rfl
 |cons c cs=>rcases h c GB with rfl|rfl<;>rfl
theorem sF(h:dy cs):based 2 cs=(2,false,cs):=by
 have e:PySem.NumText.prefix? cs=none:=by
  rcases cs with _|⟨c,_|⟨d,cs⟩⟩
  ·rfl
  ·rcases h c GB with rfl|rfl<;>rfl
  ·rcases h c GB with rfl|rfl
   ·rcases h d (GA _ GB) with rfl|rfl<;>rfl
   ·rfl
 unfold based;rw[e];rfl
theorem u6{cs:List Nat}(h:dy cs)(h0:cs≠[]):(int_private% "readNumeral") 0 2 cs=(int_private% "Numeral.value") (eJ cs:Int):=by
 rw[readNumeral_eq,mO h,vP h];show judge 0 false (based 2 cs).1 (based 2 cs).2.1 (digits? (based 2 cs).1 (((based 2 cs).2.2.reverse.dropWhile blank).reverse))=_;rw[sF h];show judge 0 false 2 false (digits? 2 ((cs.reverse.dropWhile blank).reverse))=_;rw[mO (cs:=cs.reverse) (λc hc=>h c (Ik.mp hc)),I_];obtain⟨ds,e1,e2⟩:=Av cs #[] false h;have e3:digits? 2 cs=some ds:=by
  unfold digits?;rw[e1]
  cases cs with
  |nil=>exact absurd rfl h0
  |cons=>rfl
 rw[e3];show (int_private% "Numeral.value") ((ds.foldl (λacc d=>acc*2+d) 0:Nat):Int)=_;rw[e2];rfl
theorem nJ:∀{cs:List Nat},dy cs->cs.takeWhile (· != 0)=cs
 |[],_=>rfl
 |c::cs,h=>by
  rw[JX,show (c != 0)=true by rcases h c GB with rfl|rfl<;>rfl,Gp rfl,nJ λx hx=>h x (GA _ hx)]
theorem wb{M:Model}{A:Around}{s:Shared}{v:Value}{text:List Nat}{n:Int}
  (hs:(text.takeWhile (· != 0)).length<=640) (hr:(int_private% "readNumeral") 0 2 (text.takeWhile (· != 0))=(int_private% "Numeral.value") n)
  (ha:((text.takeWhile (· != 0)).length == text.length)=true) (h:Q (.int n s.toks) {s with toks:=s.toks+1}) :
  wpAny M A ((int_private% "intFromText") v text 2) Q E s:=by
 obtain⟨hp,g,d,tk,os⟩:=s
 repeat (any_goals (first
  |assumption
  | (with_reducible refine Ke (GX hs) ?_)
  | (with_reducible refine Ke (GX ha) ?_)
  |wp_step))
 all_goals (try rw[hr])
 all_goals (try dsimp only)
 repeat (any_goals (first
  |assumption
  | (with_reducible refine Ke (GX hs) ?_)
  | (with_reducible refine Ke (GX ha) ?_)
  |wp_step))
theorem mD{u t:Tok}(hl:x.length<=640)(hb:dy x.cps.toList)(h0:x.cps.toList≠[]):Gives (Builtin.«int.__new__» ⟨[.type "int",.str x u,.int 2 t],[]⟩) (.int (eJ x.cps.toList)):=
 .of_wp λM A E s Q h=>by
  obtain⟨hp,g,d,tk,os⟩:=s;have f1:=F.conv_sub_int;have f2:=F.madeHere_int;have f6:typeOf (.str x u)=pure (.type "str"):=rfl;have ht:x.cps.all (· < 128)=true:=by
   rw[<- Array.all_toList,K4];intro c hc;rcases hb c hc with rfl|rfl<;>rfl
  have hs:=nJ hb;have hk:=PySem.W.KIN.Hid.mk (And.intro (show (x.cps.toList.takeWhile (· != 0)).length<=640 by rw[hs];exact hl) (And.intro (show (int_private% "readNumeral") 0 2 (x.cps.toList.takeWhile (· != 0))=(int_private% "Numeral.value") (eJ x.cps.toList:Int) by rw[hs];exact u6 hb h0) (show ((x.cps.toList.takeWhile (· != 0)).length == x.cps.toList.length)=true by rw[hs];simp)))
  clear hs hl hb h0
  repeat (any_goals (first
   |assumption
   | ((with_reducible show wpAny _ _ ((int_private% "intFromText") _ _ _) _ _ _);(try rw[Gp ht]);refine wb hk.out.1 hk.out.2.1 hk.out.2.2 ?_)
   |wp_step))
  all_goals first|exact⟨_,rfl,h⟩|skip
theorem jg(a b:Value):checkTypeCall "int" ⟨[a,b],[]⟩=pure ():=by kernel_rfl
theorem jM(a b:Value):checkBuiltinCall "int.__new__" ⟨[.type "int",a,b],[]⟩=pure ():=by kernel_rfl
theorem pZ{prog:Program}{w:World}{A:Around}{s:Shared}{u t:Tok}(hl:x.length<=640)(hb:dy x.cps.toList)(h0:x.cps.toList≠[])(h:Q (.int (eJ x.cps.toList) s.toks) {s with toks:=s.toks+1}):wpAny (model prog w) A (call (.type "int") [.str x u,.int 2 t]) Q E s:=
 Lu F.called_int F.newNe_int (jg _ _) (jM _ _) (λobj=>F.args_object_init_3 obj _ _) F.entry_int_new (mD hl hb h0).meets (show (Made.int _).post _ s from⟨rfl,h⟩)
noncomputable def zX:List V->Hp->VK->Prop:=λxs H Q=>∃z:Str,xs=[.str z,.int 2]/\z.length<=640/\dy z.cps.toList/\z.cps.toList≠[]/\Q (.int (eJ z.cps.toList)) H
theorem kO:bC X (.type "int") zX:=by
 intro pins s σ H xs us Q I r h;obtain⟨z,rfl,h1,h2,h3,q⟩:=h;obtain⟨u,v,rfl,⟨t,rfl⟩,⟨t',rfl⟩⟩:=vals2 r;exact pZ h1 h2 h3 ⟨.int _,H,I.tok _,⟨_,rfl⟩,q⟩
abbrev Src:=Bool×Addr×Addr
namespace Z
theorem Ge{st:Stmt}:QS X st (λ_ _ _=>False):=⟨λ_ _ _ _ _ _ h=>h.elim⟩
end Z
namespace Y
noncomputable def Fg(K:LA):R2:=λx y H Q=>∃a b xs,x=.ref a/\y=.ref b/\bZ K H a xs/\bZ K H b []/\Q (.bl (!xs.isEmpty)) H
theorem B3(K:LA)(hK:X.K=K)(hu:X.A.units<cLine):dz X (compareOp .NotEq) (Fg K):=by
 subst hK;intro pins s σ H x y v u Q I rx ry h;obtain⟨a,b,xs,rfl,rfl,ha,hb,q⟩:=h
 cases rx;cases ry
 obtain⟨its,r1,p1,_⟩:=I.list ha;obtain⟨its2,r2,p2,_⟩:=I.list hb;obtain rfl:=Paired.yl r2
 cases r1 with
 |nil=>exact SeqAt.RcNeAt.lists (e:=λ_=>true) p1.isList p2.isList rfl hu (λj h1=>absurd h1 (JQ _)) X.prog X.w X.xe _ ⟨.bl false,H,I,rfl,q⟩
 |cons h r=>exact SeqAt.RcNeAt.lists_lengths p1.isList p2.isList (by simp) hu X.prog X.w X.xe _ ⟨.bl true,H,I,rfl,q⟩
end Y
namespace Z
theorem Gf{o:Expr}{to:TE}{pos:Pos}(K:LA)(hK:X.K=K){name:Str}{apos:Pos}{T id:String}{r:V->List V->Hp->VK->Prop}(pa:PlainAttrs T)(slot:Slot T name id)(hty:typeOf (.builtin id)=pure (.type "method_descriptor"))(hm:rQ X id r)(ho:QE X o to)
  (hbase:autoParam (attributeBase o name X.env (eval o X.env)=eval o X.env) ℜ0) (hline:autoParam ((apos.endLine == pos.line)=true) ℜ0):QE X (.Call (.Attribute o name apos) [] [] pos) (vI K T r to):=by
 subst hK;exact⟨A6 pa slot hty hm ho.h hbase hline⟩
theorem nT(K:LA)(hK:X.K=K):tG X (BA K):=by subst hK;exact qd
end Z
theorem EI{K:LA}{H':Hp}(h:b8 K H a xs)(k:KB [] H H'):b8 K H' a xs:=b8.same (λb o z=>k b o z (by simp)) h
structure QP (X:Cx) (pos:Pos) (keys:List (Option Expr)) (values:List Expr) (trs:List (TE×TE)):Prop where
 h:DJ X pos keys values trs
namespace Z
theorem FJ{te:TE}{x:Str}{pos:Pos}{d:Addr}{D:List (Str×List Str)}(K:LA)(hK:X.K=K)(hg:Gl X x)(hm:X.mg x=some (.ref d))(hd:jP K d D)(he:QE X e te)(hs:vR e:=by exactλ_ _=>rfl)(hdb:autoParam ((x ==("__debug__":Str))=false) ℜ1):QE X (.Subscript (.Name x p) e pos) (w_ K D te):=by
 subst hK;exact⟨CF (qQ hg hm rfl hdb) hd he.h hs⟩
theorem FL{tg l:Expr}{tl:TE}(hl:QE X l tl):QI X tg l (vM tl):=⟨AZ hl.h⟩
theorem CY{es:List Expr}{ta:TA}{pos:Pos}(K:LA)(hK:X.K=K){k:Nat}{tp:Pos}(hg:Gl X "enumerate")(hm:X.mg "enumerate"=none)(ha:QA X [e] ta)(h1:autoParam (fz e=true) ℜ0):QI X (.Tuple es k tp) (.Call (.Name "enumerate" p) [e] [] pos) (i_ K ta):=by
 subst hK;exact⟨vW hg hm ha.h h1⟩
theorem Dr{t:TA}{pos kpos lpos p1 p2 p3:Pos}{x y z:Str}{c Pt d:Addr}{j:Nat}{params:Arguments}{scope:Scope}{k:Nat}(K:LA)(hK:X.K=K)(hx:z∈dJ)(ht:PySem.W.tabIn K z=some (c,Pt))(hcode:X.env.code=.ref c)(hq:X.env.qual=z++".<locals>.")(hdef:defaultsOf params X.env=([],[]))(hcl:closureFor scope X.env=pure [(y,d)])
  (hg:Gl X "sorted") (hm:X.mg "sorted"=none) (ha:QA X [e] t) (hr:bE (k+3) X.A)
  (hsc:scope={kind:=.function,names:=[(x,.local),(y,.free)],isGenerator:=false,isCoroutine:=false,more:=[]}) (hxy:y≠x) (hx1:(x ==("__debug__":Str))=false) (hx2:(x ==("__classdict__":Str))=false) (hy1:(y ==("__debug__":Str))=false) (hy2:(y ==("__classdict__":Str))=false)
  (hj:X.N[j]?=some y) (hyc:X.env.scope.names.lookup y=some .cell) (hyl:X.env.cells.lookup y=some d)
  (hbind:∀c' pm ctv u,bindArgs (PySem.W.kla_fn "<lambda>" ((z++".<locals>.")++"<lambda>") params (.Subscript (.Name y p1) (.Name x p2) p3) scope [(y,d)] pm (.ref c') ctv) ⟨[u],[]⟩=pure [(x,u)]) (h1:autoParam (fz e=true) ℜ0) :
  QE X (.Call (.Name "sorted" p) [e] [⟨some "key",.Lambda params (.Subscript (.Name y p1) (.Name x p2) p3) scope lpos,kpos⟩] pos) (iZ K j t):=by
 subst hK;exact⟨wy hg hm ha.h h1 hr (CH hx ht hcode hq hdef hcl) hsc hxy hx1 hx2 hy1 hy2 hj hyc hyl hbind⟩
theorem DZ(K:LA)(hK:X.K=K):dz X (compareOp .In) (Ft K false):=by subst hK;exact kj
theorem Bl(K:LA)(hK:X.K=K):bC X (.type "list") (λxs H Q=>∃p ys,xs=[.ref p]/\(bZ K H p ys\/b8 K H p ys)/\∀l,H l=none->Q (.ref l) (upd H l (.lst ys))):=by subst hK;exact lZ
theorem Ej{pos:Pos}:QE X (.Dict [] [] pos) jw:=⟨vf⟩
theorem Fs{pos:Pos}:QP X pos [] [] []:=⟨zi⟩
theorem wu{pos p1:Pos}{j1:Nat}{k:Str}{v:Expr}{tv:TE}(hv:QE X v tv)(h:QP X pos keys values trs):QP X pos (some (.Constant (.str k) j1 p1)::keys) (v::values) ((tC (.str k),tv)::trs):=⟨uD qf hv.h h.h⟩
theorem Fy{pos:Pos}(h:QP X pos keys values trs)(hall:autoParam (keys.all (·.isSome)=true) ℜ0)(hl:autoParam (keys.length=values.length) ℜ0)(h0:keys≠[]:=by simp)(h15:autoParam (keys.length<=15) ℜ1):QE X (.Dict keys values pos) (nr trs):=⟨y6 h.h hall hl h0 h15⟩
end Z
namespace Ap
theorem w_(K:LA)(D:List (Str×List Str))(te:TE)(σ:St)(H:Hp)(Q:VK):L2.w_ K D te σ H Q=te σ H λy H1=>∃k ws,y=.str k/\KTD.datumAt k D=some ws/\∀p,EN K p (ws.map V.str)->Q (.ref p) H1:=rfl
theorem vM(tl:TE)(σ:St)(H:Hp)(R:It->Hp->Prop):L2.vM tl σ H R=tl σ H λx H1=>∃z,x=V.str z/\R (Dk z) H1:=rfl
theorem i_(K:LA)(ta:TA)(σ:St)(H:Hp)(R:It->Hp->Prop):L2.i_ K ta σ H R=ta σ H λvs H1=>∃a,vs=[.ref a]/\(∃xs,bZ K H1 a xs)/\R (zg K a) H1:=rfl
theorem iZ(K:LA)(j:Nat)(t:TA)(σ:St)(H:Hp)(Q:VK):L2.iZ K j t σ H Q=t σ H λvs H1=>∃l xs kz,vs=[.ref l]/\(∃n:Nat,H1 l=some (.mN 0 n)/\xs=j5 n)/\kz.length=xs.length/\xs.length<64 /\
 (∀(i:Nat) (v:V) (k:Int),xs[i]?=some v->kz[i]?=some k->∀H',dU H1 H'->∃i q ls,v=.int i/\FU j σ=[some (.ref q)]/\b8 K H' q ls/\bX ls i=some (.int k))/\∀H2 D,dU H1 H2->H2 D=none->Q (.ref D) (upd H2 D (.lst (iK kz xs))):=rfl
theorem nr(trs:List (TE×TE))(σ:St)(H:Hp)(Q:VK):L2.nr trs σ H Q=∀p,H p=none->gu trs σ (upd H p (.dK [])) λps H2=>H2 p=some (.dK [])/\∃kvs:List (Key×V),ps=kvs.map (λkv=>(kV kv.1,kv.2))/\kvs.length<=15/\Q (.ref p) (upd H2 p (.dK (cB [] kvs))):=rfl
theorem xP(σ:St)(H:Hp)(Q:List (V×V)->Hp->Prop):gu [] σ H Q=Q [] H:=rfl
theorem zo(tk tv:TE)(r:List (TE×TE))(σ:St)(H:Hp)(Q:List (V×V)->Hp->Prop):gu ((tk,tv)::r) σ H Q=tk σ H λx H1=>tv σ H1 λy H2=>gu r σ H2 λps H3=>Q ((x,y)::ps) H3:=rfl
theorem jw(σ:St)(H:Hp)(Q:VK):L2.jw σ H Q=∀p,H p=none->Q (.ref p) (upd H p (.dK [])):=rfl
end Ap
section
variable {K:LA} {g:TG} {tb:TS} {D:Ends} {σ:St} {H:Hp}
theorem mJ{z:Str}(Pv:Nat->St->Hp->Prop)(h0:Pv 0 σ H)
  (hs:∀i c σ H,z.cps[i]?=some c->Pv i σ H->g (.str ⟨#[c]⟩) σ H λσ2 H2=>tb {D with nx:=Pv (i+1),ct:=Pv (i+1),bk:=D.nx} σ2 H2) (hd:∀σ H,Pv z.cps.size σ H->D.nx σ H):qi (Dk z) g tb D σ H:=by
 refine⟨λi m σ H=>m=z.cps.size-i/\i<=z.cps.size/\Pv i σ H,⟨z.cps.size,by simp,GF _,h0⟩,?_⟩
 rintro i m σ H ⟨rfl,hi,p⟩;by_cases c:i<z.cps.size
 ·refine .inr ⟨c,λσ' H'=>Pv (i+1) σ' H',λσ' H' h=>⟨_,by lia,rfl,c,h⟩,?_⟩
  rintro x H' ⟨rfl,y,e,rfl⟩;exact hs i y σ _ e p
 ·have e:i=z.cps.size:=by lia
  subst e;exact .inl ⟨Gs _,hd _ _ p⟩
theorem pP(Pv:Nat->St->Hp->Prop)(h0:Pv 0 σ H)(hl:∀i σ H,i<=xs.length->Pv i σ H->bZ K H a xs)
  (hs:∀i x σ H p,xs[i]?=some x->Pv i σ H->H p=none->g (.ref p) σ (upd H p (.tup [.int i,x])) λσ2 H2=>tb {D with nx:=Pv (i+1),ct:=Pv (i+1),bk:=D.nx} σ2 H2) (hd:∀σ H,Pv xs.length σ H->D.nx σ H) :
  qi (zg K a) g tb D σ H:=by
 refine⟨λi m σ H=>m=xs.length-i/\i<=xs.length/\Pv i σ H,⟨xs.length,by simp,GF _,h0⟩,?_⟩
 rintro i m σ H ⟨rfl,hi,p⟩;have hq:=hl i σ H hi p;by_cases c:i<xs.length
 ·refine .inr ⟨⟨xs[i],xs,hq,Gm c⟩,λσ' H'=>Pv (i+1) σ' H',λσ' H' h=>⟨_,by lia,rfl,c,h⟩,?_⟩
  rintro x H' ⟨q,y,e,fr,rfl,rfl⟩;have e1:=e xs hq;exact hs i y σ H q e1 p fr
 ·have e:i=xs.length:=by lia
  subst e;exact .inl ⟨⟨xs,hq,rfl⟩,hd _ _ p⟩
end
section
variable {K:LA} {σ:St} {H:Hp} {tc:TT} {te:TE} {Q:VK}
theorem DR{x y:V}{c:Addr}{o1 o2:Option V}{R:St->Hp->Prop}(h:R (some x::some y::σ) (upd H c (.tup [x,y]))):oH K 2 (fH (bq 0) (fH (bq 1) oE)) (.ref c) (o1::o2::σ) (upd H c (.tup [x,y])) R:=⟨c,[x,y],rfl,b8.of aa,rfl,x,[y],rfl,y,[],rfl,rfl,h⟩
theorem m8(hn:xs.length<=sizeLine)(Pv:Addr->Nat->List V->Hp->Prop)(h0:∀D,H D=none->Pv D 0 [] (upd H D (.lst [])))(hD:∀D i ys H',Pv D i ys H'->H' D=some (.lst ys)/\ys.length=i)
  (hl:∀D i ys H',Pv D i ys H'->b8 K H' a xs)
  (hs:∀D i ys H' x p (R:VK),xs[i]?=some x->Pv D i ys H'->H' p=none->(∀v H5,H5 D=some (.lst ys)->Pv D (i+1) (ys++[v]) (upd H5 D (.lst (ys++[v])))->R v H5)->te (some (.int i)::some x::σ) (upd H' p (.tup [.int i,x])) R) (hd:∀D ys H',Pv D xs.length ys H'->Q (.ref D) H') :
  kr (uX K a) 2 (oH K 2 (fH (bq 0) (fH (bq 1) oE))) gi te Q σ H:=by
 intro D hD0;refine⟨λi m ys σ' H'=>m=xs.length-i/\i<=xs.length/\Pv D i ys H'/\∃o1 o2,σ'=o1::o2::σ,⟨xs.length,by simp,GF _,h0 D hD0,none,none,rfl⟩,?_⟩
 rintro i m ys σ' H' ⟨rfl,hi,p,o1,o2,rfl⟩;obtain⟨hDi,hly⟩:=hD _ _ _ _ p;have q:=hl _ _ _ _ p;refine⟨hDi,?_⟩;by_cases hlt:i<xs.length
 ·refine .inr ⟨⟨xs[i],xs,q,by simp[hlt]⟩,by lia,λx H2 y=>?_⟩
  obtain⟨c,y,hy,fr,rfl,rfl⟩:=y;refine DR ?_;unfold gi;dsimp only;rw[if_pos rfl];exact hs D i ys H' y c _ (hy xs q) p fr λv H5 q1 q2=>⟨q1,xs.length-(i+1),by lia,rfl,hlt,q2,_,_,rfl⟩
 ·have e:i=xs.length:=by lia
  subst e;exact .inl ⟨⟨xs,q,rfl⟩,hd D ys H' p⟩
theorem pT{b:Addr}{ys:List V}(hxy:xs.length=ys.length)(ha:b8 K H a xs)(hb:b8 K H b ys)
  (hs:∀(i:Nat) x y H' (R:Bool->Hp->Prop),xs[i]?=some x->ys[i]?=some y->KB [] H H'->(∀H4,KB [] H' H4->R false H4)->tc (some x::some y::σ) H' R) (hd:∀D H',KB [] H H'->H' D=some (.lst [])->Q (.ref D) H') :
  kr (yM K false false a b) 2 (oH K 2 (fH (bq 0) (fH (bq 1) oE))) tc te Q σ H:=by
 intro D hD0;refine⟨λi m zs σ' H'=>m=xs.length-i/\i<=xs.length/\zs=[]/\H' D=some (.lst [])/\KB [] H H'/\∃o1 o2,σ'=o1::o2::σ,⟨xs.length,by simp,GF _,rfl,aa,KB.new hD0,none,none,rfl⟩,?_⟩
 rintro i m zs σ' H' ⟨rfl,hi,rfl,g1,g2,o1,o2,rfl⟩;have q1:pC K false H' a xs:=EI ha g2;have q2:pC K false H' b ys:=EI hb g2;refine⟨g1,?_⟩;by_cases hlt:i<xs.length
 ·have hl2:i<ys.length:=by lia
  refine .inr ⟨⟨xs,ys,xs[i],ys[i],q1,q2,by simp[hlt],by simp[hl2]⟩,by decide,λx H2 z=>?_⟩
  obtain⟨c,y1,y2,e1,e2,fr,rfl,rfl⟩:=z;refine DR ?_;have k3:KB [] H' (upd H' c (.tup [y1,y2])):=KB.new fr;refine hs i y1 y2 _ _ (e1 xs q1) (e2 ys q2) (g2.trans k3) λH4 k4=>?_;rw[Gn Gz];exact⟨xs.length-(i+1),by lia,rfl,hlt,rfl,k4 _ _ (k3 _ _ g1 (by simp)) (by simp),g2.trans (k3.trans k4),_,_,rfl⟩
 ·have e:i=xs.length:=by lia
  subst e;exact .inl ⟨⟨xs,ys,q1,q2,by lia⟩,hd D H' g2 g1⟩
end
theorem jU{t:TS}{D:Ends}(h:∀N,N=D.nx->t {D with nx:=N} σ H):t D σ H:=h _ rfl
theorem la{c:TT}{t u:TS}{D:Ends}(h:∀A B,A=t D->B=u D->c σ H λb H1=>if b=true then A σ H1 else B σ H1):lJ c t u D σ H:=h _ _ rfl rfl
theorem HasFn.EW{P:Program}{w:World}{K:LA}{mg:Str->Option Value}{base:Heap}{x:Str}{st:Stmt}{N ps:List Str}{k:Nat}{sp:Sp}(F:HasFn K mg x st ps)(S:av N ps (af st))(len:∀vs H Q E,sp vs H Q E->vs.length=ps.length)
  (hbody:∀(f:Addr) (cdv:Value) (A:Around) (outer:List Env) (s:Shared) (H:Hp) (vs:List V) (Q:VK) (E:XK),bE k (A.deeper (envOfC x (af st) s.heap.objs.size f cdv))->mg x=some (.ref f)->yX K f cdv->sp vs H Q E ->
   ∃t,QB (fC bf P w K mg base N x (af st) f cdv A outer s H E).oJ (aS st) t/\t {nx:=λ_ H'=>Q .aQ H',rt:=Q} (start N vs) H):aq P w K mg base bf (k+1) x ps sp:=by
 obtain⟨f,fd,F1,b,m⟩:=F.ex;have F2:=F1;obtain⟨oc,od,kV,doc,pm,an,cdv,ct,osl,rfl,lk,gz⟩:=F2.ex;refine⟨f,_,m,F1.kp,b,zZ lk gz S len λA outer s H vs Q E hr hsp=>?_⟩;obtain⟨t,h,q⟩:=hbody f cdv A outer s H vs Q E hr m ⟨_,_,lk,rfl,rfl⟩ hsp;exact⟨t,h.h.oJ,q⟩
end L2
namespace G
local macro_rules|`(tactic|and_intros)=>`(tactic|exact ⟨rfl,rfl,rfl,by decide +kernel,rfl,by decide +kernel,by decide +kernel⟩)
open PySem L2 PySem.Spec PyProof.Rows
variable{L i p t:Nat}{a b done r z:List Nat}{ls xs:List Int}{ex:List Addr}{H H':Hp}{ln:Nat->Nat}{ws:List (List Nat)}{α:Type}{h:Heap}{o:Option (Nat×Nat)}{C dq f lc_code_of lp_code_of:Addr}{fd:FuncData}{K:LA}{mg:Str->Option Value}{lO_code_of:Value}{lD_code_of:Option Addr}{lv_code_of:Array Value}{lS_code_of:Array (Option Value)}{q:Program}
noncomputable def top(i:Nat):Stmt:=PySem.Challenge.pw_shortrows_k34_bits_run.main.body.getD i (.Pass ⟨0,0,0,0⟩)
abbrev fN:Stmt:=top 4
theorem pX:av ["row"] ["row"] (af fN):=by and_intros
abbrev aL:Stmt:=inClass (top 6) 0
theorem gh:av ["self","given"] ["self","given"] (af aL):=by and_intros
abbrev aJ:Stmt:=inClass (top 6) 1
theorem cT:av ["self","row","behind","end","goes"] ["self","row","behind","end"] (af aJ):=by and_intros
abbrev aM:Stmt:=inClass (top 6) 2
theorem dm:av ["self","row","word"] ["self","row"] (af aM):=by and_intros
abbrev aI:Stmt:=inClass (top 6) 3
theorem bA:av ["self","row","word","old","other"] ["self","row"] (af aI):=by and_intros
abbrev aC:Stmt:=inClass (top 6) 4
theorem eM:av ["self"] ["self"] (af aC):=by and_intros
abbrev aA:Stmt:=inClass (top 6) 5
theorem eK:av ["self"] ["self"] (af aA):=by and_intros
abbrev az:Stmt:=inClass (top 6) 6
theorem ff:av ["self"] ["self"] (af az):=by and_intros
abbrev gB:Stmt:=top 11
theorem cz:av ["lengths","free","depth","left","length"] ["lengths"] (af gB):=by and_intros
abbrev cL:Stmt:=top 13
theorem dG:av ["lengths","words","ahead","thing"] ["lengths"] (af cL):=by and_intros
abbrev di:Stmt:=top 14
theorem jD:av ["ahead","length"] ["ahead","length"] (af di):=by and_intros
abbrev fe:Stmt:=top 15
theorem fA:av ["code","bits","place","thing","word"] ["code","bits","place"] (af fe):=by and_intros
abbrev dP:Stmt:=top 23
theorem nX:av ["book"] ["book"] (af dP):=by and_intros
abbrev hJ:Stmt:=top 25
theorem cI:av ["codes","bits","place","found","word","row","behind","kind","part"] ["codes","bits","place"] (af hJ):=by and_intros
abbrev fj:Stmt:=top 26
theorem i9:av ["code","bits","place","thing"] ["code","bits","place"] (af fj):=by and_intros
abbrev fS:Stmt:=top 27
theorem j4:av ["kind","codes","bits","place","found"] ["kind","codes","bits","place"] (af fS):=by and_intros
abbrev d_:Stmt:=top 28
theorem eY:av ["code","bits","place","found","behind"] ["code","bits","place"] (af d_):=by and_intros
abbrev fV:Stmt:=top 29
theorem cV:av ["bits","place","found","width","behind","distance"] ["bits","place"] (af fV):=by and_intros
abbrev fk:Stmt:=top 31
theorem aY:av ["bits","book","given","most","codes","machine","read","done","place","found","how"] ["bits","book","given","most"] (af fk):=by and_intros
abbrev dn:Stmt:=top 33
theorem lT:av ["script"] ["script"] (af dn):=by and_intros
abbrev eX:Stmt:=top 34
theorem fE:av ["number","turn","one"] ["number","turn"] (af eX):=by and_intros
abbrev dX:Stmt:=top 35
theorem gM:av ["deck","most","number"] ["deck","most"] (af dX):=by and_intros
abbrev d9:Stmt:=top 36
theorem jS:av [] [] (af d9):=by and_intros
abbrev dW:Stmt:=top 37
theorem cP:av ["number","many","text","k"] ["number","many"] (af dW):=by and_intros
abbrev dk:Stmt:=top 38
theorem bu:av ["lengths","found","number","size","length","thing","k"] ["lengths"] (af dk):=by and_intros
abbrev cQ:Stmt:=top 39
theorem cf:av ["deck","many","depths","k","deep","at"] ["deck","many"] (af cQ):=by and_intros
abbrev du:Stmt:=top 40
theorem lj:av ["deck"] ["deck"] (af du):=by and_intros
abbrev c_:Stmt:=top 41
theorem dM:av ["deck","size","top"] ["deck"] (af c_):=by and_intros
abbrev fm:Stmt:=top 42
theorem dZ:av ["deck","goals","some","word","box"] ["deck","goals"] (af fm):=by and_intros
abbrev dB:Stmt:=top 45
theorem cg:av ["row","codes","text","part","size"] ["row","codes"] (af dB):=by and_intros
abbrev cW:Stmt:=top 49
theorem bP:av ["book","found","lengths","table","thing","word"] ["book"] (af cW):=by and_intros
abbrev cE:Stmt:=top 50
theorem cU:av ["table","bits","at","size","word"] ["table","bits","at"] (af cE):=by and_intros
abbrev dA:Stmt:=top 51
theorem cZ:av ["text","number","sign"] ["text"] (af dA):=by and_intros
abbrev dc:Stmt:=top 52
theorem bS:av ["bits","at","k","mark","text","number"] ["bits","at"] (af dc):=by and_intros
abbrev cx:Stmt:=top 53
theorem cN:av ["table","bits","at","found","text"] ["table","bits","at"] (af cx):=by and_intros
abbrev df:Stmt:=top 54
theorem b6:av ["tables","bits","at","found","row","kind","behind"] ["tables","bits","at"] (af df):=by and_intros
abbrev cJ:Stmt:=top 55
theorem gS:av ["found","due"] ["found","due"] (af cJ):=by and_intros
abbrev b_:Stmt:=top 56
theorem aK:av ["deck","book","most","codes","bits","begins","k","row","width","half","far","goal"] ["deck","book","most"] (af b_):=by and_intros
abbrev dY:Stmt:=top 57
theorem cw:av ["state","row","boxes","given","told","box","other"] ["state","row"] (af dY):=by and_intros
abbrev fb:Stmt:=top 58
theorem aN:av ["bits","book","given","most","tables","state","at","count","carried","how","found","row","behind"] ["bits","book","given","most"] (af fb):=by and_intros
abbrev d8:Stmt:=top 59
theorem dh:av ["deck","found","k","number"] ["deck"] (af d8):=by and_intros
abbrev fF:Stmt:=top 60
theorem eV:av ["script","deck","turn","book","bits","given","most","some"] ["script"] (af fF):=by and_intros
structure Txt (K:LA) (mg:Str->Option Value):Prop where
 DY:mg "abs"=none
 B6:mg "bool"=none
 BN:mg "dict"=none
 fD:mg "enumerate"=none
 ki:mg "int"=none
 bU:mg "isinstance"=none
 bB:mg "len"=none
 vw:mg "list"=none
 Er:mg "min"=none
 cY:mg "range"=none
 jv:mg "sorted"=none
 uh:mg "str"=none
 E7:mg "sum"=none
 cF:mg "tuple"=none
 Ea:mg "zip"=none
 lE:∃a,mg "BOXES"=some (.ref a)/\∀H,b8 K H a [.str "a",.str "b",.str "c",.str "d",.str "e",.str "f",.str "g",.str "h"]
 vg:∃a,mg "HALVES"=some (.ref a)/\∀H,b8 K H a [.int 8,.int 128,.int 32768]
 zL:∃a,mg "HEADS"=some (.ref a)/\∀H,b8 K H a [.str "0",.str "10",.str "11"]
 pW:∃u,mg "OF_BOXES"=some u/\RelV (.int 2) u
 mq:∃u,mg "OF_CLASSES"=some u/\RelV (.int 1) u
 qc:∃u,mg "OF_WORDS"=some u/\RelV (.int 0) u
 zI:∃u,mg "WHOLE"=some u/\RelV (.int 65536) u
 uY:∃a,mg "WIDTHS"=some (.ref a)/\∀H,b8 K H a [.int 4,.int 8,.int 16]
 oz:∃d,mg "SHAPES"=some (.ref d)/\jP K d [("put",["box","number"]),("add",["box","box"]),("sub",["box","box"]),("copy",["box","box"]),("tell",["box"]),("hear",["box"]),("jump",["goal"]),("zero",["box","goal"]),("halt",[])]
 mc:∃(C_Machine f___init__ f_place_next f_carry_out f_number_for f_heard_number f_told_numbers f_box_numbers:Addr) (d___init__ d_place_next d_carry_out d_number_for d_heard_number d_told_numbers d_box_numbers:FuncData),mg "Machine"=some (.ref C_Machine)/\jK K C_Machine/\b9 K C_Machine "given"/\b9 K C_Machine "heard"/\b9 K C_Machine "told"/\b9 K C_Machine "boxes"/\Mk K C_Machine f___init__/\jz K "__init__" "Machine.__init__" aL f___init__ d___init__/\Binds K d___init__ ["self","given"] []/\Meth K C_Machine "place_next" f_place_next/\jz K "place_next" "Machine.place_next" aJ f_place_next d_place_next/\Binds K d_place_next ["self","row","behind","end"] []/\Meth K C_Machine "carry_out" f_carry_out/\jz K "carry_out" "Machine.carry_out" aM f_carry_out d_carry_out/\Binds K d_carry_out ["self","row"] []/\Meth K C_Machine "number_for" f_number_for/\jz K "number_for" "Machine.number_for" aI f_number_for d_number_for/\Binds K d_number_for ["self","row"] []/\Meth K C_Machine "heard_number" f_heard_number/\jz K "heard_number" "Machine.heard_number" aC f_heard_number d_heard_number/\Binds K d_heard_number ["self"] []/\Meth K C_Machine "told_numbers" f_told_numbers/\jz K "told_numbers" "Machine.told_numbers" aA f_told_numbers d_told_numbers/\Binds K d_told_numbers ["self"] []/\Meth K C_Machine "box_numbers" f_box_numbers/\jz K "box_numbers" "Machine.box_numbers" az f_box_numbers d_box_numbers/\Binds K d_box_numbers ["self"] []
 nV:qN K mg "code_of"
section
variable {P:Program} {w:World} {K:LA} {mg:Str->Option Value} {base:Heap}
namespace Kr
noncomputable def ks(L:Nat):List Nat->Nat
 |[]=>0
 |l::r=>2^(L-l)+ks L r
theorem cy(L:Nat):∀a b,ks L (a++b)=ks L a+ks L b
 |[],b=>by simp[ks]
 |x::a,b=>by simp[ks,cy L a b];lia
theorem gR(h:a.Perm b):ks L a=ks L b:=by
 induction h with
 |nil=>rfl
 |cons x _ ih=>simp[ks,ih]
 |swap x y l=>simp[ks];lia
 |trans _ _ h1 h2=>exact h1.trans h2
theorem rY{d l:Nat}(h:d<l)(hl:l<=L):2^(L-d)=2*2^(L-(d+1)):=by
 have:L-d=(L-(d+1))+1:=by lia
 rw[this,L8];lia
noncomputable def fit:List Nat->Nat->Nat->Nat->Prop:=λr free depth L=>ks L r<=free*2^(L-depth)
theorem zW{L d:Nat}:∀{r:List Nat},(∀x∈r,d<=x)->ks L r<=r.length*2^(L-d)
 |[],_=>by simp[ks]
 |x::r,h=>by
  have ih:=zW (L:=L) (d:=d) (r:=r) λy hy=>h y (GA _ hy);have hx:=h x GB;have:=JT (n:=2) (by decide) (Nat.sub_le_sub_left hx L)
  simp only[ks,GC,Jl];lia
theorem CD{x:Nat}:0<ks L (x::r):=by
 have:=Nat.pow_pos (n:=L-x) (show 0<2 by decide)
 simp only[ks];lia
theorem qj{free depth:Nat}(h:∀x∈r,depth<=x)(hf:r.length<=free):fit r free depth L:=
 Gw (zW h) (Nat.mul_le_mul_right _ hf)
theorem ql{free depth l:Nat}(h:depth<l)(hl:l<=L):fit r free depth L ↔ fit r (free*2) (depth+1) L:=by
 unfold fit;rw[rY h hl,J6]
theorem xm{free l:Nat}(hf:0<free):fit (l::r) free l L ↔ fit r (free-1) l L:=by
 unfold fit;simp only[ks];obtain⟨f,rfl⟩:∃f,free=f+1:=⟨free-1,by lia⟩
 rw[Kk,Jl];lia
theorem wW{x:Nat}{r:List Nat}{depth L:Nat}:¬ fit (x::r) 0 depth L:=by
 unfold fit;have:=CD (L:=L) (x:=x) (r:=r);lia
noncomputable def Ce(L:Nat)(done:List Nat)(need last:Int):Prop:=0<=need/\0<=last/\∀m:Nat,(need<=m ↔ ks L done<=m*2^(L-last.toNat))
theorem shr(n:Int)(g:Nat)(hn:0<=n)(m:Nat):(1-((0-n) / 2^g)<=(m:Int)) ↔ (1<=m/\n<=((m-1:Nat):Int)*2^g):=by
 have hp:(0:Int)<2^g:=Int.pow_pos (by decide)
 have h1:(1-((0-n) / 2^g)<=(m:Int)) ↔ (1-(m:Int))<=(0-n) / 2^g:=by lia
 rw[h1,Ld hp];constructor
 ·intro h;have hm:1<=m:=by
   rcases Nat.eq_zero_or_pos m with z|z
   ·subst z;simp at h;lia
   ·exact z
  refine⟨hm,?_⟩;have e:((m-1:Nat):Int)=(m:Int)-1:=by lia
  rw[e,Lf];rw[Lf] at h;lia
 ·rintro⟨hm,h⟩;have e:((m-1:Nat):Int)=(m:Int)-1:=by lia
  rw[e,Lf] at h;rw[Lf];lia
theorem Ce.step{need last l:Int}(h:Ce L done need last)(h0:0<=l)(hl:l<=last)(hL:last<=L):
  Ce L (done++[l.toNat]) (1-((0-need) / 2^(last-l).toNat)) l:=by
 obtain⟨n0,l0,hm⟩:=h;refine⟨?_,h0,λm=>?_⟩
 ·have hp:(0:Int)<2^(last-l).toNat:=Int.pow_pos (by decide)
  have:(0-need) / 2^(last-l).toNat<=0:=Int.ediv_nonpos_of_nonpos_of_neg (by lia) hp
  lia
 ·rw[shr need _ n0 m,cy];simp only[ks];have e1:2^(L-l.toNat)=2^(last-l).toNat*2^(L-last.toNat):=by
   rw[<- Lg];congr 1;lia
  have hpos:=Nat.pow_pos (n:=L-l.toNat) (show 0<2 by decide)
  constructor
  ·rintro⟨m1,h⟩;have h':need<=(((m-1)*2^(last-l).toNat:Nat):Int):=by
    rw[Int.natCast_mul,Int.natCast_pow];exact h
   have:=(hm _).mp h';rw[J6,<- e1] at this;obtain⟨k,rfl⟩:∃k,m=k+1:=⟨m-1,by lia⟩
   rw[Kk] at this;rw[Jl];exact Nat.add_le_add this (Gs _)
  ·intro h;have m1:1<=m:=by
    rcases Nat.eq_zero_or_pos m with z|z
    ·subst z;lia
    ·exact z
   refine⟨m1,?_⟩;have h':need<=(((m-1)*2^(last-l).toNat:Nat):Int):=by
    refine (hm _).mpr ?_;rw[J6,<- e1];obtain⟨k,rfl⟩:∃k,m=k+1:=⟨m-1,by lia⟩
    rw[Kk];rw[Jl] at h;exact Nat.le_of_add_le_add_right h
   rw[Int.natCast_mul,Int.natCast_pow] at h';exact h'
end Kr
noncomputable def iV(xs:List Int):List V:=xs.map V.int
theorem bR(xs:List Int):(iV xs).length=xs.length:=Gx ..
theorem lg(xs ys:List Int):iV (xs++ys)=iV xs++iV ys:=GO
theorem A1(h:i<xs.length):bX (iV xs) (i:Int)=some (.int xs[i]):=bI (by unfold iV;rw[G8,Gm h];rfl)
theorem j8{v:V}(h:(iV xs)[i]?=some v):∃hi:i<xs.length,v=.int xs[i]:=by
 unfold iV at h;rw[G8] at h
 cases e:xs[i]? with
 |none=>rw[e] at h;cases h
 |some x=>rw[e] at h;cases h;obtain⟨hi,rfl⟩:=Gq.mp e;exact⟨hi,rfl⟩
theorem lA(xs:List Int)(i:Nat)(x:Int):(iV xs).set i (.int x)=iV (xs.set i x):=by unfold iV;rw[JU]
theorem AL{xs:List V}(h:(i:Int)<(xs.length:Nat)):∃t,t∈xs/\bX xs (i:Int)=some t:=by
 have hn:i<xs.length:=by lia
 exact⟨xs[i],GL hn,bI (Gm hn)⟩
theorem AE{a:Addr}{xs:List V}(k:KB ex H H')(hx:∀b∈ex,∃ys,H b=some (.lst ys))(h:H a=some (.tup xs)):H' a=some (.tup xs):=k _ _ h λz=>by
 obtain⟨ys,e⟩:=hx a z;rw[h] at e;cases e
noncomputable def jE(ls:List Int):Prop:=0<ls.length/\ls.length<=20/\∀x∈ls,1<=x/\x<=20
noncomputable def KS(ls:List Int):Nat:=Kr.ks 40 (ls.map Int.toNat)
noncomputable def m5(ls:List Int):Bool:=decide (KS ls<=2^40)
namespace Cw
noncomputable def inc:List Nat->List Nat
 |[]=>[]
 |c::r=>if r.all (· == 49) then (if c=48 then 49::r.map (λ_=>48) else 48::r.map (λ_=>48)) else c::inc r
noncomputable def pad(n:Nat)(w:List Nat):List Nat:=w++List.replicate (n-w.length) 48
noncomputable def eG(w:List Nat)(n:Nat):List Nat:=pad n (inc w)
noncomputable def dN(w:List Nat)(n:Nat):List Nat:=pad n ((w.reverse.dropWhile (· == 49)).reverse.dropLast++[49])
theorem Dy:∀w:List Nat,w.all (· == 49)=true->inc w=w.map λ_=>48
 |[],_=>rfl
 |c::r,h=>by
  rw[Ie,Hv] at h;have hc:c=49:=IW.mp h.1;unfold inc;rw[Gp h.2,Gn (by rw[hc];decide),GV]
theorem kU:∀{l:List Nat},l.all (· == 49)=true->l=List.replicate l.length 49
 |[],_=>rfl
 |c::r,h=>by
  rw[Ie,Hv] at h;have hc:c=49:=IW.mp h.1;rw[GC,Hf,<- kU h.2,hc]
theorem yh(k:Nat):(List.replicate k 49).all (· == 49)=true:=by
 rw[K4];intro x hx;rw[(HG.mp hx).2];rfl
theorem parts:∀{w:List Nat},(∀c∈w,c=48\/c=49)->w.all (· == 49)=false->∃p k,w=p++48::List.replicate k 49
 |[],_,h=>by cases h
 |c::r,hb,h=>by
  by_cases z:r.all (· == 49)=true
  ·rw[Ie,z,Bool.and_true] at h;have hc:c=48:=(hb c GB).resolve_right λe=>by rw[e] at h;cases h
   exact⟨[],r.length,by rw[hc,HC,<- kU z]⟩
  ·obtain⟨p,k,e⟩:=parts (w:=r) (λx hx=>hb x (GA _ hx)) (by simpa using z)
   exact⟨c::p,k,by rw[e];rfl⟩
theorem fX(k:Nat):∀p:List Nat,inc (p++48::List.replicate k 49)=p++49::List.replicate k 48
 |[]=>by
  rw[HC,HC];unfold inc;rw[Gp (yh k),Gp rfl,Kl]
 |c::p=>by
  rw[Ii];unfold inc;have z:¬ (p++48::List.replicate k 49).all (· == 49)=true:=by
   rw[List.all_append,Ie];simp
  rw[Gn z,fX k p];rfl
theorem pw(k:Nat)(p:List Nat):((p++48::List.replicate k 49).reverse.dropWhile (· == 49)).reverse=p++[48]:=by
 rw[JY,List.reverse_cons,List.reverse_replicate];have e:∀(k:Nat) (t:List Nat),(List.replicate k 49++[48]++t).dropWhile (· == 49)=[48]++t:=λk t=>by
  induction k with
  |zero=>rfl
  |succ k ih=>rw[Hf,Ii,Ii,Jf,Gp (by decide)];exact ih
 rw[e,JY,I_];rfl
theorem kq{w:List Nat}{n:Nat}(hb:∀c∈w,c=48\/c=49)(h:w.all (· == 49)=false)(hn:w.length<=n):dN w n=eG w n:=by
 obtain⟨p,k,rfl⟩:=parts hb h;unfold dN eG pad;rw[pw,fX,List.dropLast_append_of_ne_nil (by simp)]
 rw[Gr,GC,G9] at hn;simp only[List.dropLast_singleton,HL,Gr,GC,G9,Hs,GS,Ii,HC];congr 2;rw[List.replicate_append_replicate];congr 1;lia
noncomputable def val:List Nat->Nat
 |[]=>0
 |c::r=>(c-48)*2^r.length+val r
theorem gN:∀a b:List Nat,val (a++b)=val a*2^b.length+val b
 |[],b=>by simp[val]
 |c::a,b=>by
  rw[Ii,val,val,gN a b,Gr,Lg,Nat.add_mul,J6,Nat.add_assoc]
theorem eI:∀k,val (List.replicate k 48)=0
 |0=>rfl
 |k+1=>by rw[Hf,val,eI k];simp
theorem jF:∀k,val (List.replicate k 49)+1=2^k
 |0=>rfl
 |k+1=>by
  have:=jF k;rw[Hf,val,G9,L8];lia
theorem lp:∀w:List Nat,(inc w).length=w.length
 |[]=>rfl
 |c::r=>by
  unfold inc;split
  ·split<;>simp
  ·rw[GC,GC,lp r]
theorem mY:∀{w:List Nat},(∀c∈w,c=48\/c=49)->∀c∈inc w,c=48\/c=49
 |[],_,_,h=>by cases h
 |d::r,hb,c,h=>by
  unfold inc at h
  split at h
  ·split at h
   ·rcases Gv.mp h with h|h
    ·exact .inr h
    ·obtain⟨_,_,e⟩:=HP.mp h;exact .inl e.symm
   ·rcases Gv.mp h with h|h
    ·exact .inl h
    ·obtain⟨_,_,e⟩:=HP.mp h;exact .inl e.symm
  ·rcases Gv.mp h with h|h
   ·rw[h];exact hb d GB
   ·exact mY (λx hx=>hb x (GA _ hx)) c h
theorem dE{w:List Nat}{n:Nat}(h:w.length<=n):(eG w n).length=n:=by
 unfold eG pad;rw[Gr,G9,lp];lia
theorem kR{w:List Nat}{n:Nat}(hb:∀c∈w,c=48\/c=49):∀c∈eG w n,c=48\/c=49:=λc h=>by
 rcases Hh.mp h with h|h
 ·exact mY hb c h
 ·exact .inl (HG.mp h).2
theorem oG{w:List Nat}{n:Nat}(hb:∀c∈w,c=48\/c=49)(h:w.all (· == 49)=false):val (eG w n)=(val w+1)*2^(n-w.length):=by
 unfold eG pad;rw[gN,eI,G9,lp,Nat.add_zero];congr 1;obtain⟨p,k,rfl⟩:=parts hb h;have:=jF k;rw[fX,gN,gN,val,val,eI,GC,GC,G9,G9];lia
theorem wG{w:List Nat}(h:w.all (· == 49)=true):val w+1=2^w.length:=by
 rw[kU h,G9];exact jF _
structure gq (done:List Nat) (w:List Nat):Prop where
 bits:∀c∈w,c=48\/c=49
 len:w.length<=40
 sum:(val w+1)*2^(40-w.length)=Kr.ks 40 done
theorem gq.zero{rest w:List Nat}{l:Nat}(h:gq done w)(hk:Kr.ks 40 done+2^(40-l)<=2^40):w.all (· == 49)=false:=by
 cases z:w.all (· == 49) with
 |false=>rfl
 |true =>
  have e:=h.sum;rw[wG z,<- Lg,Nat.add_sub_cancel' h.len] at e;have:0<2^(40-l):=Nat.pow_pos (by decide)
  lia
theorem gq.next{w:List Nat}{l:Nat}(h:gq done w)(hl:w.length<=l)(hl2:l<=40)(hk:Kr.ks 40 done+2^(40-l)<=2^40):gq (done++[l]) (eG w l):=by
 have z:=h.zero (rest:=[]) hk;refine⟨kR h.bits,by rw[dE hl];exact hl2,?_⟩
 rw[oG h.bits z,dE hl,Nat.add_mul,J6,<- Lg,Kr.cy,<- h.sum];have e:l-w.length+(40-l)=40-w.length:=by lia
 rw[e];simp[Kr.ks]
theorem gq.first{l:Nat}(hl:l<=40):gq [l] (List.replicate l 48):=⟨λc h=>.inl (HG.mp h).2,by rw[G9];exact hl,by rw[eI,G9];simp[Kr.ks]⟩
noncomputable def along(nx:List Nat->Nat->List Nat)(ln:Nat->Nat):List Nat->Option (List Nat)×List (List Nat)->Option (List Nat)×List (List Nat)
 |[],s=>s
 |t::r,(a,ws) =>
  let w:=match a with|none=>List.replicate (ln t) 48|some v=>nx v (ln t)
  along nx ln r (some w,ws.set t w)
theorem gp:∀(order done:List Nat) (a:Option (List Nat)) (ws:List (List Nat)),(order.Pairwise λi j=>ln i<=ln j)->(∀t∈order,ln t<=40)->(∀v,a=some v->gq done v/\∀t∈order,v.length<=ln t)->(a=none->done=[])->Kr.ks 40 (done++order.map ln)<=2^40->along dN ln order (a,ws)=along eG ln order (a,ws)
 |[],_,_,_,_,_,_,_,_=>rfl
 |t::r,done,a,ws,hp,h20,ha,hn,hk=>by
  obtain⟨p1,p2⟩:=GY.mp hp;have ht:=h20 t GB;have hk':Kr.ks 40 ((done++[ln t])++r.map ln)<=2^40:=by rw[GS];exact hk
  cases a with
  |none =>
   have:=hn rfl;subst this;exact gp r [ln t] _ _ p2 (λx hx=>h20 x (GA _ hx)) (λv e=>by cases e;exact⟨gq.first ht,λx hx=>by rw[G9];exact p1 x hx⟩) (λe=>by cases e) hk'
  |some v =>
   obtain⟨hv,hl⟩:=ha v rfl;have hvl:=hl t GB;have hk2:Kr.ks 40 done+2^(40-ln t)<=2^40:=by
    rw[Kr.cy,Kr.cy] at hk';simp[Kr.ks] at hk';lia
   have e:=kq hv.bits (hv.zero (rest:=[]) hk2) hvl;show along dN ln r (some (dN v (ln t)),ws.set t (dN v (ln t)))=along eG ln r (some (eG v (ln t)),ws.set t (eG v (ln t)));rw[e];exact gp r (done++[ln t]) _ _ p2 (λx hx=>h20 x (GA _ hx)) (λu e=>by cases e;exact⟨hv.next hvl ht hk2,λx hx=>by rw[dE hvl];exact p1 x hx⟩) (λe=>by cases e) hk'
theorem e_{nx:List Nat->Nat->List Nat}:∀(a b:List Nat) (s:Option (List Nat)×List (List Nat)),along nx ln (a++b) s=along nx ln b (along nx ln a s)
 |[],_,_=>rfl
 |t::r,b,(a,ws)=>e_ r b _
theorem fR{nx:List Nat->Nat->List Nat}:∀(o:List Nat) (s:Option (List Nat)×List (List Nat)),(along nx ln o s).2.length=s.2.length
 |[],_=>rfl
 |t::r,(a,ws)=>(fR r _).trans HB
end Cw
local macro_rules | `(tactic| walk_at "lc") => `(tactic| first | exact Or.inl rfl | exact Or.inr rfl)
local macro_rules | `(tactic| wp_walk using $ts,*) => do
  let ids := ("Nat.reduceAdd Nat.reduceSub Nat.reduceLeDiff L2.Ap.pO L2.Ap.tC L2.Ap.tZ L2.Ap.DT L2.Ap.iF L2.Ap.Dh L2.Ap.ur L2.Ap.E1 L2.Ap.v8 L2.Ap.nQ L2.Ap.jy L2.Ap.iI L2.Ap.tK L2.Ap.xU L2.Ap.oh L2.Ap.i8 L2.Ap.vn L2.Ap.vj L2.Ap.gE L2.Ap.xG L2.Ap.CJ L2.Ap.vI L2.Ap.E2 L2.Ap.gL L2.Ap.oF L2.Ap.sT L2.Ap.lh L2.Ap.bq L2.Ap.vD L2.Ap.oH L2.Ap.fH L2.Ap.oE L2.Ap.wL L2.Ap.mP L2.Ap.lJ L2.Ap.nN L2.Ap.jZ L2.Ap.j_ L2.Ap.vH L2.Ap.mS zN uQ L2.Ap.rI L2.Ap.sZ L2.Ap.rU L2.Ap.An L2.Ap.DW L2.Ap.addRef L2.Ap.DO L2.Ap.Fi L2.Ap.xO L2.Ap.Fj L2.Ap.Fo L2.Ap.FG L2.Ap.fu L2.Ap.D_ L2.Ap.setRef L2.Ap.xx L2.Ap.BY L2.Ap.DU L2.Ap.FH L2.Ap.oN L2.Ap.CU L2.Ap.Dc L2.Ap.FF L2.Ap.BZ L2.Ap.yK L2.Ap.xM L2.start Bg yb Fq EX Bv List.map_cons List.map_nil List.length_cons List.length_nil List.replicate List.cons_append List.nil_append List.append_nil List.getElem?_cons_zero List.getElem?_cons_succ List.set_cons_zero List.set_cons_succ Option.some.injEq exists_eq_left exists_eq_left' V.int.injEq V.str.injEq V.bl.injEq V.ref.injEq List.cons.injEq and_true true_and decide_eq_true_eq Bool.not_eq_true' decide_eq_false_iff_not Bool.false_eq_true L2.Ap.ny L2.Ap.wa L2.Ap.wg L2.Ap.jo L2.Ap.mI L2.Ap.nW L2.Ap.nK L2.Ap.v9 L2.Ap.w_ L2.Ap.vM L2.Ap.i_ L2.Ap.iZ L2.Ap.jw L2.Ap.nr L2.Ap.xP L2.Ap.zo".splitOn " ").toArray.map λn => Lean.mkIdent n.toName
  `(tactic| simp only [↓reduceIte, $[$ids:ident],*, $[$ts:term],*])
local macro_rules | `(tactic| walk_at "rz") => `(tactic| wp_walk using and_self)
local macro_rules|`(tactic|rfl')=>`(tactic|wp_walk using and_self)
local macro_rules|`(tactic|symm)=>do
  let n:=Lean.mkIdent `N
  let h:=Lean.mkIdent `hN
  `(tactic|(refine $h _ ?_;clear $h $n;refine ao λ$n $h=>?_))
local macro_rules|`(tactic|ac_rfl)=>do
  let n:=Lean.mkIdent `N
  let h:=Lean.mkIdent `hN
  `(tactic|(refine $h _ ?_;clear $h $n))
local macro_rules|`(tactic|right)=>`(tactic|walk_at "lc")
local macro_rules|`(tactic|exists $ts,*)=>`(tactic|wp_walk using $ts,*)
local macro_rules|`(tactic|left)=>do
  let i:=#[`args,`Qt,`hl,`h,`f,`cdv,`A,`outer,`s,`H,`E,`hr].map Lean.mkIdent
  let u:=Lean.mkIdent `hu
  `(tactic|(intro $[$i:ident]*;have $u:ident:=aZ $(Lean.mkIdent `hr)))
noncomputable def wd(w:List Nat):Str:=⟨w.toArray⟩
theorem ay(w:List Nat):(wd w).length=w.length:=G4 ..
theorem wz{x:Str}{w:List Nat}(h:x.cps.toList=w):x=wd w:=by
 cases x with|mk a=>subst h;unfold wd;rw[Jb]
noncomputable def Ds:Sp:=λvs H Q _=>∃n:Nat,n<=40/\((vs=[.aQ,.int (n:Int)]/\Q (.str (wd (List.replicate n 48))) H)\/∃w,vs=[.str (wd w),.int (n:Int)]/\w.length<=40/\Q (.str (wd (Cw.dN w n))) H)
theorem tJ(T:Txt K mg)(F:HasFn K mg "word_behind" di ["ahead","length"]):aq P w K mg base bf 1 "word_behind" ["ahead","length"] Ds:=by
 refine F.fQ jD (λvs H Q E h=>?_) (λf cdv A outer s H vs Q E hr h=>?_)
 ·obtain⟨n,hn,⟨rfl,_⟩|⟨_,rfl,_⟩⟩:=h<;>rfl
 ·have hu:=aZ hr;obtain⟨n,hn,h⟩:=h;rcases h with ⟨rfl,q⟩|⟨v,rfl,hv,q⟩
  ·refine⟨_,(Z.ag (Z.cu (Z.aR cG (Z.v 0) Z.aQ) (Z.ar (Z.ret (Z.op Y.rJ Z.str (Z.v 1)))) Z.bj)
   (Z.ar (Z.ret (Z.bm K rfl PySem.F.plainAttrs_str PySem.F.slot_str_ljust PySem.F.type_str_ljust Y.mK (Z.op (Z.aP K rfl) (Z.slice Y.fi (Z.bm K rfl PySem.F.plainAttrs_str PySem.F.slot_str_rstrip PySem.F.type_str_rstrip Y.kl (Z.v 0) (Z.cons Z.str Z.nil)) Z.CS (Z.m6 (Z.un k_ Z.int))) Z.str) (Z.cons (Z.v 1) (Z.cons Z.str Z.nil)))))),?_⟩
   refine ao λN hN=>?_;walk_at "rz";refine⟨48,_,rfl,rfl,by lia,by lia,?_⟩
   rw[Hb];exact q
  ·refine⟨_,(Z.ag (Z.cu (Z.aR cG (Z.v 0) Z.aQ) (Z.ar (Z.ret (Z.op Y.rJ Z.str (Z.v 1)))) Z.bj)
   (Z.ar (Z.ret (Z.bm K rfl PySem.F.plainAttrs_str PySem.F.slot_str_ljust PySem.F.type_str_ljust Y.mK (Z.op (Z.aP K rfl) (Z.slice Y.fi (Z.bm K rfl PySem.F.plainAttrs_str PySem.F.slot_str_rstrip PySem.F.type_str_rstrip Y.kl (Z.v 0) (Z.cons Z.str Z.nil)) Z.CS (Z.m6 (Z.un k_ Z.int))) Z.str) (Z.cons (Z.v 1) (Z.cons Z.str Z.nil)))))),?_⟩
   refine ao λN hN=>?_;walk_at "rz";rw[hN];clear hN N;walk_at "rz";rw[Gn V.noConfusion];refine⟨rfl,wd v,_,rfl,rfl,by rw[ay];exact Gw hv (by decide),?_⟩
   have e0:(Str.ofString "1").cps.contains=λc:Nat=>c == 49:=by
    funext c
    show (#[49]:Array Nat).contains c=_;rw[Array.contains_eq_any_beq];simp
   have e1:=nH (wd v) (Str.ofString "1");rw[e0] at e1;have e2:(Txt.rstripChars (wd v) (Str.ofString "1")).cps.toList=(v.reverse.dropWhile (· == 49)).reverse:=by
    rw[<- I_ (Txt.rstripChars (wd v) (Str.ofString "1")).cps.toList,e1];rfl
   generalize Txt.rstripChars (wd v) (Str.ofString "1")=r at e2 ⊢;have hr2:r.length<=40:=by
    have:r.length=r.cps.toList.length:=by rw[Ha];rfl
    rw[this,e2,IE];exact Gw (Jv _).length_le (by rw[IE];exact hv)
   have e3:(Y.f_ r none (some (-1))).cps.toList=r.cps.toList.dropLast:=by
    show (Y.lI r.cps.toList none (some (-1))).toArray.toList=_;rw[JZ];unfold Y.lI;rw[HT.gI,HX,Lz,List.dropLast_eq_take];congr 1;show (if (-1:Int)<0 then ((-1:Int)+(r.cps.toList.length:Int)).toNat else min (-1:Int).toNat r.cps.toList.length)=_
    rw[Gp (by decide)]
    lia
   have hl3:(Y.f_ r none (some (-1))).length<=40:=by
    have:(Y.f_ r none (some (-1))).length=(Y.f_ r none (some (-1))).cps.toList.length:=by rw[Ha];rfl
    rw[this,e3,List.length_dropLast,Ha];exact Gw (Nat.sub_le _ _) hr2
   refine⟨r,rfl,Gw hr2 (by decide),?_⟩
   refine⟨Gw (show _<=41 from Nat.add_le_add_right hl3 1) (by decide),rfl,_,(n:Int),_,rfl,rfl,by lia,by lia,rfl,?_⟩
   have e4:Txt.ljustF (Y.f_ r none (some (-1))++Str.ofString "1") (n:Int) ((Str.ofString "0").cps.getD 0 0)=wd (Cw.dN v n):=by
    refine wz ?_;rw[PyProof.Rows.ljustF_list,Hb];have e5:(Y.f_ r none (some (-1))++Str.ofString "1").cps.toList=(v.reverse.dropWhile (· == 49)).reverse.dropLast++[49]:=by
     show ((Y.f_ r none (some (-1))).cps++#[49]).toList=_;rw[IF,e3,e2]
    have e6:(Y.f_ r none (some (-1))++Str.ofString "1").length=((v.reverse.dropWhile (· == 49)).reverse.dropLast++[49]).length:=by
     rw[<- e5,Ha];rfl
    rw[e5,e6];rfl
   rw[e4];exact q
theorem xV:Str.ofString ""=wd []:=rfl
theorem rS(z y:List Nat)(p:Nat)(hy:y≠[]):Y.ja (wd z) (wd y) (p:Int)=decide (y <+: z.drop p):=by
 have hl:0<y.length:=J_.mpr hy;unfold Y.ja;have e0:fromIndex (wd z).length (p:Int)=p:=by unfold fromIndex;rw[Gn (by lia)];lia
 rw[e0];have e:Builtin.Str.subAt (wd z) (wd y) p=decide ((z.drop p).take y.length=y):=by
  unfold Builtin.Str.subAt wd;rw[IJ,IW,IS,<- K8,Array.toList_extract,Kx];rw[show (⟨y.toArray⟩:Str).length=y.length from G4 ..];simp
 rw[e,IJ,Hv,IS,IS,IS,Jo,ay,ay];refine⟨λh=>h.2.symm,λh=>⟨?_,h.symm⟩⟩;have:=Hm List.length h;rw[GP,Hd] at this;lia
noncomputable def mx(ws:List (List Nat))(z:List Nat)(p:Nat):Option Nat:=(List.range ws.length).find? λi=>decide (ws.getD i [] <+: z.drop p)
theorem eL(h:mx ws z p=some t):t<ws.length/\ws.getD t [] <+: z.drop p:=by
 have h1:=List.mem_of_find?_eq_some h;have h2:=List.find?_some h;exact⟨HH.mp h1,Hr h2⟩
theorem vo(h:mx ws z p=none)(ht:t<ws.length):¬ ws.getD t [] <+: z.drop p:=λhp=>by
 have:=List.find?_eq_none.mp h t (HH.mpr ht);exact this (GX hp)
structure Pf (ws:List (List Nat)):Prop where
 ne:∀w∈ws,w≠[]
 pre:∀(i j:Nat) (hi:i<ws.length) (hj:j<ws.length),i≠j->¬ ws[i] <+: ws[j]
theorem Pf.th(h:Pf ws)(ht:t<ws.length)(hp:ws.getD t [] <+: z.drop p):mx ws z p=some t:=by
 cases c:mx ws z p with
 |none=>exact absurd hp (vo c ht)
 |some i =>
  obtain⟨hi,hpi⟩:=eL c;by_cases e:i=t
  ·rw[e]
  ·have g:∀{k:Nat} (hk:k<ws.length),ws.getD k []=ws[k]:=λhk=>by rw[Gy,Gm hk];rfl
   rw[g hi] at hpi;rw[g ht] at hp;rcases List.prefix_or_prefix_of_prefix hpi hp with q|q
   ·exact absurd q (h.pre i t hi ht e)
   ·exact absurd q (h.pre t i ht hi (Hy e))
theorem sC(n:Nat)(h:n<ws.length):(List.range' n (ws.length-n)).find? (λi=>decide (ws.getD i [] <+: z.drop p))=if ws[n] <+: z.drop p then some n else (List.range' (n+1) (ws.length-(n+1))).find? λi=>decide (ws.getD i [] <+: z.drop p):=by
 rw[show ws.length-n=(ws.length-(n+1))+1 by lia,Iy,Ia]
 rw[Gy,Gm h];show (match decide (ws[n] <+: z.drop p) with|true=>some n|false=>_)=_
 by_cases c:ws[n] <+: z.drop p
 ·rw[GX c,Gp c]
 ·rw[GH c,Gn c]
noncomputable def wV(ws:List (List Nat)):List V:=ws.map λw=>.str (wd w)
noncomputable def FE:Option Nat->V
 |none=>.aQ
 |some t=>.int (t:Int)
noncomputable def qM(K:LA):Sp:=λvs H Q _=>∃(a:Addr) (ws:List (List Nat)) (z:List Nat) (p:Nat),vs=[.ref a,.str (wd z),.int (p:Nat)]/\b8 K H a (wV ws)/\(∀w∈ws,w≠[])/\ws.length<=100/\z.length<=1000000/\∀H',KB [] H H'->Q (FE (mx ws z p)) H'
theorem xv(T:Txt K mg)(F:HasFn K mg "thing_at" fe ["code","bits","place"]):aq P w K mg base bf 1 "thing_at" ["code","bits","place"] (qM K):=by
 refine F.fQ fA (λvs H Q E h=>?_) (λf cdv A outer s H vs Q E hr h=>?_)
 ·obtain⟨a,ws,z,p,rfl,_⟩:=h;rfl
 ·have hu:=aZ hr;obtain⟨a,ws,z,p,rfl,ha,hne,h100,hz,q⟩:=h;refine⟨_,(Z.ag (Z.eS GQ rfl (Z.enum K rfl rfl T.fD (Z.cons (Z.v 0) Z.nil)) (Z.tm (n:=2) K rfl rfl (Z.cH (Z.bo (i:=3) fA.nd rfl (by right)) (Z.cH (Z.bo (i:=4) fA.nd rfl (by right)) Z.jn))) (Z.ar (Z.cu (Z.tw (Z.tV (Z.aR jG (Z.v 4) Z.str) (Z.kP (Z.ll K rfl (Z.bm K rfl PySem.F.plainAttrs_str PySem.F.slot_str_startswith PySem.F.type_str_startswith Y.qo (Z.v 1) (Z.cons (Z.v 4) (Z.cons (Z.v 2) Z.nil))))))) (Z.ar (Z.ret (Z.v 3))) Z.bj)))
   (Z.ar (Z.ret Z.aQ))),?_⟩
  refine ao λN hN=>?_;walk_at "rz";refine⟨⟨_,ha⟩,?_⟩;refine qe (xs:=wV ws) (λi σ H'=>KB [] H H'/\i<=ws.length/\(List.range' i (ws.length-i)).find? (λi=>decide (ws.getD i [] <+: z.drop p))=mx ws z p/\∃(s3 s4:Option V),σ=[some (.ref a),some (.str (wd z)),some (.int (p:Nat)),s3,s4]) ⟨KB.refl _ _,GF _,by unfold mx;rw[Ja];rfl,none,none,rfl⟩ ?_ ?_ ?_
  ·rintro i σ H' hi ⟨k,_⟩;exact EI ha k
  ·rintro i x σ H' b hx ⟨k,hi,ef,s3,s4,rfl⟩ hb;have hlt:i<ws.length:=by
    have:=(Gq.mp hx).1;unfold wV at this;rw[Gx] at this;exact this
   have ex:x=.str (wd ws[i]):=by
    unfold wV at hx;rw[G8,Gm hlt] at hx;exact (Option.some.inj hx).symm
   subst ex;refine⟨b,_,rfl,b8.of aa,rfl,?_⟩;have k1:KB [] H (upd H' b (.tup [.int i,.str (wd ws[i])])):=k.trans (KB.new hb);generalize upd H' b (.tup [.int i,.str (wd ws[i])])=H1 at k1;have h0:ws[i]≠[]:=hne _ (GL hlt);have hne':¬ wd ws[i]=Str.ofString "":=λe=>h0 (by rw[xV] at e;exact Hm (λs:Str=>s.cps.toList) e)
   rw[sC i hlt] at ef;walk_at "rz";rw[Gp hne'];refine⟨rfl,_,_,_,rfl,rfl,_,rfl,?_⟩;rw[rS z ws[i] p h0];by_cases c:ws[i] <+: z.drop p
   ·rw[Gp c] at ef;rw[<- ef] at q;rw[Gp (GX c)];exact q _ k1
   ·rw[Gn c] at ef;rw[Gn (by rw[GH c];exact Gz)]
    exact⟨k1,hlt,ef,_,_,rfl,rfl⟩
  ·rintro σ H' ⟨k,_,ef,s3,s4,rfl⟩;have e:(wV ws).length=ws.length:=Gx ..;rw[e,Io] at ef;have ef':mx ws z p=none:=ef.symm;rw[ef'] at q;show N _ _;rw[hN];clear hN N;walk_at "rz";exact q _ k
noncomputable def hU(ws:List (List Nat))(z:List Nat)(p:Nat):Option (Nat×Nat):=(mx ws z p).map λt=>(t,p+(ws.getD t []).length)
theorem eE{x:Nat×Nat}(hne:∀w∈ws,w≠[])(h:hU ws z p=some x):x.1<ws.length/\x.2=p+(ws.getD x.1 []).length/\p<x.2/\x.2<=z.length:=by
 unfold hU at h
 cases c:mx ws z p with
 |none=>rw[c] at h;cases h
 |some t =>
  rw[c] at h;cases h;obtain⟨h1,h2⟩:=eL c;have h3:=h2.length_le;rw[Hd] at h3;have h4:ws.getD t []≠[]:=by rw[Gy,Gm h1];exact hne _ (GL h1)
  have h5:=J_.mpr h4;exact⟨h1,rfl,by show p<p+_;lia,by show p+_<=_;lia⟩
noncomputable def CQ(H:Hp)(v:V):Option (Nat×Nat)->Prop
 |none=>v=.aQ
 |some x=>∃t,v=.ref t/\H t=some (.tup [.int (x.1:Nat),.int (x.2:Nat)])
noncomputable def gK(K:LA):Sp:=λvs H Q _=>∃(a:Addr) (ws:List (List Nat)) (z:List Nat) (p:Nat),vs=[.ref a,.str (wd z),.int (p:Nat)]/\b8 K H a (wV ws)/\(∀w∈ws,w≠[])/\ws.length<=100/\z.length<=1000000/\∀v H',KB [] H H'->CQ H' v (hU ws z p)->Q v H'
theorem vc(T:Txt K mg)(F:HasFn K mg "coded_at" fj ["code","bits","place"])(hthing_at:aq P w K mg base bf 1 "thing_at" ["code","bits","place"] (qM K)):aq P w K mg base bf 2 "coded_at" ["code","bits","place"] (gK K):=by
 refine F.fQ i9 (λvs H Q E h=>?_) (λf cdv A outer s H vs Q E hr h=>?_)
 ·obtain⟨a,ws,z,p,rfl,_⟩:=h;rfl
 ·have hu:=aZ hr;obtain⟨a,ws,z,p,rfl,ha,hne,h100,hz,q⟩:=h;refine⟨_,(Z.ag (Z.set (i:=3) i9.nd rfl (by right) (Z.fn hthing_at (hr.mono (by decide)) rfl au (Z.cons (Z.v 0) (Z.cons (Z.v 1) (Z.cons (Z.v 2) Z.nil)))))
   (Z.ar (Z.ret (Z.Ek (Z.aR cG (Z.v 3) Z.aQ) Z.aQ (Z.tup (Z.cons (Z.v 3) (Z.cons (Z.op (Z.aP K rfl) (Z.v 2) (Z.cb (Z.bK K rfl) rfl T.bB (by decide +kernel) (Z.cons (Z.ix (Z.nT K rfl) (Z.v 0) (Z.v 3)) Z.nil))) Z.nil))))))),?_⟩
  refine ao λN hN=>?_;walk_at "rz";refine⟨a,ws,z,p,rfl,ha,hne,h100,hz,λH1 k1=>?_⟩;rw[hN];clear hN N;have ha1:=EI ha k1;unfold hU at q
  cases c:mx ws z p with
  |none =>
   rw[c] at q;unfold FE;walk_at "rz";exact q _ _ k1 rfl
  |some t =>
   rw[c] at q;obtain⟨h1,h2⟩:=eL c;unfold FE;walk_at "rz";rw[Gn V.noConfusion];have h3:=h2.length_le;rw[Hd] at h3;refine⟨a,wV ws,_,.str (wd (ws.getD t [])),rfl,rfl,ha1,bI (by unfold wV;rw[G8,Gy,Gm h1];rfl),?_⟩
   walk_at "rz";rw[ay];refine⟨Gw (show _<=1000000 by lia) (by decide),by decide,λb hb=>q _ _ (k1.trans (KB.new hb)) ⟨b,rfl,?_⟩⟩
   rw[aa];rfl
noncomputable def dy(z:List Nat):Prop:=∀c∈z,c=48\/c=49
theorem dy.cut(h:dy z)(a n:Nat):dy ((z.drop a).take n):=λc hc=>h c (List.mem_of_mem_drop (List.mem_of_mem_take hc))
theorem qH(z:List Nat)(a b:Nat)(h1:a<=b)(h2:b<=z.length):Y.f_ (wd z) (some (a:Int)) (some (b:Int))=wd ((z.drop a).take (b-a)):=by
 unfold Y.f_ wd;congr 2;show Y.lI z (some (a:Int)) (some (b:Int))=_;unfold Y.lI;rw[HT.e7,HT.e7,JV h2,JV (Gw h1 h2)]
noncomputable def uN(ws:List (List Nat))(z:List Nat)(p:Nat):Option (Nat×Nat):=match hU ws z p with
 |none=>none
 |some x=>if x.1=0 then some x else if x.2+(x.1-1)<=z.length then some (eJ (49::(z.drop x.2).take (x.1-1)),x.2+(x.1-1)) else none
theorem zR(c:Nat)(w:List Nat):wd [c]++wd w=wd (c::w):=wz (by
 show (#[c]++w.toArray).toList=_;rw[IF];rfl)
noncomputable def r9(K:LA):Sp:=λvs H Q _=>∃(a:Addr) (ws:List (List Nat)) (z:List Nat) (p:Nat),vs=[.ref a,.str (wd z),.int (p:Nat)]/\b8 K H a (wV ws)/\(∀w∈ws,w≠[])/\ws.length<=20/\dy z/\z.length<=1000000/\∀v H',KB [] H H'->CQ H' v (uN ws z p)->Q v H'
theorem v7(T:Txt K mg)(F:HasFn K mg "number_at" d_ ["code","bits","place"])(hcoded_at:aq P w K mg base bf 2 "coded_at" ["code","bits","place"] (gK K)):aq P w K mg base bf 3 "number_at" ["code","bits","place"] (r9 K):=by
 refine F.fQ eY (λvs H Q E h=>?_) (λf cdv A outer s H vs Q E hr h=>?_)
 ·obtain⟨a,ws,z,p,rfl,_⟩:=h;rfl
 ·have hu:=aZ hr;obtain⟨a,ws,z,p,rfl,ha,hne,h20,hb,hz,q⟩:=h;refine⟨_,(Z.ag (Z.set (i:=3) eY.nd rfl (by right) (Z.fn hcoded_at (hr.mono (by decide)) rfl au (Z.cons (Z.v 0) (Z.cons (Z.v 1) (Z.cons (Z.v 2) Z.nil)))))
   (Z.ag (Z.cu (Z.tw (Z.ER (Z.aR cG (Z.v 3) Z.aQ) (Z.yN (Z.aR aO (Z.ix (Z.ax K rfl hu) (Z.v 3) Z.int) Z.int)))) (Z.ar (Z.ret (Z.v 3))) Z.bj)
   (Z.ag (Z.set (i:=4) eY.nd rfl (by right) (Z.op bO (Z.op (Z.aP K rfl) (Z.ix (Z.ax K rfl hu) (Z.v 3) Z.int) (Z.ix (Z.ax K rfl hu) (Z.v 3) Z.int)) Z.int))
   (Z.ag (Z.cu (Z.aR zY (Z.v 4) (Z.cb (Z.bK K rfl) rfl T.bB (by decide +kernel) (Z.cons (Z.v 1) Z.nil))) (Z.ar (Z.ret Z.aQ)) Z.bj)
   (Z.ar (Z.ret (Z.tup (Z.cons (Z.ct kO rfl T.ki (by decide +kernel) (Z.cons (Z.op (Z.aP K rfl) Z.str (Z.slice Y.fi (Z.v 1) (Z.m6 (Z.ix (Z.ax K rfl hu) (Z.v 3) Z.int)) (Z.m6 (Z.v 4)))) (Z.cons Z.int Z.nil))) (Z.cons (Z.v 4) Z.nil))))))))),?_⟩
  refine ao λN hN=>?_;walk_at "rz";refine⟨a,ws,z,p,rfl,ha,hne,by lia,hz,λv H1 k1 o1=>?_⟩
  rw[hN];clear hN N;refine ao λN hN=>?_;unfold uN at q
  cases c:hU ws z p with
  |none =>
   rw[c] at q o1;obtain rfl:v=.aQ:=o1;walk_at "rz";exact q _ _ k1 rfl
  |some x =>
   rw[c] at q o1;obtain⟨t,e⟩:=x;obtain⟨h1,_,h3,h4⟩:=eE hne c;obtain⟨b,rfl,hb1⟩:=o1;dsimp only at q h1 h3 h4 hb1;have sb:=aG hb1;have ne:¬ V.ref b=V.aQ:=V.noConfusion;have a0:bX [V.int (t:Int),V.int (e:Int)] 0=some (.int (t:Int)):=rfl;have a1:bX [V.int (t:Int),V.int (e:Int)] 1=some (.int (e:Int)):=rfl;walk_at "rz";simp only[sb,a0,a1,if_neg ne];walk_at "rz";by_cases c0:t=0
   ·subst c0;rw[Gp rfl] at q;rw[Gp (by rfl)]
    exact q _ _ k1 ⟨b,rfl,hb1⟩
   ·rw[Gn c0] at q;have ci:¬ ((t:Nat):Int)=0:=by lia
    rw[Gn ci,hN];clear hN N;refine ao λN hN=>?_;walk_at "rz";simp only[sb,a0,a1];walk_at "rz";have eb:(e:Int)+(t:Int)-1=((e+(t-1):Nat):Int):=by lia
    rw[eb,hN];clear hN N;refine ao λN hN=>?_;walk_at "rz";refine⟨by rw[ay];exact Gw hz (by decide),?_⟩
    rw[ay];by_cases cl:e+(t-1)<=z.length
    ·rw[Gp cl] at q;rw[Gn (by lia),hN];clear hN N
     walk_at "rz";simp only[sb,a0,a1];have hb2:=hb.cut e (t-1);have hll:((z.drop e).take (t-1)).length<=20:=by rw[GP];lia
     have hcl:(49::(z.drop e).take (t-1)).length<=21:=by rw[GC];lia
     refine⟨(e:Int),rfl,wd z,rfl,by rw[ay];exact Gw hz (by decide),?_⟩
     rw[qH z _ _ (by lia) cl,HI,show Str.ofString "1"=wd [49] from by decide +kernel]
     show _/\zX [.str (wd [49]++wd ((z.drop e).take (t-1))),.int 2] H1 _;rw[zR,ay,ay];refine⟨Gw (show _<=21 by rw[IT];lia) (by decide),_,rfl,by rw[ay];exact Gw hcl (by decide),λc hc=>?_,by simp[wd],by decide,λb2 hb2'=>?_⟩
     ·rcases Gv.mp (show c∈49::(z.drop e).take (t-1) from hc) with rfl|hc
      ·exact .inr rfl
      ·exact hb2 c hc
     ·exact q _ _ (k1.trans (KB.new hb2')) ⟨b2,rfl,by rw[aa];rfl⟩
    ·rw[Gn cl] at q;rw[Gp (by lia)]
     exact q _ _ k1 rfl
noncomputable def bT:Nat->List Nat
 |0=>[48]
 |1=>[49,48]
 |_=>[49,49]
noncomputable def ba:Nat->Nat
 |0=>4
 |1=>8
 |_=>16
noncomputable def dO(k:Nat):Int:=if k=0 then 8 else if k=1 then 128 else 32768
noncomputable def m4:List (List Nat):=[bT 0,bT 1,bT 2]
theorem kE{k:Nat}(h:k<3):k=0\/k=1\/k=2:=by lia
theorem pG:∀w∈m4,w≠[]:=by decide
theorem xc{k:Nat}(h:k<3):m4.getD k []=bT k:=by rcases kE h with rfl|rfl|rfl<;>rfl
noncomputable def Be(k n:Nat):Int:=if dO k<=(n:Int) then (n:Int)-2*dO k else (n:Int)
noncomputable def gA(z:List Nat)(p:Nat):Option (Int×Nat):=match hU m4 z p with
 |none=>none
 |some x=>if x.2+ba x.1<=z.length then some (Be x.1 (eJ ((z.drop x.2).take (ba x.1))),x.2+ba x.1) else none
theorem CV:[V.str (Str.ofString "0"),.str (Str.ofString "10"),.str (Str.ofString "11")]=wV m4:=by
 rw[show Str.ofString "0"=wd [48] from by decide +kernel,show Str.ofString "10"=wd [49,48] from by decide +kernel,show Str.ofString "11"=wd [49,49] from by decide +kernel]
 rfl
noncomputable def Ga(H:Hp)(v:V):Option (Int×Nat)->Prop
 |none=>v=.aQ
 |some x=>∃t,v=.ref t/\H t=some (.tup [.int ((x.2:Int)+x.1),.int (x.2:Nat)])
noncomputable def oo(K:LA):Sp:=λvs H Q _=>∃(z:List Nat) (p:Nat),vs=[.str (wd z),.int (p:Nat)]/\dy z/\z.length<=1000000/\∀v H',KB [] H H'->Ga H' v (gA z p)->Q v H'
theorem sP(T:Txt K mg)(F:HasFn K mg "goal_at" fV ["bits","place"])(hcoded_at:aq P w K mg base bf 2 "coded_at" ["code","bits","place"] (gK K)):aq P w K mg base bf 3 "goal_at" ["bits","place"] (oo K):=by
 refine F.fQ cV (λvs H Q E h=>?_) (λf cdv A outer s H vs Q E hr h=>?_)
 ·obtain⟨z,p,rfl,_⟩:=h;rfl
 ·have hu:=aZ hr;obtain⟨z,p,rfl,hb,hz,q⟩:=h;obtain⟨aE,hg_HEADS,sE⟩:=T.zL;obtain⟨aW,hg_WIDTHS,sW⟩:=T.uY;obtain⟨aV,hg_HALVES,sV⟩:=T.vg;have hr_HEADS:RelV (.ref aE) (.ref aE):=rfl;have hr_WIDTHS:RelV (.ref aW) (.ref aW):=rfl;have hr_HALVES:RelV (.ref aV) (.ref aV):=rfl;refine⟨_,(Z.ag (Z.set (i:=2) cV.nd rfl (by right) (Z.fn hcoded_at (hr.mono (by decide)) rfl au (Z.cons (Z.glob rfl hg_HEADS hr_HEADS) (Z.cons (Z.v 0) (Z.cons (Z.v 1) Z.nil)))))
   (Z.ag (Z.cu (Z.aR cG (Z.v 2) Z.aQ) (Z.ar (Z.ret Z.aQ)) Z.bj)
   (Z.ag (Z.set (i:=3) cV.nd rfl (by right) (Z.ix (Z.ax K rfl hu) (Z.v 2) Z.int))
   (Z.ag (Z.set (i:=4) cV.nd rfl (by right) (Z.op (Z.aP K rfl) (Z.ix (Z.ax K rfl hu) (Z.v 2) Z.int) (Z.ix (Z.nT K rfl) (Z.glob rfl hg_WIDTHS hr_WIDTHS) (Z.v 3))))
   (Z.ag (Z.cu (Z.aR zY (Z.v 4) (Z.cb (Z.bK K rfl) rfl T.bB (by decide +kernel) (Z.cons (Z.v 0) Z.nil))) (Z.ar (Z.ret Z.aQ)) Z.bj)
   (Z.ag (Z.set (i:=5) cV.nd rfl (by right) (Z.ct kO rfl T.ki (by decide +kernel) (Z.cons (Z.slice Y.fi (Z.v 0) (Z.m6 (Z.ix (Z.ax K rfl hu) (Z.v 2) Z.int)) (Z.m6 (Z.v 4))) (Z.cons Z.int Z.nil))))
   (Z.ag (Z.cu (Z.aR rh (Z.v 5) (Z.ix (Z.nT K rfl) (Z.glob rfl hg_HALVES hr_HALVES) (Z.v 3))) (Z.ar (Z.set (i:=5) cV.nd rfl (by right) (Z.op bO (Z.v 5) (Z.op bN Z.int (Z.ix (Z.nT K rfl) (Z.glob rfl hg_HALVES hr_HALVES) (Z.v 3)))))) Z.bj)
   (Z.ar (Z.ret (Z.tup (Z.cons (Z.op (Z.aP K rfl) (Z.v 4) (Z.v 5)) (Z.cons (Z.v 4) Z.nil)))))))))))),?_⟩
  refine ao λN hN=>?_;walk_at "rz";refine⟨aE,m4,z,p,rfl,by rw[<- CV];exact sE H,pG,by decide,hz,λv H1 k1 o1=>?_⟩
  rw[hN];clear hN N;refine ao λN hN=>?_;unfold gA at q
  cases c:hU m4 z p with
  |none =>
   rw[c] at q o1;obtain rfl:v=.aQ:=o1;walk_at "rz";exact q _ _ k1 rfl
  |some x =>
   rw[c] at q o1;obtain⟨k,e⟩:=x;obtain⟨h1,_,h3,h4⟩:=eE pG c;obtain⟨b,rfl,hb1⟩:=o1;dsimp only at q h1 h3 h4 hb1;have hk:k<3:=h1;have sb:=aG hb1;have ne:¬ V.ref b=V.aQ:=V.noConfusion;have a0:bX [V.int (k:Int),V.int (e:Int)] 0=some (.int (k:Int)):=rfl;have a1:bX [V.int (k:Int),V.int (e:Int)] 1=some (.int (e:Int)):=rfl;walk_at "rz";rw[if_neg ne,hN];clear hN N;refine ao λN hN=>?_;walk_at "rz";simp only[sb,a0,a1];rw[hN];clear hN N;refine ao λN hN=>?_;walk_at "rz";simp only[sb,a0,a1];have aw:bX [V.int 4,.int 8,.int 16] (k:Int)=some (.int (ba k:Nat)):=by rcases kE hk with rfl|rfl|rfl<;>rfl
   have ah:bX [V.int 8,.int 128,.int 32768] (k:Int)=some (.int (dO k)):=by rcases kE hk with rfl|rfl|rfl<;>rfl
   have h16:ba k<=16/\0<ba k:=by rcases kE hk with rfl|rfl|rfl<;>decide
   refine⟨aW,_,_,_,rfl,rfl,sW H1,aw,?_⟩;show N [_,_,_,_,some (V.int ((e:Int)+(ba k:Nat))),none] H1;rw[show (e:Int)+(ba k:Nat)=((e+ba k:Nat):Int) by lia,hN];clear hN N
   refine ao λN hN=>?_;walk_at "rz";refine⟨by rw[ay];exact Gw hz (by decide),?_⟩
   rw[ay];by_cases cl:e+ba k<=z.length
   ·rw[Gp cl] at q;rw[Gn (by lia),hN];clear hN N
    refine ao λN hN=>?_;walk_at "rz";simp only[sb,a0,a1];have hb2:=hb.cut e (ba k);have hl2:((z.drop e).take (ba k)).length=ba k:=by rw[GP,Hd];lia
    refine⟨(e:Int),rfl,wd z,rfl,by rw[ay];exact Gw hz (by decide),?_⟩
    rw[qH z _ _ (by lia) cl,HI]
    refine⟨_,rfl,by rw[ay,hl2];lia,hb2,λe0=>by have e1:(z.drop e).take (ba k)=[]:=e0;rw[e1] at hl2;simp at hl2;lia,?_⟩
    rw[show (wd ((z.drop e).take (ba k))).cps.toList=(z.drop e).take (ba k) from rfl];generalize eJ ((z.drop e).take (ba k))=n at *;unfold Be at q;show N _ _;rw[hN];clear hN N;refine ao λN hN=>?_;walk_at "rz";refine⟨aV,_,_,_,rfl,rfl,sV H1,ah,_,_,rfl,rfl,_,rfl,?_⟩;have fin:∀d:Int,d=(if dO k<=(n:Int) then (n:Int)-2*dO k else (n:Int))->N [some (.str (wd z)),some (.int (p:Nat)),some (.ref b),some (.int (k:Nat)),some (.int ((e+ba k:Nat):Int)),some (.int d)] H1:=λd ed=>by
     rw[hN];clear hN N;walk_at "rz";refine⟨by decide,λb2 hb2'=>q _ _ (k1.trans (KB.new hb2')) ⟨b2,rfl,?_⟩⟩
     rw[aa,ed]
    by_cases ch:dO k<=(n:Int)
    ·rw[Gp (GX ch)];refine⟨aV,_,_,_,rfl,rfl,sV H1,ah,?_⟩;exact⟨.inl (by decide),_,_,rfl,rfl,fin _ (by rw[Gp ch])⟩
    ·rw[Gn (by rw[GH ch];exact Gz)]
     exact fin _ (by rw[Gn ch])
   ·rw[Gn cl] at q;rw[Gp (by lia)]
    exact q _ _ k1 rfl
theorem mM(u:_root_.Fin 2):u=0\/u=1:=by revert u;decide
theorem yu(u:_root_.Fin 3):u=0\/u=1\/u=2:=by revert u;decide
theorem Bp{b:Nat}(h:b<8):b=0\/b=1\/b=2\/b=3\/b=4\/b=5\/b=6\/b=7:=by lia
theorem Df{l:List α}(h:l.length=8):∃a b c d e f g i,l=[a,b,c,d,e,f,g,i]:=by
 rcases l with _|⟨a,_|⟨b,_|⟨c,_|⟨d,_|⟨e,_|⟨f,_|⟨g,_|⟨i,_|⟨j,l⟩⟩⟩⟩⟩⟩⟩⟩⟩<;>first|exact⟨_,_,_,_,_,_,_,_,rfl⟩ | (exfalso;revert h;simp)
inductive Row where
 |put (b n:Nat)|two (w:Fin 3) (a b:Nat)|one (w:Fin 2) (b:Nat)|jump (g:Nat)|zero (b g:Nat)|halt
 deriving DecidableEq
noncomputable def bW(i:Nat):Str:=⟨#[97+i]⟩
noncomputable def w2:Fin 3->Str
 |0=>"add"
 |1=>"sub"
 |2=>"copy"
noncomputable def w1:Fin 2->Str
 |0=>"tell"
 |1=>"hear"
inductive ET where
 |s (z:Str)|n (k:Nat)
noncomputable def Row.ps:Row->List ET
 |.put b n=>[.s "put",.s (bW b),.n n]
 |.two w a b=>[.s (w2 w),.s (bW a),.s (bW b)]
 |.one w b=>[.s (w1 w),.s (bW b)]
 |.jump g=>[.s "jump",.n g]
 |.zero b g=>[.s "zero",.s (bW b),.n g]
 |.halt=>[.s "halt"]
noncomputable def Row.Ok(size:Nat):Row->Prop
 |.put b n=>b<8/\n<65536
 |.two _ a b=>a<8/\b<8
 |.one _ b=>b<8
 |.jump g=>g<=size
 |.zero b g=>b<8/\g<=size
 |.halt=>True
theorem Row.Ok.mono{a b:Nat}{r:Row}(h:r.Ok a)(hm:a<=b):r.Ok b:=by
 cases r<;>simp only[Row.Ok] at h ⊢<;>lia
theorem vy{k:Int}(h0:0<=k)(h1:k<8):bX (Str.ofString "abcdefgh").cps.toList k=some (97+k.toNat):=by
 have e:(Str.ofString "abcdefgh").cps.toList=[97,98,99,100,101,102,103,104]:=by decide +kernel
 rw[e];obtain⟨n,rfl⟩:∃n:Nat,k=n:=⟨k.toNat,by lia⟩
 unfold bX lM;have hn:n<8:=by lia
 rw[Gp (by lia),Gp (by simp;lia)]
 show [97,98,99,100,101,102,103,104][((n:Nat):Int).toNat]?=some (97+((n:Nat):Int).toNat);rw[Hb];rcases Bp hn with rfl|rfl|rfl|rfl|rfl|rfl|rfl|rfl<;>rfl
noncomputable def aT(ls:List Int)(t:Nat):Nat:=(ls.getD t 0).toNat
noncomputable def aH(ls:List Int):List Nat:=iK ls (List.range ls.length)
noncomputable def wordsOf(nx:List Nat->Nat->List Nat)(ls:List Int):List (List Nat):=(Cw.along nx (aT ls) (aH ls) (none,List.replicate ls.length [])).2
noncomputable def eW(ls:List Int)(done:List Nat):Option (List Nat)×List (List Nat):=Cw.along Cw.dN (aT ls) done (none,List.replicate ls.length [])
theorem qZ{v:List Nat}{n:Nat}(hv:v.length<=40)(hn:n<=40):(Cw.dN v n).length<=40:=by
 have h1:((v.reverse.dropWhile (· == 49)).reverse.dropLast).length<=39:=by
  rw[List.length_dropLast,IE];have:=(Jv (· == 49) (l:=v.reverse)).length_le;rw[IE] at this;lia
 unfold Cw.dN Cw.pad;rw[Gr,G9,Gr,IT];lia
theorem gP(h:t∈aH ls):t<ls.length:=HH.mp ((jI (by rw[Hc])).mem_iff.mp h)
theorem Ci(ls:List Int)(done:List Nat):(eW ls done).2.length=ls.length:=by
 unfold eW;rw[Cw.fR,G9]
namespace Cw
noncomputable def Dv(a b:List Nat):Prop:=∃u,u++[48] <+: a/\u++[49] <+: b
theorem mW{u v:List Nat}{c d:Nat}(h1:u++[c] <+: b)(h2:v++[d] <+: b)(hl:u.length<v.length):u++[c] <+: v:=by
 have h3:v <+: b:=(Km v [d]).trans h2;exact IG h1 h3 (by rw[Gr];exact hl)
theorem Dv.trans{c:List Nat}(h:Dv a b)(g:Dv b c):Dv a c:=by
 obtain⟨u,h1,h2⟩:=h;obtain⟨v,g1,g2⟩:=g;rcases Nat.lt_trichotomy u.length v.length with e|e|e
 ·exact⟨u,h1,(mW h2 g1 e).trans ((Km v [49]).trans g2)⟩
 ·have p1:(u++[49]).length=(v++[48]).length:=by rw[Gr,Gr,e];rfl
  have p2:u++[49]=v++[48]:=(IG h2 g1 (by lia)).eq_of_length p1
  have p3:[49]=[48]:=(List.append_inj' p2 rfl).2;exact absurd p3 (by decide)
 ·exact⟨v,(mW g1 h2 e).trans ((Km u [48]).trans h1),g2⟩
theorem Dv.not(h:Dv a b):¬ a <+: b/\¬ b <+: a:=by
 obtain⟨u,h1,h2⟩:=h;have key:∀c,u++[48] <+: c->u++[49] <+: c->False:=λc p q=>by
  have e:u++[48]=u++[49]:=(IG p q (by simp)).eq_of_length (by simp)
  exact absurd (List.append_cancel_left e) (by decide)
 exact⟨λp=>key b (h1.trans p) h2,λp=>key a h1 (h2.trans p)⟩
theorem Dv.lt(h:Dv a b):a<b:=by
 obtain⟨u,⟨x,rfl⟩,⟨y,rfl⟩⟩:=h
 induction u with
 |nil=>exact List.Lex.rel (by decide)
 |cons c u ih=>exact List.Lex.cons ih
theorem zb{w:List Nat}{n:Nat}(hb:∀c∈w,c=48\/c=49)(h:w.all (· == 49)=false):Dv w (eG w n):=by
 obtain⟨p,k,rfl⟩:=parts hb h;unfold eG pad;rw[fX];exact⟨p,⟨List.replicate k 49,by simp⟩,⟨List.replicate k 48++List.replicate (n-(p++49::List.replicate k 48).length) 48,by simp⟩⟩
noncomputable def jJ(ln:Nat->Nat)(a:Option (List Nat))(t:Nat):List Nat:=match a with
 |none=>List.replicate (ln t) 48
 |some v=>dN v (ln t)
noncomputable def j0(ln:Nat->Nat):Option (List Nat)->List Nat->List (List Nat)
 |_,[]=>[]
 |a,t::r=>jJ ln a t::j0 ln (some (jJ ln a t)) r
theorem xh:∀(order done:List Nat) (a:Option (List Nat)),(order.Pairwise λi j=>ln i<=ln j)->(∀t∈order,ln t<=40)->(∀v,a=some v->gq done v/\∀t∈order,v.length<=ln t)->(a=none->done=[])->Kr.ks 40 (done++order.map ln)<=2^40 ->
  (∀v,a=some v->∀x∈j0 ln a order,Dv v x)/\(j0 ln a order).Pairwise Dv/\∀(i t:Nat),order[i]?=some t->∃w,(j0 ln a order)[i]?=some w/\w.length=ln t
 |[],_,_,_,_,_,_,_=>⟨λ_ _ x hx=>(by cases hx),List.Pairwise.nil,λi t e=>(by cases e)⟩
 |t::r,done,a,hp,h40,ha,hn,hk=>by
  obtain⟨p1,p2⟩:=GY.mp hp;have ht:=h40 t GB;have hk':Kr.ks 40 ((done++[ln t])++r.map ln)<=2^40:=by rw[GS];exact hk
  have fin:∀w:List Nat,w=jJ ln a t->gq (done++[ln t]) w->w.length=ln t->(∀v,a=some v->Dv v w) ->
    (∀v,a=some v->∀x∈j0 ln a (t::r),Dv v x)/\(j0 ln a (t::r)).Pairwise Dv/\∀(i s:Nat),(t::r)[i]?=some s->∃w,(j0 ln a (t::r))[i]?=some w/\w.length=ln s:=λw ew hH hl hd=>by
   obtain⟨q1,q2,q3⟩:=xh r (done++[ln t]) (some w) p2 (λx hx=>h40 x (GA _ hx)) (λv e=>by cases e;exact⟨hH,λx hx=>by rw[hl];exact p1 x hx⟩) (λe=>by cases e) hk'
   have es:j0 ln a (t::r)=w::j0 ln (some w) r:=by rw[ew];rfl
   rw[es];refine⟨λv e x hx=>?_,GY.mpr ⟨λx hx=>q1 w rfl x hx,q2⟩,λi s e=>?_⟩
   ·rcases Gv.mp hx with rfl|hx
    ·exact hd v e
    ·exact (hd v e).trans (q1 w rfl x hx)
   ·cases i with
    |zero=>cases e;exact⟨w,rfl,hl⟩
    |succ i=>exact q3 i s (by simpa using e)
  cases a with
  |none =>
   have:=hn rfl;subst this;exact fin _ rfl (gq.first ht) (show (List.replicate (ln t) 48).length=ln t by rw[G9]) (λv e=>by cases e)
  |some v =>
   obtain⟨hv,hl⟩:=ha v rfl;have hvl:=hl t GB;have hk2:Kr.ks 40 done+2^(40-ln t)<=2^40:=by
    rw[Kr.cy,Kr.cy] at hk';simp[Kr.ks] at hk'
    omega
   have z:=hv.zero (rest:=[]) hk2;have e:=kq hv.bits z hvl;refine fin _ rfl ?_ ?_ ?_
   ·show gq _ (dN v (ln t));rw[e];exact hv.next hvl ht hk2
   ·show (dN v (ln t)).length=_;rw[e];exact dE hvl
   ·intro u eu;cases eu;show Dv v (dN v (ln t));rw[e];exact zb hv.bits z
theorem nO:∀(order:List Nat) (a:Option (List Nat)) (ws:List (List Nat)),order.Nodup->(∀t∈order,t<ws.length)->(∀(i t:Nat),order[i]?=some t->(along dN ln order (a,ws)).2[t]?=(j0 ln a order)[i]?)/\∀t,t∉order->(along dN ln order (a,ws)).2[t]?=ws[t]?
 |[],_,_,_,_=>⟨λi t e=>(by cases e),λ_ _=>rfl⟩
 |t::r,a,ws,hn,hl=>by
  obtain⟨n1,n2⟩:=IK.mp hn;have ht:=hl t GB;have ea:along dN ln (t::r) (a,ws)=along dN ln r (some (jJ ln a t),ws.set t (jJ ln a t)):=by cases a<;>rfl
  rw[ea];obtain⟨q1,q2⟩:=nO r (some (jJ ln a t)) (ws.set t (jJ ln a t)) n2 (λx hx=>by rw[HB];exact hl x (GA _ hx))
  refine⟨λi s e=>?_,λs hs=>?_⟩
  ·cases i with
   |zero =>
    cases e;exact (q2 t n1).trans (by rw[IP ht];rfl)
   |succ i=>exact q1 i s (by simpa using e)
  ·have h1:s≠t:=λz=>hs (by rw[z];exact GB)
   have h2:s∉r:=λz=>hs (GA _ z);exact (q2 s h2).trans (by rw[JI (Hy h1)])
noncomputable def Lx(p q:Int×Nat):Prop:=p.1<q.1\/(p.1=q.1/\p.2<q.2)
theorem xf{p:Int×Nat}:∀{l:List (Int×Nat)},l.Pairwise Lx->(∀q∈l,p.2<q.2)->(gU p l).Pairwise Lx
 |[],_,_=>KN _ _
 |q::r,h,hp=>by
  obtain⟨h1,h2⟩:=GY.mp h;have hq:=hp q GB;unfold gU;split
  ·rename_i c;refine GY.mpr ⟨λz hz=>?_,h⟩;have hz2:=hp z hz;have:q.1<=z.1:=by
    rcases Gv.mp hz with rfl|hz
    ·exact Lb _
    ·have:=h1 z hz;unfold Lx at this;omega
   unfold Lx;omega
  ·rename_i c;refine GY.mpr ⟨λz hz=>?_,xf h2 λz hz=>hp z (GA _ hz)⟩;rcases Gv.mp ((fO p r).mem_iff.mp hz) with rfl|hz
   ·unfold Lx;omega
   ·exact h1 z hz
theorem qW:∀{l:List (Int×Nat)},(l.Pairwise λp q=>p.2<q.2)->(ee l).Pairwise Lx
 |[],_=>.nil
 |p::r,h=>by
  obtain⟨h1,h2⟩:=GY.mp h;exact xf (qW h2) λq hq=>h1 q ((dQ r).mem_iff.mp hq)
end Cw
structure Canon (ls:List Int) (W:List (List Nat)):Prop where
 len:W.length=ls.length
 Dl:∀t,t<ls.length->(W.getD t []).length=aT ls t
 part:∀s t,s<ls.length->t<ls.length->(ls.getD s 0<ls.getD t 0\/(ls.getD s 0=ls.getD t 0/\s<t))->Cw.Dv (W.getD s []) (W.getD t [])
theorem ke(ls:List Int):ls.zip (List.range ls.length)=(List.range ls.length).map λt=>(ls.getD t 0,t):=by
 apply IB
 ·simp
 ·intro i h1 h2;simp at h1;simp[h1]
theorem canon(hL:jE ls)(hk:KS ls<=2^40):Canon ls (wordsOf Cw.dN ls):=by
 have hS:(Cw.Lx · ·)=(Cw.Lx · ·):=rfl;have hlx:(ee (ls.zip (List.range ls.length))).Pairwise Cw.Lx:=by
  refine Cw.qW ?_;rw[ke];exact Iv.mpr Ju
 have hmem:∀p∈ee (ls.zip (List.range ls.length)),p.1=ls.getD p.2 0/\p.2<ls.length:=λp hp=>by
  have:=(dQ _).mem_iff.mp hp;rw[ke] at this;obtain⟨t,ht,rfl⟩:=HP.mp this;exact⟨rfl,HH.mp ht⟩
 have hord:(aH ls).Pairwise λs t=>ls.getD s 0<ls.getD t 0\/(ls.getD s 0=ls.getD t 0/\s<t):=by
  unfold aH iK;refine Iv.mpr (hlx.imp_of_mem λ{p q} hp hq h=>?_);rw[<- (hmem p hp).1,<- (hmem q hq).1];exact h
 have hperm:(aH ls).Perm (List.range ls.length):=jI (by rw[Hc])
 have hnd:(aH ls).Nodup:=hperm.nodup_iff.mpr List.nodup_range;have hb:∀t,t<ls.length->1<=ls.getD t 0/\ls.getD t 0<=40:=λt ht=>by
  rw[Gy,Gm ht];have:=hL.2.2 _ (GL ht);show 1<=ls[t]/\ls[t]<=40;lia
 have hmm:∀t∈aH ls,t<ls.length:=λt ht=>gP ht;have hks:Kr.ks 40 ([]++(aH ls).map (aT ls))<=2^40:=by
  rw[HC,Kr.gR (hperm.map (aT ls))];have e:(List.range ls.length).map (aT ls)=ls.map Int.toNat:=by
   apply IB
   ·simp
   ·intro i h1 h2;simp at h1;simp[aT,h1]
  rw[e];exact hk
 obtain⟨_,q2,q3⟩:=Cw.xh (ln:=aT ls) (aH ls) [] none (hord.imp_of_mem λ{s t} hs ht h=>by
  have:=hb s (hmm s hs);have:=hb t (hmm t ht);unfold aT;omega) (λt ht=>by have:=hb t (hmm t ht);unfold aT;omega) (λv e=>by cases e) (λ_=>rfl) hks
 obtain⟨a1,_⟩:=Cw.nO (ln:=aT ls) (aH ls) none (List.replicate ls.length []) hnd (λt ht=>by rw[G9];exact hmm t ht)
 have hat:∀t,t<ls.length->∃i w,(aH ls)[i]?=some t/\(Cw.j0 (aT ls) none (aH ls))[i]?=some w/\w.length=aT ls t/\(wordsOf Cw.dN ls).getD t []=w:=λt ht=>by
  obtain⟨i,hi⟩:=JF.mp (hperm.mem_iff.mpr (HH.mpr ht));obtain⟨w,hw,hl⟩:=q3 i t hi;refine⟨i,w,hi,hw,hl,?_⟩;unfold wordsOf;rw[Gy,a1 i t hi,hw];rfl
 refine⟨?_,λt ht=>?_,λs t hs ht h=>?_⟩
 ·unfold wordsOf;rw[Cw.fR,G9]
 ·obtain⟨i,w,_,_,hl,e⟩:=hat t ht;rw[e];exact hl
 ·obtain⟨i,w,h1,h2,_,e⟩:=hat s hs;obtain⟨j,v,g1,g2,_,e'⟩:=hat t ht;rw[e,e'];obtain⟨hi,rfl⟩:=Gq.mp h2;obtain⟨hj,rfl⟩:=Gq.mp g2;obtain⟨hi',ei⟩:=Gq.mp h1;obtain⟨hj',ej⟩:=Gq.mp g1;have hij:i<j:=by
   rcases Nat.lt_trichotomy i j with c|c|c
   ·exact c
   ·subst c;have est:s=t:=ei.symm.trans ej;subst est
    exfalso;omega
   ·have:=HZ.mp hord j i hj' hi' c;rw[ei,ej] at this
    exfalso;omega
  exact HZ.mp q2 i j hi hj hij
noncomputable def dg(n:Int):Nat:=48+(n % 2).toNat
noncomputable def d7:Int->Nat->List Nat->List Nat
 |_,0,acc=>acc
 |n,k+1,acc=>d7 (n / 2) k (dg n::acc)
theorem fW:∀(k:Nat) (n:Int) (acc:List Nat),(d7 n k acc).length=k+acc.length
 |0,_,_=>by rw[d7,L0]
 |k+1,n,acc=>by rw[d7,fW k,GC];lia
theorem BL(n:Int):dg n=48\/dg n=49:=by
 unfold dg;have:n % 2=0\/n % 2=1:=by lia
 rcases this with e|e<;>rw[e]
 ·exact .inl rfl
 ·exact .inr rfl
theorem gw:∀(k:Nat) (n:Int) (acc:List Nat),(∀c∈acc,c=48\/c=49)->∀c∈d7 n k acc,c=48\/c=49
 |0,_,_,h=>h
 |k+1,n,acc,h=>gw k (n / 2) (dg n::acc) λc hc=>by
  rcases Gv.mp hc with rfl|hc
  ·exact BL n
  ·exact h c hc
theorem Eg(n:Int):bX (Str.ofString "01").cps.toList (n % 2)=some (dg n):=by
 have:n % 2=0\/n % 2=1:=by lia
 unfold dg;rcases this with e|e<;>rw[e]
 ·exact (by decide +kernel)
 ·exact (by decide +kernel)
theorem eB(a b:List Nat):wd a++wd b=wd (a++b):=by
 apply wz;show (a.toArray++b.toArray).toList=_;simp
theorem kX:Str.ofString ""=wd []:=by decide +kernel
noncomputable def fw(n:Nat):Nat:=Builtin.Int.intBits (n:Int)
noncomputable def j3(n:Nat):List Nat:=d7 (n:Int) (fw n) []
theorem me{n:Nat}(h:n<65536):fw n<17:=by
 unfold fw Builtin.Int.intBits;split
 ·decide
 ·rename_i hz;have h0:n≠0:=λz=>hz (by rw[z];rfl)
  show (n:Int).natAbs.log2+1<17;rw[Int.natAbs_natCast];have:=(Nat.log2_lt (n:=n) (k:=16) h0).mpr (by lia)
  lia
noncomputable def Row.wi:Row->Nat
 |.put _ _=>0
 |.two u _ _=>1+u
 |.one u _=>4+u
 |.jump _=>6
 |.zero _ _=>7
 |.halt=>8
theorem Row.xn(r:Row):r.wi<9:=by
 cases r with
 |two u a b=>exact (by decide:∀u:_root_.Fin 3,1+(u:Nat)<9) u
 |one u b=>exact (by decide:∀u:_root_.Fin 2,4+(u:Nat)<9) u
 |put b n=>exact (by decide:0<9)
 |jump g=>exact (by decide:6<9)
 |zero b g=>exact (by decide:7<9)
 |halt=>exact (by decide:8<9)
inductive Pk where
 |box (b:Nat)|num (n:Nat)|goal (g:Nat)
noncomputable def Pk.kd:Pk->Str
 |.box _=>"box"
 |.num _=>"number"
 |.goal _=>"goal"
noncomputable def Pk.Ok:Pk->Prop
 |.box b=>b<8
 |.num n=>n<65536
 |.goal _=>True
noncomputable def Pk.Fu:Pk->List (Nat×Nat)
 |.box b=>[(2,b)]
 |.num n=>[(1,fw n)]
 |.goal _=>[]
noncomputable def Row.wd:Row->Str
 |.put _ _=>"put"
 |.two u _ _=>w2 u
 |.one u _=>w1 u
 |.jump _=>"jump"
 |.zero _ _=>"zero"
 |.halt=>"halt"
noncomputable def Row.g9:Row->List Pk
 |.put b n=>[.box b,.num n]
 |.two _ a b=>[.box a,.box b]
 |.one _ b=>[.box b]
 |.jump g=>[.goal g]
 |.zero b g=>[.box b,.goal g]
 |.halt=>[]
theorem Row.wc{r:Row}{k:Nat}(h:r.Ok k):∀p∈r.g9,p.Ok:=by
 cases r with
 |put b n=>simp only[Row.g9,Gv,GG,Hj];exactλp z=>z.elim (λe=>e ▸ h.1) λe=>e ▸ h.2
 |two u a b=>simp only[Row.g9,Gv,GG,Hj];exactλp z=>z.elim (λe=>e ▸ h.1) λe=>e ▸ h.2
 |one u b=>simp only[Row.g9,Gv,GG,Hj];rintro p rfl;exact h
 |jump g=>simp only[Row.g9,Gv,GG,Hj];rintro p rfl;exact trivial
 |zero b g=>simp only[Row.g9,Gv,GG,Hj];exactλp z=>z.elim (λe=>e ▸ h.1) λe=>e ▸ trivial
 |halt=>simp[Row.g9]
noncomputable def oA(r:Row):List (Nat×Nat):=(0,r.wi)::r.g9.flatMap Pk.Fu
noncomputable def bz:List Str:=["put","add","sub","copy","tell","hear","jump","zero","halt"]
theorem Ep:∀k,k<9->∀m,m<k->bz[m]?≠bz[k]?:=by decide +kernel
theorem z_(r:Row):bz[r.wi]?=some r.wd/\∀m,m<r.wi->bz[m]?≠some r.wd:=by
 have h1:bz[r.wi]?=some r.wd:=by
  cases r with
  |two u a b=>exact (by decide +kernel:∀u:_root_.Fin 3,bz[1+(u:Nat)]?=some (w2 u)) u
  |one u b=>exact (by decide +kernel:∀u:_root_.Fin 2,bz[4+(u:Nat)]?=some (w1 u)) u
  |put b n=>rfl
  |jump g=>rfl
  |zero b g=>rfl
  |halt=>rfl
 exact⟨h1,λm hm=>by rw[<- h1];exact Ep _ r.xn m hm⟩
theorem rX{b:Nat}(h:b<8):Builtin.Str.occurrences (Str.ofString "abcdefgh") (bW b) 0 (Str.ofString "abcdefgh").length 1=[b]:=by
 rcases Bp h with rfl|rfl|rfl|rfl|rfl|rfl|rfl|rfl<;>decide +kernel
noncomputable def de:List (Str×List Str):=[("put",["box","number"]),("add",["box","box"]),("sub",["box","box"]),("copy",["box","box"]),("tell",["box"]),("hear",["box"]),("jump",["goal"]),("zero",["box","goal"]),("halt",[])]
noncomputable def DN:List Str:=["a","b","c","d","e","f","g","h"]
theorem A_{b:Nat}(h:b<8):DN[b]?=some (bW b)/\∀m,m<b->DN[m]?≠some (bW b):=(by decide +kernel:∀b,b<8->DN[b]?=some (bW b)/\∀m,m<b->DN[m]?≠some (bW b)) b h
theorem jm:∀(o:List Nat) (a:Option (List Nat)) (ws:List (List Nat)),(∀t∈o,ln t<=40)->(∀v,a=some v->v.length<=40)->(∀x∈ws,x.length<=40)->∀x∈(Cw.along Cw.dN ln o (a,ws)).2,x.length<=40
 |[],_,_,_,_,h=>h
 |t::o,a,ws,ho,ha,hw=>by
  have ht:=ho t GB;have h2:=λt h=>ho t (GA _ h)
  cases a with
  |none =>
   refine jm o (some (List.replicate (ln t) 48)) _ h2 (λv e=>by cases e;rw[G9];exact ht) λx hx=>?_
   rcases HD hx with z|z
   ·exact hw x z
   ·rw[z,G9];exact ht
  |some v =>
   have hv:=qZ (ha v rfl) ht;refine jm o (some (Cw.dN v (ln t))) _ h2 (λv e=>by cases e;exact hv) λx hx=>?_
   rcases HD hx with z|z
   ·exact hw x z
   ·rw[z];exact hv
theorem uq(hL:jE ls):∀x∈wordsOf Cw.dN ls,x.length<=40:=by
 refine jm _ _ _ (λt ht=>?_) (λv e=>by cases e) λx hx=>by rw[(HG.mp hx).2];decide
 have h:=gP ht;have:=hL.2.2 _ (GL h);unfold aT;rw[Gy,Gm h];show ls[t].toNat<=40;lia
theorem fP(ls:List Int):(wordsOf Cw.dN ls).length=ls.length:=(Cw.fR _ _).trans (G9 ..)
structure Cd (cd:List (List (List Nat))):Prop where
 ex:∃a b c,cd=[a,b,c]/\a.length=9/\b.length=17/\c.length=8
 le:∀ws∈cd,∀x∈ws,x.length<=40
noncomputable def g_(cd:List (List (List Nat)))(p:Nat×Nat):List Nat:=(cd.getD p.1 []).getD p.2 []
noncomputable def xo:Row->List Nat
 |.put _ n=>(j3 n).tail
 |_=>[]
noncomputable def gH(cd:List (List (List Nat)))(r:Row):List Nat:=(oA r).flatMap (g_ cd)++xo r
noncomputable def Bk(bk:List (List Int)):Prop:=∃a b c,bk=[a,b,c]/\a.length=9/\b.length=17/\c.length=8/\∀l∈bk,jE l/\m5 l=true
noncomputable def fI(bk:List (List Int)):List (List (List Nat)):=bk.map (wordsOf Cw.dN)
theorem Bk.cd{bk:List (List Int)}(h:Bk bk):Cd (fI bk):=by
 obtain⟨a,b,c,rfl,h1,h2,h3,h4⟩:=h;refine⟨⟨_,_,_,rfl,by rw[fP,h1],by rw[fP,h2],by rw[fP,h3]⟩,λws hw=>?_⟩
 obtain⟨l,hl,rfl⟩:=HP.mp hw;exact uq (h4 l hl).1
theorem mr:∀l:List (List Nat),(Str.ofString "").join (l.map wd)=wd l.flatten
 |[]=>rfl
 |[x]=>by simp[Str.join]
 |x::y::r=>by
  show wd x++Str.ofString ""++(Str.ofString "").join ((y::r).map wd)=_;rw[mr (y::r),kX,eB,eB,HL];rfl
theorem AI{r:Row}{k:Nat}(h:r.Ok k):∀p∈oA r,(p.1=0/\p.2<9)\/(p.1=1/\p.2<17)\/(p.1=2/\p.2<8):=by
 intro p hp;unfold oA at hp;rcases Gv.mp hp with rfl|hp
 ·exact .inl ⟨rfl,r.xn⟩
 ·obtain⟨q,hq,hp⟩:=List.mem_flatMap.mp hp;have:=Row.wc h q hq
  cases q with
  |box b=>rw[G6.mp hp];exact .inr (.inr ⟨rfl,this⟩)
  |num n=>rw[G6.mp hp];exact .inr (.inl ⟨rfl,me this⟩)
  |goal n=>cases hp
theorem Cd.at{cd:List (List (List Nat))}(h:Cd cd){p:Nat×Nat}(hp:(p.1=0/\p.2<9)\/(p.1=1/\p.2<17)\/(p.1=2/\p.2<8)):cd[p.1]?=some (cd.getD p.1 [])/\(cd.getD p.1 [])[p.2]?=some (g_ cd p)/\(g_ cd p).length<=40:=by
 obtain⟨a,b,c,rfl,h1,h2,h3⟩:=h.ex;have key:∀(l:List (List Nat)) (i:Nat),i<l.length->l[i]?=some (l.getD i [])/\l.getD i []∈l:=λl i hi=>by
  rw[Gy,Gm hi];exact⟨rfl,GL hi⟩
 obtain⟨x,y⟩:=p;rcases hp with ⟨rfl,hy⟩|⟨rfl,hy⟩|⟨rfl,hy⟩
 ·have:=key a y (by rw[h1];exact hy)
  exact⟨rfl,this.1,h.le a (by simp) _ this.2⟩
 ·have:=key b y (by rw[h2];exact hy)
  exact⟨rfl,this.1,h.le b (by simp) _ this.2⟩
 ·have:=key c y (by rw[h3];exact hy)
  exact⟨rfl,this.1,h.le c (by simp) _ this.2⟩
theorem zB(r:Row):(oA r).length<=3:=by cases r<;>simp[oA,Row.g9,Pk.Fu]
theorem vd{cd:List (List (List Nat))}{r:Row}{k:Nat}(hC:Cd cd)(h:r.Ok k):((oA r).flatMap (g_ cd)).length<=120/\(xo r).length<=16:=by
 refine⟨?_,?_⟩
 ·have:∀l:List (Nat×Nat),(∀p∈l,(g_ cd p).length<=40)->(l.flatMap (g_ cd)).length<=40*l.length:=λl=>by
   induction l with
   |nil=>exactλ_=>Gs _
   |cons p l ih =>
    intro h;have h1:=h p GB;have h2:=ih λq hq=>h q (GA _ hq);rw[Jr,Gr,GC];lia
  have h1:=this (oA r) λp hp=>(hC.at (AI h p hp)).2.2;have h2:=zB r;lia
 ·cases r with
  |put b n =>
   have:=me (n:=n) h.2;show (j3 n).tail.length<=16;rw[List.length_tail];unfold j3;rw[fW];simp only[Hs];lia
  |_=>exact GF _
noncomputable def nZ(l:List Nat):List Int:=l.map λk:Nat=>(k:Int)
theorem iy(l:List Nat):(nZ l).length=l.length:=Gx ..
theorem AD{l:List Nat}(h:Kr.ks 40 l<=2^40):m5 (nZ l)=true:=by
 unfold m5 KS nZ;rw[JS,show (Int.toNat ∘ λk:Nat=>(k:Int))=id from funext λk=>Hb k,List.map_id];exact GX h
structure Pt (l:List Nat):Prop where
 ks:Kr.ks 40 l=2^40
 le:∀x∈l,x+1<=l.length
 one:l=[0]\/∀x∈l,1<=x
theorem Pt.pos{l:List Nat}(h:Pt l):1<=l.length:=by
 cases l with
 |nil=>have:=h.ks;simp[Kr.ks] at this
 |cons=>simp
theorem Pt.next{l l3:List Nat}{a:Nat}(h:Pt l)(ha:a<l.length)(hl:l.length<=17)(hp:l3.Perm ((l[a]+1)::(l[a]+1)::l.eraseIdx a)):Pt l3/\l3.length=l.length+1:=by
 have hpm:(l[a]::l.eraseIdx a).Perm l:=by
  rw[JH]
  conv=>rhs;rw[<- IU a l,<- List.getElem_cons_drop ha]
  exact KA.symm
 have hle:=l.length_eraseIdx_of_lt ha;have hx:=h.le _ (GL ha);have h3:l3.length=l.length+1:=by
  rw[hp.length_eq,GC,GC,hle];lia
 have mem:∀y∈l3,y=l[a]+1\/y∈l.eraseIdx a:=λy hy=>by
  rcases Gv.mp (hp.mem_iff.mp hy) with z|z
  ·exact .inl z
  ·rcases Gv.mp z with z|z
   ·exact .inl z
   ·exact .inr z
 have mem2:∀y∈l.eraseIdx a,y∈l:=λy hy=>hpm.mem_iff.mp (GA _ hy);refine⟨⟨?_,λy hy=>?_,.inr λy hy=>?_⟩,h3⟩
 ·have e1:=Kr.gR (L:=40) hpm;rw[h.ks,Kr.ks] at e1;rw[Kr.gR hp,Kr.ks,Kr.ks];have e2:2^(40-l[a])=2*2^(40-(l[a]+1)):=by rw[show 40-l[a]=(40-(l[a]+1))+1 by lia,L8];lia
  lia
 ·rw[h3];rcases mem y hy with rfl|z
  ·lia
  ·have:=h.le y (mem2 y z);lia
 ·rcases mem y hy with rfl|z
  ·lia
  ·rcases h.one with e|e
   ·subst e;have ha0:a=0:=by simpa using ha
    subst ha0;cases z
   ·exact e y (mem2 y z)
theorem zM(l:List α)(n:Nat)(x:α):(ia l n x).length=l.length+1:=by
 unfold ia;rw[Gr,GC,GP,Hd];lia
theorem mV(l:List α)(n:Nat)(x:α):(ia l n x).Perm (x::l):=by
 unfold ia;refine KA.trans ?_;rw[IU]
theorem vt:∀{l:List Nat} {a z:Nat} (ha:a<l.length),l[a]<=z->Kr.ks 40 (l.set a z)<=Kr.ks 40 l
 |[],_,_,ha,_=>(nomatch ha)
 |x::l,0,z,_,h=>by
  have:2^(40-z)<=2^(40-x):=JT (by decide) (by have:x<=z:=h;lia)
  simp only[List.set_cons_zero,Kr.ks];lia
 |x::l,a+1,z,ha,h=>by
  have:=vt (l:=l) (a:=a) (z:=z) (by simpa using ha) (by simpa using h)
  simp only[List.set_cons_succ,Kr.ks];lia
theorem wq{β:Type}{f:α->β}{o m:List β}(h:o.Perm m):∀l:List α,l.map f=m->∃k:List α,k.map f=o/\k.Perm l:=by
 induction h with
 |nil =>
  intro l e
  cases l with
  |nil=>exact⟨[],rfl,.nil⟩
  |cons=>cases e
 |cons x p ih =>
  intro l e
  cases l with
  |nil=>cases e
  |cons a l =>
   obtain⟨rfl,e2⟩:=List.cons.inj e;obtain⟨k,e3,p3⟩:=ih l e2;exact⟨a::k,by rw[GV,e3],p3.cons a⟩
 |swap x y l0 =>
  intro l e;rcases l with _|⟨a,_|⟨b,l⟩⟩
  ·cases e
  ·cases e
  ·obtain⟨rfl,e2⟩:=List.cons.inj e;obtain⟨rfl,e3⟩:=List.cons.inj e2;exact⟨b::a::l,by rw[<- e3];rfl,.swap ..⟩
 |trans p q ih1 ih2 =>
  intro l e;obtain⟨k,e1,p1⟩:=ih2 l e;obtain⟨k',e2,p2⟩:=ih1 k e1;exact⟨k',e2,p2.trans p1⟩
theorem zu{p:List Nat}(hp:p.Perm (List.range ls.length))(hr:p.Pairwise (SP.R λi=>ls.getD i 0)):aH ls=p:=by
 have ez:(List.range ls.length).map (λi=>(ls.getD i 0,i))=ls.zip (List.range ls.length):=by
  apply IB
  ·rw[Gx,Hc,JR,Hc,KC]
  ·intro i h1 h2;rw[Gx,Hc] at h1;rw[List.getElem_map,List.getElem_range,List.getElem_zip];simp[h1]
 have e1:p.map (λi=>(ls.getD i 0,i))=ee (ls.zip (List.range ls.length)):=by
  refine mL ?_ λa=>?_
  ·exact Iv.mpr (hr.imp λh=>h.le)
  ·have fl:∀l:List Nat,atK a (l.map λi=>(ls.getD i 0,i))=(l.filter λi=>decide (ls.getD i 0=a)).map λi=>(ls.getD i 0,i):=λl=>by
    unfold atK;rw[List.filter_map];rfl
   rw[<- ez,fl,fl];congr 1;refine KG (le:=(· < ·)) (λa b _ _ h g=>absurd h (Nat.lt_asymm g)) ?_ (Ju.filter _) (hp.filter _);rw[List.pairwise_filter];refine hr.imp λ{i j} h hi hj=>?_;have hi:=Hr hi;have hj:=Hr hj;rcases h with h|h
   ·exfalso;have h':ls.getD i 0<ls.getD j 0:=h;lia
   ·exact h.2
 unfold aH iK;rw[<- e1,JS];exact List.map_id _
noncomputable def m3(ls:List Int)(i:Nat):Int×Int:=(ls.getD i 0,(i:Int))
theorem sx{out:List (Int×Int)}(hp:out.Perm ((List.range ls.length).map (m3 ls)))(hu:EH out):out=(aH ls).map (m3 ls)/\(aH ls).Pairwise (SP.R λi=>ls.getD i 0):=by
 obtain⟨p,rfl,pp⟩:=wq hp (List.range ls.length) rfl;have hr:p.Pairwise (SP.R λi=>ls.getD i 0):=by
  have nd:p.Nodup:=pp.nodup_iff.mpr List.nodup_range;unfold EH at hu;rw[Iv] at hu;refine (hu.and nd).imp λ{i j} h=>?_;have h1:¬ ((m3 ls j).1<(m3 ls i).1\/((m3 ls j).1=(m3 ls i).1/\(m3 ls j).2<(m3 ls i).2)):=of_decide_eq_false h.1;have h1':¬ (ls.getD j 0<ls.getD i 0\/(ls.getD j 0=ls.getD i 0/\(j:Int)<(i:Int))):=h1;show ls.getD i 0<ls.getD j 0\/(ls.getD i 0=ls.getD j 0/\i<j);have:=h.2;lia
 rw[zu pp hr];exact⟨rfl,hr⟩
theorem AS(h:(aH ls).Pairwise (SP.R λi=>ls.getD i 0)):(aH ls).Pairwise λi j=>aT ls i<=aT ls j:=h.imp λ{i j} h=>by
 have h':ls.getD i 0<=ls.getD j 0:=h.le;unfold aT;lia
theorem se:∀(k:Nat) (w acc:List Nat),w.length=k->(∀c∈w,c=48\/c=49)->d7 (Cw.val w:Int) k acc=w++acc:=by
 intro k
 induction k with
 |zero=>intro w acc h _;rw[KL.mp h];rfl
 |succ k ih =>
  intro w acc h hb;obtain⟨v,c,rfl⟩:∃v c,w=v++[c]:=by
   rcases Lm w with e|⟨v,c,e⟩
   ·rw[e] at h;cases h
   ·exact⟨v,c,by rw[e,List.concat_eq_append]⟩
  have hc:=hb c (by simp)
  have ev:Cw.val (v++[c])=2*Cw.val v+(c-48):=by
   rw[Cw.gN];rcases hc with rfl|rfl
   ·simp[Cw.val];lia
   ·simp[Cw.val];lia
  rw[d7];have e1:((Cw.val (v++[c]):Nat):Int) / 2=(Cw.val v:Int):=by rw[ev];lia
  have e2:dg ((Cw.val (v++[c]):Nat):Int)=c:=by
   unfold dg;rw[ev];rcases hc with rfl|rfl
   ·have:((2*Cw.val v+(48-48):Nat):Int) % 2=0:=by lia
    rw[this];rfl
   ·have:((2*Cw.val v+(49-48):Nat):Int) % 2=1:=by lia
    rw[this];rfl
  rw[e1,e2,ih v (c::acc) (by rw[Gr,IT] at h;lia) (λx hx=>hb x (by simp[hx])),GS]
  rfl
theorem xa(ls:List Int):Kr.ks 40 ((aH ls).map (aT ls))=KS ls:=by
 unfold KS;refine Kr.gR ?_;have e:ls.map Int.toNat=(List.range ls.length).map (aT ls):=by
  apply IB
  ·simp
  ·intro i h1 h2;have hi:i<ls.length:=by simpa using h1
   simp[aT,hi]
 rw[e];exact (jI (by rw[Hc])).map _
structure At (ls:List Int) (done todo:List Nat) (a:Option (List Nat)) (n h:Int):Prop where
 all:done++todo=aH ls
 st:(a=none/\done=[]/\n=-1/\h=0)\/∃w,a=some w/\n=(Cw.val w:Int)/\h=(w.length:Int)/\Cw.gq (done.map (aT ls)) w/\∀t∈todo,w.length<=aT ls t
noncomputable def jJ(a:Option (List Nat))(l:Nat):List Nat:=match a with|none=>List.replicate l 48|some v=>Cw.eG v l
theorem At.next{ls:List Int}{todo:List Nat}{a:Option (List Nat)}{n h:Int}{t:Nat}(x:At ls done (t::todo) a n h)(hL:jE ls)(ho:m5 ls=true)(hu:(aH ls).Pairwise λi j=>aT ls i<=aT ls j):
  ∃d:Nat,(aT ls t:Int)-h=d/\d<=aT ls t/\(n+1)*2^d=(Cw.val (jJ a (aT ls t)):Int)/\(jJ a (aT ls t)).length=aT ls t/\(∀c∈jJ a (aT ls t),c=48\/c=49)/\At ls (done++[t]) todo (some (jJ a (aT ls t))) (Cw.val (jJ a (aT ls t)):Int) (aT ls t:Int):=by
 have hall:(done++[t])++todo=aH ls:=by rw[GS];exact x.all
 have htl:aT ls t<=40:=by
  have h:=gP (ls:=ls) (t:=t) (by rw[<- x.all];simp)
  have:=hL.2.2 _ (GL h);unfold aT;rw[Gy,Gm h];show ls[t].toNat<=40;lia
 have hk:Kr.ks 40 ((done++[t]++todo).map (aT ls))<=2^40:=by rw[hall,xa];exact Hr ho
 rw[GO,GO,Kr.cy,Kr.cy] at hk;have hle:∀u∈todo,aT ls t<=aT ls u:=λu hu'=>by
  rw[<- x.all] at hu;exact (GY.mp (Hx.mp hu).2.1).1 u hu'
 rcases x.st with ⟨rfl,rfl,rfl,rfl⟩|⟨w,rfl,rfl,rfl,hH,hw⟩
 ·refine⟨aT ls t,by lia,Gs _,?_,G9 ..,λc hc=>.inl (HG.mp hc).2,hall,.inr ⟨_,rfl,rfl,by rw[show jJ none (aT ls t)=List.replicate (aT ls t) 48 from rfl,G9],Cw.gq.first htl,λu hu'=>by rw[show jJ none (aT ls t)=List.replicate (aT ls t) 48 from rfl,G9];exact hle u hu'⟩⟩
  rw[show jJ none (aT ls t)=List.replicate (aT ls t) 48 from rfl,Cw.eI];simp
 ·have hwt:=hw t GB;have hk2:Kr.ks 40 (done.map (aT ls))+2^(40-aT ls t)<=2^40:=by
   simp only[GV,JK,Kr.ks] at hk;lia
  have hz:=hH.zero (rest:=[]) hk2;have hN:=hH.next hwt htl hk2;refine⟨aT ls t-w.length,by lia,Nat.sub_le _ _,?_,Cw.dE hwt,Cw.kR hH.bits,hall,.inr ⟨_,rfl,rfl,by rw[show jJ (some w) (aT ls t)=Cw.eG w (aT ls t) from rfl,Cw.dE hwt],by rw[GO];exact hN,λu hu'=>by rw[show jJ (some w) (aT ls t)=Cw.eG w (aT ls t) from rfl,Cw.dE hwt];exact hle u hu'⟩⟩
  rw[show jJ (some w) (aT ls t)=Cw.eG w (aT ls t) from rfl,Cw.oG hH.bits hz];simp
theorem wD(n:Nat):∀c∈j3 n,c=48\/c=49:=gw _ _ _ λc hc=>by cases hc
theorem yZ(n:Nat):(j3 n).length=fw n:=by unfold j3;rw[fW];rfl
inductive Kd where
 |box|num|go
noncomputable def Kd.s:Kd->Str
 |.box=>Str.ofString "box"
 |.num=>Str.ofString "number"
 |.go=>Str.ofString "goal"
inductive PV where
 |box (b:Nat)|num (n:Nat)|go (d:Int)
noncomputable def tF(cd:List (List (List Nat)))(z:List Nat)(p:Nat):Kd->Option (PV×Nat)
 |.box=>(hU (cd.getD 2 []) z p).map λx=>(.box x.1,x.2)
 |.num=>(uN (cd.getD 1 []) z p).map λx=>(.num x.1,x.2)
 |.go=>(gA z p).map λx=>(.go x.1,x.2)
structure xD (cd:List (List (List Nat))):Prop where
 gz:Cd cd
 pf:∀w∈cd,Pf w
noncomputable def xw(i:Nat):List Kd:=[[Kd.box,.num],[.box,.box],[.box,.box],[.box,.box],[.box],[.box],[.go],[.box,.go],[]].getD i []
noncomputable def iD(cd:List (List (List Nat)))(z:List Nat):List Kd->Nat->Option (List (PV×Nat)×Nat)
 |[],p=>some ([],p)
 |k::ks,p=>(tF cd z p k).bind λx=>(iD cd z ks x.2).map λy=>(x::y.1,y.2)
structure RW where
 wi:Nat
 vs:List (PV×Nat)
noncomputable def AX(cd:List (List (List Nat)))(z:List Nat)(p:Nat):Option (RW×Nat):=(hU (cd.getD 0 []) z p).bind λx=>(iD cd z (xw x.1) x.2).map λy=>(⟨x.1,y.1⟩,y.2)
noncomputable def jh(cd:List (List (List Nat)))(z:List Nat)(p:Int):Option (RW×Nat):=if p<0 then none else AX cd z p.toNat
theorem qF(cd:List (List (List Nat)))(z:List Nat)(p:Nat):jh cd z (p:Int)=AX cd z p:=by
 unfold jh;rw[Gn (by lia),Hb]
theorem yy(h:i<9):KTD.datumAt (bz.getD i (Str.ofString "")) de=some ((xw i).map Kd.s):=by
 have:i=0\/i=1\/i=2\/i=3\/i=4\/i=5\/i=6\/i=7\/i=8:=by lia
 rcases this with rfl|rfl|rfl|rfl|rfl|rfl|rfl|rfl|rfl<;>decide +kernel
theorem ve(h:wd a=wd b):a=b:=Hm (λs:Str=>s.cps.toList) h
theorem Pf.nd(h:Pf ws):ws.Nodup:=by
 unfold List.Nodup;rw[HZ];intro i j hi hj hij e;exact h.pre i j hi hj (GD hij) (by rw[e];exact List.prefix_refl _)
theorem tH(a:List Nat)(c:Nat):eJ (a++[c])=eJ a*2+(c-48):=by
 unfold eJ;rw[List.foldl_append];rfl
theorem E6{c:Nat}(h:c=48\/c=49):Builtin.Str.occurrences (Str.ofString "01") ⟨#[c]⟩ 0 (Str.ofString "01").length 1=[c-48]:=by
 rcases h with rfl|rfl<;>decide +kernel
theorem iT(z:List Nat)(a b:Nat)(h:a<=b):Y.f_ (wd z) (some (a:Int)) (some (b:Int))=wd ((z.drop a).take (b-a)):=by
 unfold Y.f_ wd;congr 2;show Y.lI z (some (a:Int)) (some (b:Int))=_;unfold Y.lI;rw[HT.e7,HT.e7];rcases Nat.le_total z.length a with c|c
 ·rw[KH c,KH (Gw c h),Jc,List.drop_of_length_le c,List.take_nil,List.take_nil]
 ·rw[JV c];rcases Nat.le_total z.length b with d|d
  ·rw[KH d,Hq (by rw[Hd];exact Gs _),Hq (by rw[Hd];lia)]
  ·rw[JV d]
theorem pre_take{y:List Nat}:y <+: z ↔ z.take y.length=y:=by
 rw[Jo];exact eq_comm
theorem find3{n:Nat}(h:n<3):(List.range' n (3-n)).find? (λi=>decide (m4.getD i [] <+: z.drop p))=if bT n <+: z.drop p then some n else (List.range' (n+1) (3-(n+1))).find? λi=>decide (m4.getD i [] <+: z.drop p):=by
 rw[show 3-n=(3-(n+1))+1 by lia,Iy,Ia,xc h]
 by_cases c:bT n <+: z.drop p
 ·rw[GX c,Gp c]
 ·rw[GH c,Gn c]
noncomputable def PV.n:PV->Int
 |.box b=>(b:Int)
 |.num n=>(n:Int)
 |.go d=>d
noncomputable def Kd.c:Kd->Nat
 |.box=>98
 |.num=>110
 |.go=>103
structure FA (cd:List (List (List Nat))):Prop extends xD cd where
 BO:∀ws∈cd,∀w∈ws,w.length<=20
theorem xb{x:Nat×Nat}(hne:∀w∈ws,w≠[])(h:uN ws z p=some x):p<x.2/\x.2<=z.length:=by
 unfold uN at h
 cases c:hU ws z p with
 |none=>rw[c] at h;cases h
 |some y =>
  rw[c] at h;obtain⟨_,_,h3,h4⟩:=eE hne c;dsimp only at h
  split at h
  ·cases h;exact⟨h3,h4⟩
  ·split at h
   ·rename_i hl;cases h;exact⟨by show p<y.2+_;lia,hl⟩
   ·cases h
theorem Aj{x:Int×Nat}(h:gA z p=some x):p<x.2/\x.2<=z.length:=by
 unfold gA at h
 cases c:hU m4 z p with
 |none=>rw[c] at h;cases h
 |some y =>
  rw[c] at h;obtain⟨_,_,h3,h4⟩:=eE pG c;dsimp only at h
  split at h
  ·rename_i hl;cases h;exact⟨by show p<y.2+_;lia,hl⟩
  ·cases h
theorem lY{cd:List (List (List Nat))}{k:Kd}{x:PV×Nat}(hR:xD cd)(h:tF cd z p k=some x):p<x.2/\x.2<=z.length/\(∀b,x.1=.box b->b<8):=by
 obtain⟨c0,c1,c2,rfl,l0,l1,l2⟩:=hR.gz.ex;have n1:=(hR.pf c1 (by simp)).ne
 have n2:=(hR.pf c2 (by simp)).ne
 cases k with
 |box =>
  replace h:(hU c2 z p).map (λx=>(PV.box x.1,x.2))=some x:=h
  cases c:hU c2 z p with
  |none=>rw[c] at h;cases h
  |some y=>rw[c] at h;cases h;obtain⟨h1,_,h3,h4⟩:=eE n2 c;exact⟨h3,h4,λb e=>by cases e;lia⟩
 |num =>
  replace h:(uN c1 z p).map (λx=>(PV.num x.1,x.2))=some x:=h
  cases c:uN c1 z p with
  |none=>rw[c] at h;cases h
  |some y=>rw[c] at h;cases h;exact⟨(xb n1 c).1,(xb n1 c).2,λb e=>by cases e⟩
 |go =>
  replace h:(gA z p).map (λx=>(PV.go x.1,x.2))=some x:=h
  cases c:gA z p with
  |none=>rw[c] at h;cases h
  |some y=>rw[c] at h;cases h;exact⟨(Aj c).1,(Aj c).2,λb e=>by cases e⟩
theorem dy.app{x y:List Nat}(hx:dy x)(hy:dy y):dy (x++y):=λc hc=>(Hh.mp hc).elim (hx c) (hy c)
theorem dy.rep(n:Nat){v:Nat}(h:v=48\/v=49):dy (List.replicate n v):=λc hc=>by rw[(HG.mp hc).2];exact h
theorem yR{w:List Nat}{n:Nat}(h:dy w):dy (Cw.dN w n):=by
 unfold Cw.dN Cw.pad;refine dy.app (dy.app (λc hc=>h c ?_) λc hc=>.inr (G6.mp hc)) (dy.rep _ (.inl rfl));have h1:=Ik.mp (List.dropLast_subset _ hc);exact Ik.mp ((Jv _).subset h1)
theorem tu{o:List Nat}:∀{a:Option (List Nat)} {ws:List (List Nat)},(∀v,a=some v->dy v)->(∀x∈ws,dy x)->∀x∈(Cw.along Cw.dN ln o (a,ws)).2,dy x:=by
 induction o with
 |nil=>exactλ_ h=>h
 |cons t o ih =>
  intro a ws ha hw
  cases a with
  |none =>
   refine ih (a:=some (List.replicate (ln t) 48)) (λv e=>by cases e;exact dy.rep _ (.inl rfl)) λx hx=>?_
   rcases HD hx with z|z
   ·exact hw x z
   ·rw[z];exact dy.rep _ (.inl rfl)
  |some v =>
   have hv:=yR (n:=ln t) (ha v rfl);refine ih (a:=some (Cw.dN v (ln t))) (λv e=>by cases e;exact hv) λx hx=>?_
   rcases HD hx with z|z
   ·exact hw x z
   ·rw[z];exact hv
theorem tI(ls:List Int):∀x∈wordsOf Cw.dN ls,dy x:=tu (λv e=>by cases e) λx hx=>by rw[(HG.mp hx).2];exactλc hc=>by cases hc
theorem wR{cd:List (List (List Nat))}(h:∀ws∈cd,∀w∈ws,dy w)(r:Row):dy (gH cd r):=by
 have at2:∀p,dy (g_ cd p):=λp=>by
  unfold g_;rw[Gy,Gy]
  cases e:cd[p.1]? with
  |none=>exactλc hc=>by cases hc
  |some ws =>
   show dy (ws[p.2]?.getD [])
   cases e2:ws[p.2]? with
   |none=>exactλc hc=>by cases hc
   |some w=>exact h ws (H_ e) w (H_ e2)
 unfold gH;refine dy.app (λc hc=>?_) ?_
 ·obtain⟨p,_,hp⟩:=List.mem_flatMap.mp hc;exact at2 p c hp
 ·cases r with
  |put b n=>exactλc hc=>wD n c (List.mem_of_mem_tail hc)
  |two=>exactλc hc=>by cases hc
  |one=>exactλc hc=>by cases hc
  |jump=>exactλc hc=>by cases hc
  |zero=>exactλc hc=>by cases hc
  |halt=>exactλc hc=>by cases hc
theorem C9(bk:List (List Int)):∀ws∈fI bk,∀w∈ws,dy w:=λws hw=>by
 obtain⟨l,_,rfl⟩:=HP.mp hw;exact tI l
theorem uM{cd:List (List (List Nat))}(hC:Cd cd){r:Row}{k:Nat}(hr:r.Ok k):(gH cd r).length<=136:=by
 have:=vd hC hr;unfold gH;rw[Gr];lia
inductive bD where
 |put (b n:Nat)|two (w:Fin 3) (a b:Nat)|one (w:Fin 2) (b:Nat)|jump (g:Int)|zero (b:Nat) (g:Int)|halt
inductive yd where
 |s (z:Str)|n (k:Int)
noncomputable def bD.ps:bD->List yd
 |.put b n=>[.s "put",.s (bW b),.n (n:Nat)]
 |.two w a b=>[.s (w2 w),.s (bW a),.s (bW b)]
 |.one w b=>[.s (w1 w),.s (bW b)]
 |.jump g=>[.s "jump",.n g]
 |.zero b g=>[.s "zero",.s (bW b),.n g]
 |.halt=>[.s "halt"]
noncomputable def bD.Ok:bD->Prop
 |.put b _=>b<8
 |.two _ a b=>a<8/\b<8
 |.one _ b=>b<8
 |.jump _=>True
 |.zero b _=>b<8
 |.halt=>True
noncomputable def bD.rel(e:Int):bD->bD
 |.jump g=>.jump (g-e)
 |.zero b g=>.zero b (g-e)
 |r=>r
noncomputable def tX(x:RW×Nat):bD:=match x.1.vs with
 |[(.box b,_)]=>.one (if x.1.wi=4 then 0 else 1) b
 |[(.go d,e)]=>.jump ((e:Int)+d)
 |[(.box a,_),(.box b,_)]=>.two (if x.1.wi=1 then 0 else if x.1.wi=2 then 1 else 2) a b
 |[(.box b,_),(.num n,_)]=>.put b n
 |[(.box b,_),(.go d,e)]=>.zero b ((e:Int)+d)
 |_=>.halt
theorem ED{cd:List (List (List Nat))}{k:Kd}{y:List (PV×Nat)×Nat}(h:iD cd z [k] p=some y):∃x,tF cd z p k=some x/\y=([x],x.2):=by
 obtain⟨x,hx,h⟩:=II.mp h;cases h;exact⟨x,hx,rfl⟩
theorem E3{cd:List (List (List Nat))}{k l:Kd}{y:List (PV×Nat)×Nat}(h:iD cd z [k,l] p=some y):∃x x',tF cd z p k=some x/\tF cd z x.2 l=some x'/\y=([x,x'],x'.2):=by
 obtain⟨x,hx,h⟩:=II.mp h;obtain⟨y',hy,rfl⟩:=GK.mp h;obtain⟨x',hx',rfl⟩:=ED hy;exact⟨x,x',hx,hx',rfl⟩
theorem eF{cd:List (List (List Nat))}{x:PV×Nat}(hR:xD cd)(h:tF cd z p .box=some x):∃b e,x=(.box b,e)/\b<8:=by
 have h8:=(lY hR h).2.2;obtain⟨v,_,rfl⟩:=GK.mp h;exact⟨_,_,rfl,h8 _ rfl⟩
theorem Cn{cd:List (List (List Nat))}{x:PV×Nat}(h:tF cd z p .num=some x):∃n e,x=(.num n,e):=by
 obtain⟨v,_,rfl⟩:=GK.mp h;exact⟨_,_,rfl⟩
theorem Ax{cd:List (List (List Nat))}{x:PV×Nat}(h:tF cd z p .go=some x):∃d e,x=(.go d,e):=by
 obtain⟨v,_,rfl⟩:=GK.mp h;exact⟨_,_,rfl⟩
theorem B_{cd:List (List (List Nat))}{ks:List Kd}{y:List (PV×Nat)×Nat}(hR:xD cd)(h:iD cd z ks p=some y):p<=y.2/\(p<=z.length->y.2<=z.length):=by
 induction ks generalizing p y with
 |nil=>cases h;exact⟨Gs _,id⟩
 |cons k ks ih =>
  rw[iD] at h;obtain⟨x,hx,h⟩:=II.mp h;obtain⟨y',hy,rfl⟩:=GK.mp h;obtain⟨i1,i2⟩:=ih hy;obtain⟨j1,j2,_⟩:=lY hR hx;exact⟨by show p<=y'.2;lia,λ_=>i2 j2⟩
theorem uR(hL:jE ls)(ho:m5 ls=true):Pf (wordsOf Cw.dN ls):=by
 have hc:=canon hL (Hr ho);have hg:∀(i:Nat) (h:i<(wordsOf Cw.dN ls).length),(wordsOf Cw.dN ls)[i]=(wordsOf Cw.dN ls).getD i []:=λi h=>by
  rw[Gy,Gm h];rfl
 refine⟨λw hw e=>?_,λi j hi hj hne hp=>?_⟩
 ·obtain⟨i,hi,rfl⟩:=Jd.mp hw;have hi':i<ls.length:=by rw[<- hc.len];exact hi
  have h1:=hc.Dl i hi';rw[<- hg i hi,e,Hs] at h1;unfold aT at h1;rw[Gy,Gm hi'] at h1;have h2:=hL.2.2 _ (GL hi');have h1':0=(ls[i]).toNat:=h1;lia
 ·have hi':i<ls.length:=by rw[<- hc.len];exact hi
  have hj':j<ls.length:=by rw[<- hc.len];exact hj
  rw[hg i hi,hg j hj] at hp;have:(ls.getD i 0<ls.getD j 0\/(ls.getD i 0=ls.getD j 0/\i<j))\/(ls.getD j 0<ls.getD i 0\/(ls.getD j 0=ls.getD i 0/\j<i)):=by lia
  rcases this with h|h
  ·exact (hc.part i j hi' hj' h).not.1 hp
  ·exact (hc.part j i hj' hi' h).not.2 hp
theorem xH{bk:List (List Int)}(h:Bk bk):∀ws∈fI bk,Pf ws:=λws hw=>by
 obtain⟨l,hl,rfl⟩:=HP.mp hw;obtain⟨a,b,c,e,_,_,_,h4⟩:=h;exact uR (h4 l hl).1 (h4 l hl).2
theorem um{bk:List (List Int)}(h:Bk bk):FA (fI bk):=by
 refine⟨⟨h.cd,xH h⟩,λws hw w hw2=>?_⟩;obtain⟨l,hl,rfl⟩:=HP.mp hw;obtain⟨a,b,c,e,_,_,_,h4⟩:=h;have hc:=canon (h4 l hl).1 (Hr (h4 l hl).2);obtain⟨i,hi,rfl⟩:=Jd.mp hw2;have hi':i<l.length:=by rw[<- hc.len];exact hi
 have h1:=hc.Dl i hi';rw[Gy,Gm hi] at h1;unfold aT at h1;rw[Gy,Gm hi'] at h1;have h2:=(h4 l hl).1.2.2 _ (GL hi');have h3:((wordsOf Cw.dN l)[i]).length=(l[i]).toNat:=h1;lia
theorem rW(cs:List Nat):(Str.ofString "").join (cs.map λc=>wd [c])=wd cs:=by
 have:=mr (cs.map λc=>[c]);rw[JS] at this;rw[show (cs.map λc=>wd [c])=cs.map (wd ∘ λc=>[c]) from rfl,this];congr 1
 induction cs with
 |nil=>rfl
 |cons c cs ih=>rw[GV,Ib,ih (by rw[<- JS];exact mr _)];rfl
noncomputable def ET.v:ET->V
 |.s z=>.str z
 |.n k=>.int (k:Nat)
noncomputable def Row.vs(r:Row):List V:=r.ps.map ET.v
noncomputable def Pk.v:Pk->V
 |.box b=>.str (bW b)
 |.num n=>.int (n:Nat)
 |.goal g=>.int (g:Nat)
theorem Row.Aa(r:Row):r.vs=.str r.wd::r.g9.map Pk.v:=by cases r<;>rfl
noncomputable def PV.v(behind:Nat):PV->V
 |.box b=>.str (bW b)
 |.num n=>.int (n:Int)
 |.go d=>.int ((behind:Int)+d)
noncomputable def PV.l:PV->V
 |.box b=>.str (bW b)
 |.num n=>.int (n:Int)
 |.go d=>.int d
noncomputable def RW.v(r:RW):List V:=.str (bz.getD r.wi (Str.ofString ""))::r.vs.map λx=>x.1.v x.2
noncomputable def RW.l(r:RW):List V:=.str (bz.getD r.wi (Str.ofString ""))::r.vs.map λx=>x.1.l
noncomputable def yd.v:yd->V
 |.s z=>.str z
 |.n k=>.int k
noncomputable def bD.vs(r:bD):List V:=r.ps.map yd.v
theorem C3{cd:List (List (List Nat))}{x:RW×Nat}(hR:xD cd)(h:AX cd z p=some x):(tX x).Ok/\x.1.v=(tX x).vs/\x.1.l=((tX x).rel x.2).vs/\p<x.2/\x.2<=z.length:=by
 obtain⟨c0,c1,c2,rfl,l0,l1,l2⟩:=hR.gz.ex;obtain⟨v,hv,h⟩:=II.mp h;obtain⟨y,hy,rfl⟩:=GK.mp h;obtain⟨w1,_,w3,w4⟩:=eE (hR.pf c0 (by simp)).ne hv
 obtain⟨i1,i2⟩:=B_ hR hy;obtain⟨wi,e⟩:=v;dsimp only at *;refine and_assoc.mp (and_assoc.mp ⟨?_,by show p<y.2;lia,i2 w4⟩)
 have far:∀(e:Nat) (d:Int),(e:Int)+d-(e:Int)=d:=λe d=>by lia
 have:wi=0\/wi=1\/wi=2\/wi=3\/wi=4\/wi=5\/wi=6\/wi=7\/wi=8:=by lia
 rcases this with rfl|rfl|rfl|rfl|rfl|rfl|rfl|rfl|rfl
 ·obtain⟨x,x',hx,hx',rfl⟩:=E3 hy;obtain⟨b,e,rfl,hb⟩:=eF hR hx;obtain⟨n,e',rfl⟩:=Cn hx';exact⟨⟨hb,rfl⟩,rfl⟩
 ·obtain⟨x,x',hx,hx',rfl⟩:=E3 hy;obtain⟨b,e,rfl,hb⟩:=eF hR hx;obtain⟨n,e',rfl,hb'⟩:=eF hR hx';exact⟨⟨⟨hb,hb'⟩,rfl⟩,rfl⟩
 ·obtain⟨x,x',hx,hx',rfl⟩:=E3 hy;obtain⟨b,e,rfl,hb⟩:=eF hR hx;obtain⟨n,e',rfl,hb'⟩:=eF hR hx';exact⟨⟨⟨hb,hb'⟩,rfl⟩,rfl⟩
 ·obtain⟨x,x',hx,hx',rfl⟩:=E3 hy;obtain⟨b,e,rfl,hb⟩:=eF hR hx;obtain⟨n,e',rfl,hb'⟩:=eF hR hx';exact⟨⟨⟨hb,hb'⟩,rfl⟩,rfl⟩
 ·obtain⟨x,hx,rfl⟩:=ED hy;obtain⟨b,e,rfl,hb⟩:=eF hR hx;exact⟨⟨hb,rfl⟩,rfl⟩
 ·obtain⟨x,hx,rfl⟩:=ED hy;obtain⟨b,e,rfl,hb⟩:=eF hR hx;exact⟨⟨hb,rfl⟩,rfl⟩
 ·obtain⟨x,hx,rfl⟩:=ED hy;obtain⟨d,e,rfl⟩:=Ax hx;refine⟨⟨trivial,rfl⟩,?_⟩;show [_,V.int d]=[_,.int ((e:Int)+d-(e:Int))];rw[far];rfl
 ·obtain⟨x,x',hx,hx',rfl⟩:=E3 hy;obtain⟨b,e,rfl,hb⟩:=eF hR hx;obtain⟨d,e',rfl⟩:=Ax hx';refine⟨⟨hb,rfl⟩,?_⟩;show [_,_,V.int d]=[_,_,.int ((e':Int)+d-(e':Int))];rw[far];rfl
 ·cases hy;exact⟨⟨trivial,rfl⟩,rfl⟩
noncomputable def tY(H:Hp)(ca:Addr)(cd:List (List (List Nat))):Prop:=∃a0 a1 a2,H ca=some (.lst [.ref a0,.ref a1,.ref a2])/\H a0=some (.tup (wV (cd.getD 0 [])))/\H a1=some (.tup (wV (cd.getD 1 [])))/\H a2=some (.tup (wV (cd.getD 2 [])))
theorem tY.keep{ca:Addr}{cd:List (List (List Nat))}(h:tY H ca cd)(k:KB ex H H')(n:ca∉ex)(hx:∀b∈ex,∀xs,H b≠some (.tup xs)):tY H' ca cd:=by
 obtain⟨a0,a1,a2,h1,h2,h3,h4⟩:=h;exact⟨a0,a1,a2,k _ _ h1 n,k _ _ h2 λz=>hx _ z _ h2,k _ _ h3 λz=>hx _ z _ h3,k _ _ h4 λz=>hx _ z _ h4⟩
theorem tY.kb{ca:Addr}{cd:List (List (List Nat))}(h:tY H ca cd)(k:KB [] H H'):tY H' ca cd:=h.keep k (by simp) (by simp)
noncomputable def EO(H:Hp)(v:V):Option (PV×Nat)->Prop
 |none=>v=.aQ
 |some x=>∃t,v=.ref t/\H t=some (.tup [x.1.v x.2,.int (x.2:Nat)])
theorem DH{b:Nat}(h:b<8):bX [V.str "a",.str "b",.str "c",.str "d",.str "e",.str "f",.str "g",.str "h"] (b:Int)=some (.str (bW b)):=by
 show bX (DN.map V.str) (b:Int)=_;exact bI (by rw[G8,(A_ h).1];rfl)
noncomputable def nq(K:LA):Sp:=λvs H Q _=>∃(ca:Addr) (cd:List (List (List Nat))) (z:List Nat) (p:Nat) (k:Kd),vs=[.str k.s,.ref ca,.str (wd z),.int (p:Nat)]/\tY H ca cd/\xD cd/\dy z/\z.length<=1000000/\∀v H',KB [] H H'->EO H' v (tF cd z p k)->Q v H'
theorem sk(T:Txt K mg)(F:HasFn K mg "part_at" fS ["kind","codes","bits","place"])(hcoded_at:aq P w K mg base bf 2 "coded_at" ["code","bits","place"] (gK K))(hnumber_at:aq P w K mg base bf 3 "number_at" ["code","bits","place"] (r9 K))(hgoal_at:aq P w K mg base bf 3 "goal_at" ["bits","place"] (oo K)):aq P w K mg base bf 4 "part_at" ["kind","codes","bits","place"] (nq K):=by
 obtain⟨u1,hg_OF_CLASSES,hr_OF_CLASSES⟩:=T.mq;obtain⟨u2,hg_OF_BOXES,hr_OF_BOXES⟩:=T.pW;obtain⟨aB,hg_BOXES,sB⟩:=T.lE;have hr_BOXES:RelV (.ref aB) (.ref aB):=rfl;refine F.fQ j4 (λvs H Q E h=>?_) (λf cdv A outer s H vs Q E hr h=>?_)
 ·obtain⟨ca,cd,z,p,k,rfl,_⟩:=h;rfl
 ·have hu:=aZ hr;obtain⟨ca,cd,z,p,k,rfl,hc,hR,hb,hz,q⟩:=h;refine⟨_,(Z.ag (Z.cu (Z.aR aO (Z.v 0) Z.str) (Z.ar (Z.ret (Z.fn hnumber_at (hr.mono (by decide)) rfl au (Z.cons (Z.ix (Z.ax K rfl hu) (Z.v 1) (Z.glob rfl hg_OF_CLASSES hr_OF_CLASSES)) (Z.cons (Z.v 2) (Z.cons (Z.v 3) Z.nil)))))) Z.bj)
   (Z.ag (Z.cu (Z.aR aO (Z.v 0) Z.str) (Z.ar (Z.ret (Z.fn hgoal_at (hr.mono (by decide)) rfl au (Z.cons (Z.v 2) (Z.cons (Z.v 3) Z.nil))))) Z.bj)
   (Z.ag (Z.set (i:=4) j4.nd rfl (by right) (Z.fn hcoded_at (hr.mono (by decide)) rfl au (Z.cons (Z.ix (Z.ax K rfl hu) (Z.v 1) (Z.glob rfl hg_OF_BOXES hr_OF_BOXES)) (Z.cons (Z.v 2) (Z.cons (Z.v 3) Z.nil)))))
   (Z.ar (Z.ret (Z.Ek (Z.aR cG (Z.v 4) Z.aQ) Z.aQ (Z.tup (Z.cons (Z.ix (Z.nT K rfl) (Z.glob rfl hg_BOXES hr_BOXES) (Z.ix (Z.ax K rfl hu) (Z.v 4) Z.int)) (Z.cons (Z.ix (Z.ax K rfl hu) (Z.v 4) Z.int) Z.nil))))))))),?_⟩
  obtain⟨c0,c1,c2,rfl,l0,l1,l2⟩:=hR.gz.ex;have n1:=(hR.pf c1 (by simp)).ne
  have n2:=(hR.pf c2 (by simp)).ne
  obtain⟨a0,a1,a2,g,g0,g1,g2⟩:=hc;have sg:=aF g;refine ao λN hN=>?_
  cases k with
  |box =>
   replace q:∀v H',KB [] H H'->EO H' v ((hU c2 z p).map λx=>(.box x.1,x.2))->Q v H':=q
   exists Gn (by decide +kernel:¬ Kd.s .box=Str.ofString "number")
   rw[hN];clear hN N;refine ao λN hN=>?_;exists Gn (by decide +kernel:¬ Kd.s .box=Str.ofString "goal")
   rw[hN];clear hN N;refine ao λN hN=>?_;exists sg;refine⟨a2,c2,z,p,rfl,b8.of g2,n2,by lia,hz,λv H1 k1 o1=>?_⟩
   rw[hN];clear hN N
   cases c:hU c2 z p with
   |none =>
    rw[c] at q o1;obtain rfl:v=.aQ:=o1;walk_at "rz";exact q _ _ k1 rfl
   |some x =>
    rw[c] at q o1;have hb:=(eE n2 c).1;obtain⟨t,rfl,ht⟩:=o1;exists Gn (show ¬ V.ref t=V.aQ from V.noConfusion),aG ht;refine⟨aB,_,_,_,rfl,rfl,sB H1,DH (show x.1<8 by lia),?_⟩
    exists aG ht;exact⟨by decide,λb2 hb2=>q _ _ (k1.trans (KB.new hb2)) ⟨b2,rfl,aa⟩⟩
  |num =>
   replace q:∀v H',KB [] H H'->EO H' v ((uN c1 z p).map λx=>(.num x.1,x.2))->Q v H':=q
   exists Gp (show Kd.s .num=Str.ofString "number" from rfl),sg;refine⟨a1,c1,z,p,rfl,b8.of g1,n1,by lia,hb,hz,λv H1 k1 o1=>q v H1 k1 ?_⟩
   cases c:uN c1 z p with
   |none=>rw[c] at o1;exact o1
   |some x=>rw[c] at o1;exact o1
  |go =>
   replace q:∀v H',KB [] H H'->EO H' v ((gA z p).map λx=>(.go x.1,x.2))->Q v H':=q
   exists Gn (by decide +kernel:¬ Kd.s .go=Str.ofString "number")
   rw[hN];clear hN N;refine ao λN hN=>?_;exists Gp (show Kd.s .go=Str.ofString "goal" from rfl);refine⟨z,p,rfl,hb,hz,λv H1 k1 o1=>q v H1 k1 ?_⟩
   cases c:gA z p with
   |none=>rw[c] at o1;exact o1
   |some x=>rw[c] at o1;exact o1
noncomputable def Dg(H:Hp)(v:V):Option (RW×Nat)->Prop
 |none=>v=.aQ
 |some x=>∃t r,v=.ref t/\H t=some (.tup [.ref r,.int (x.2:Nat)])/\H r=some (.tup x.1.v)
noncomputable def rC(K:LA):Sp:=λvs H Q _=>∃(ca:Addr) (cd:List (List (List Nat))) (z:List Nat) (p:Int),vs=[.ref ca,.str (wd z),.int p]/\tY H ca cd/\xD cd/\dy z/\z.length<=1000000/\∀v H',KB [] H H'->Dg H' v (jh cd z p)->Q v H'
noncomputable def dF:=de
theorem xA(T:Txt K mg)(F:HasFn K mg "row_at" hJ ["codes","bits","place"])(hcoded_at:aq P w K mg base bf 2 "coded_at" ["code","bits","place"] (gK K))(hpart_at:aq P w K mg base bf 4 "part_at" ["kind","codes","bits","place"] (nq K)):aq P w K mg base bf 5 "row_at" ["codes","bits","place"] (rC K):=by
 obtain⟨u1,hg_OF_WORDS,hr_OF_WORDS⟩:=T.qc;obtain⟨dS,hg_SHAPES,hd0⟩:=T.oz;have hd_SHAPES:jP K dS dF:=hd0;have hr_SHAPES:RelV (.ref dS) (.ref dS):=rfl;clear hd0;refine F.fQ cI (λvs H Q E h=>?_) (λf cdv A outer s H vs Q E hr h=>?_)
 ·obtain⟨ca,cd,z,p,rfl,_⟩:=h;rfl
 ·have hu:=aZ hr;obtain⟨ca,cd,z,p,rfl,hc,hR,hb,hz,q⟩:=h;refine⟨_,(Z.ag (Z.cu (Z.aR i3 (Z.v 2) Z.int) (Z.ar (Z.ret Z.aQ)) Z.bj)
   (Z.ag (Z.set (i:=3) cI.nd rfl (by right) (Z.fn hcoded_at (hr.mono (by decide)) rfl au (Z.cons (Z.ix (Z.ax K rfl hu) (Z.v 0) (Z.glob rfl hg_OF_WORDS hr_OF_WORDS)) (Z.cons (Z.v 1) (Z.cons (Z.v 2) Z.nil)))))
   (Z.ag (Z.cu (Z.aR cG (Z.v 3) Z.aQ) (Z.ar (Z.ret Z.aQ)) Z.bj)
   (Z.ag (Z.set (i:=4) cI.nd rfl (by right) (Z.ix (Z.ax K rfl hu) (Z.ct (pQ (D:=dF) K rfl rfl) rfl T.vw (by decide +kernel) (Z.cons (Z.glob rfl hg_SHAPES hr_SHAPES) Z.nil)) (Z.ix (Z.ax K rfl hu) (Z.v 3) Z.int)))
   (Z.ag (Z.set (i:=5) cI.nd rfl (by right) (Z.lst (Z.cons (Z.v 4) Z.nil)))
   (Z.ag (Z.set (i:=6) cI.nd rfl (by right) (Z.ix (Z.ax K rfl hu) (Z.v 3) Z.int))
   (Z.ag (Z.eS GQ rfl (Z.seq K rfl (Z.FJ K rfl rfl hg_SHAPES hd_SHAPES (Z.v 4))) (Z.bo (i:=7) cI.nd rfl (by right)) (Z.ag (Z.set (i:=8) cI.nd rfl (by right) (Z.fn hpart_at (hr.mono (by decide)) rfl au (Z.cons (Z.v 7) (Z.cons (Z.v 0) (Z.cons (Z.v 1) (Z.cons (Z.v 6) Z.nil))))))
   (Z.ag (Z.cu (Z.aR cG (Z.v 8) Z.aQ) (Z.ar (Z.ret Z.aQ)) Z.bj)
   (Z.ag (Z.expr (Z.bm K rfl PySem.F.plainAttrs_list PySem.F.slot_list_append PySem.F.type_list_append cK (Z.v 5) (Z.cons (Z.ix (Z.ax K rfl hu) (Z.v 8) Z.int) Z.nil)))
   (Z.ar (Z.set (i:=6) cI.nd rfl (by right) (Z.ix (Z.ax K rfl hu) (Z.v 8) Z.int)))))))
   (Z.ar (Z.ret (Z.tup (Z.cons (Z.ct (Z.cX K rfl) rfl T.cF (by decide +kernel) (Z.cons (Z.v 5) Z.nil)) (Z.cons (Z.v 6) Z.nil)))))))))))),?_⟩
  refine ao λN hN=>?_;by_cases hp:p<0
  ·unfold jh at q;rw[Gp hp] at q;exists Gp hp;exact q _ _ (KB.refl _ _) rfl
  obtain⟨p,rfl⟩:∃p':Nat,p=(p':Int):=⟨p.toNat,by lia⟩
  rw[qF] at q;exists Gn hp;rw[hN];clear hN N;refine ao λN hN=>?_;obtain⟨c0,c1,c2,rfl,l0,l1,l2⟩:=hR.gz.ex;have n0:=(hR.pf c0 (by simp)).ne
  have hc':=hc;obtain⟨a0,a1,a2,g,g0,g1,g2⟩:=hc';exists aF g;refine⟨a0,c0,z,p,rfl,b8.of g0,n0,by lia,hz,λv H1 k1 o1=>?_⟩
  rw[hN];clear hN N;refine ao λN hN=>?_;unfold AX at q
  replace q:∀v H',KB [] H H'->Dg H' v ((hU c0 z p).bind λx=>(iD [c0,c1,c2] z (xw x.1) x.2).map λy=>(⟨x.1,y.1⟩,y.2))->Q v H':=q
  cases c:hU c0 z p with
  |none =>
   rw[c] at q o1;obtain rfl:v=.aQ:=o1;walk_at "rz";exact q _ _ k1 rfl
  |some x =>
   rw[c] at q o1;obtain⟨wi,e⟩:=x;have h9:wi<9:=by have:=(eE n0 c).1;dsimp only at this;lia
   replace q:∀v H',KB [] H H'->Dg H' v ((iD [c0,c1,c2] z (xw wi) e).map λy=>(⟨wi,y.1⟩,y.2))->Q v H':=q
   obtain⟨t,rfl,ht⟩:=o1;dsimp only at ht;exists if_neg (show ¬ V.ref t=V.aQ from V.noConfusion);rw[hN];clear hN N;refine ao λN hN=>?_;have ak:bX (dF.map λp=>V.str p.1) (wi:Int)=some (.str (bz.getD wi (Str.ofString ""))):=bI (by
    show (bz.map V.str)[wi]?=_;rw[G8,Gy,Gm (show wi<bz.length from h9)];rfl)
   walk_at "rz";refine⟨dS,rfl,hd_SHAPES,by decide,λl hl=>?_⟩
   have k2:KB [] H1 (upd H1 l (.lst (dF.map λp=>V.str p.1))):=KB.new hl;have s2:upd H1 l (.lst (dF.map λp=>V.str p.1)) l=some (.lst (dF.map λp=>V.str p.1)):=aa;generalize upd H1 l (.lst (dF.map λp=>V.str p.1))=H2 at *;have ht2:=k2 _ _ ht (by simp)
   exists aG ht2,aF s2,ak;have h02:KB [] H H2:=k1.trans k2;clear k1 k2 s2 hl ht ak;rw[hN];clear hN N;have hlen:(xw wi).length<=2:=by
    have:wi=0\/wi=1\/wi=2\/wi=3\/wi=4\/wi=5\/wi=6\/wi=7\/wi=8:=by lia
    rcases this with rfl|rfl|rfl|rfl|rfl|rfl|rfl|rfl|rfl<;>decide
   have e1:=yy h9;generalize hps:xw wi=ks0 at *;generalize hw9:bz.getD wi (Str.ofString "")=W at *;refine ao λN hN=>?_;walk_at "rz";refine⟨by decide,λrl hrl=>?_⟩
   have k3:KB [] H2 (upd H2 rl (.lst [.str W])):=KB.new hrl;have s3:upd H2 rl (.lst [.str W]) rl=some (.lst [.str W]):=aa;generalize upd H2 rl (.lst [.str W])=H3 at *;have hrl0:H rl=none:=h02.free (by simp) hrl
   have h03:KB [] H H3:=h02.trans k3;have ht3:=k3 _ _ ht2 (by simp)
   rw[hN];clear hN N;refine ao λN hN=>?_;exists aG ht3;rw[hN];clear hN N;refine ao λN hN=>?_;walk_at "rz";refine⟨W,_,rfl,e1,λpk kt=>?_⟩;have st:∀H,b8 K H pk ((ks0.map Kd.s).map V.str):=λH=>.inr kt;refine .inr ⟨⟨_,st H3⟩,?_⟩;have kL:∀{H4 H5:Hp},KB [rl] H4 H5->KB [rl] H H4->KB [] H H5:=λa b c o e _=>a _ _ (b _ _ e (by simpa using ai e hrl0)) (by simpa using ai e hrl0)
   refine jj (xs:=(ks0.map Kd.s).map V.str) (λi σ H'=>∃(acc:List (PV×Nat)) (a:Nat) (o7 o8:Option V),i<=ks0.length/\(iD [c0,c1,c2] z ks0 e=(iD [c0,c1,c2] z (ks0.drop i) a).map λy=>(acc++y.1,y.2))/\acc.length=i/\H' rl=some (.lst (.str W::acc.map λx=>x.1.v x.2))/\KB [] H H'/\σ=[some (.ref ca),some (.str (wd z)),some (.int (p:Nat)),some (.ref t),some (.str W),some (.ref rl),some (.int (a:Nat)),o7,o8]) ⟨[],e,none,none,GF _,by rw[HX];cases iD [c0,c1,c2] z ks0 e<;>rfl,rfl,s3,h03,rfl⟩ (λi σ H' _ _=>st H') ?_ ?_
   ·rintro i x σ H' hx ⟨acc,a,o7,o8,hi,ep,hacc,hrl',h0',rfl⟩;have hi2:i<ks0.length:=by have:=(Gq.mp hx).1;rw[Gx,Gx] at this;exact this
    obtain rfl:x=.str (ks0[i]).s:=by
     rw[G8,G8,Gm hi2] at hx;exact (Option.some.inj hx).symm
    rw[HY hi2,iD] at ep;generalize ks0[i]=k at *;unfold bq;refine ao λM hM=>?_;walk_at "rz";refine⟨ca,[c0,c1,c2],z,a,k,rfl,hc.kb h0',hR,hb,hz,λv H5 k5 o5=>?_⟩;rw[hM];clear hM M;have h05:=h0'.trans k5
    cases c3:tF [c0,c1,c2] z a k with
    |none =>
     rw[c3] at ep o5;obtain rfl:v=.aQ:=o5;have ep':iD [c0,c1,c2] z ks0 e=none:=ep;rw[ep'] at q;refine ao λM hM=>?_;walk_at "rz";exact q _ _ h05 rfl
    |some x =>
     rw[c3] at ep o5;obtain⟨t5,rfl,ht5⟩:=o5;refine ao λM hM=>?_;exists Gn (show ¬ V.ref t5=V.aQ from V.noConfusion);rw[hM];clear hM M;refine ao λM hM=>?_;exists aG ht5;have hr5:=k5 _ _ hrl' (by simp)
     refine⟨.inl ⟨rfl,_,bZ.of hr5⟩,rl,_,_,rfl,rfl,hr5,GI (show _<4 by rw[GC,Gx];lia) (by decide),?_⟩
     rw[hM];clear hM M;have nt:t5≠rl:=λz=>by rw[z,hr5] at ht5;cases ht5
     have e6:(V.str W::acc.map λx=>x.1.v x.2)++[x.1.v x.2]=.str W::(acc++[x]).map λx=>x.1.v x.2:=by rw[GO];rfl
     rw[e6];have s6:upd H5 rl (.lst (.str W::(acc++[x]).map λx=>x.1.v x.2)) rl=_:=aa;have ht6:=(ae (o:=HO.lst (.str W::(acc++[x]).map λx=>x.1.v x.2)) (H:=H5) nt).trans ht5;have h06:KB [] H (upd H5 rl (.lst (.str W::(acc++[x]).map λx=>x.1.v x.2))):=λc o e _=>by rw[ae (ai e hrl0)];exact h05 _ _ e (by simp)
     generalize upd H5 rl (.lst (.str W::(acc++[x]).map λx=>x.1.v x.2))=H6 at *;dsimp only;refine jU λM hM=>?_;exists aG ht6;rw[hM];refine⟨acc++[x],x.2,some _,some _,hi2,?_,by rw[List.length_append,hacc];rfl,s6,h06,rfl⟩
     rw[ep,Option.bind_some]
     cases iD [c0,c1,c2] z (ks0.drop (i+1)) x.2 with
     |none=>rfl
     |some y=>show some (acc++(x::y.1),y.2)=some ((acc++[x])++y.1,y.2);rw[GS];rfl
   ·rintro σ H' ⟨acc,a,o7,o8,_,ep,_,hrl',h0',rfl⟩;rw[Gx,Gx,Jc] at ep;have ep':iD [c0,c1,c2] z ks0 e=some (acc,a):=by rw[ep];show some (acc++[],a)=_;rw[HL]
    rw[ep'] at q;show N _ _;rw[hN];clear hN N;exists aF hrl';intro rt hrt;have k7:KB [] H' (upd H' rt (.tup (.str W::acc.map λx=>x.1.v x.2))):=KB.new hrt;have s7:upd H' rt (.tup (.str W::acc.map λx=>x.1.v x.2)) rt=_:=aa;generalize upd H' rt (.tup (.str W::acc.map λx=>x.1.v x.2))=H7 at *;refine⟨by decide,λtt htt=>q _ _ ((h0'.trans k7).trans (KB.new htt)) ⟨tt,rt,rfl,aa,?_⟩⟩
    rw[ae (ai s7 htt),s7];show some (HO.tup (V.str W::_))=some (.tup (RW.v ⟨wi,acc⟩));unfold RW.v;rw[hw9]
noncomputable def Az(K:LA):Sp:=λvs H Q _=>∃(a:Addr) (ls:List Int),vs=[.ref a]/\H a=some (.tup (iV ls))/\jE ls/\∀H',KB [] H H'->Q (.bl (m5 ls)) H'
theorem AG(T:Txt K mg)(F:HasFn K mg "can_be" gB ["lengths"]):aq P w K mg base bf 1 "can_be" ["lengths"] (Az K):=by
 refine F.fQ cz (λvs H Q E h=>?_) (λf cdv A outer s H vs Q E hr h=>?_)
 ·obtain⟨a,ls,rfl,_⟩:=h;rfl
 ·have hu:=aZ hr;obtain⟨a,ls,rfl,ha,hL,q⟩:=h;refine⟨_,(Z.ag (Z.set (i:=1) cz.nd rfl (by right) Z.int)
   (Z.ag (Z.set (i:=2) cz.nd rfl (by right) Z.int)
   (Z.ag (Z.set (i:=3) cz.nd rfl (by right) (Z.cb (Z.bK K rfl) rfl T.bB (by decide +kernel) (Z.cons (Z.v 0) Z.nil)))
   (Z.ag (Z.eS GQ rfl (Z.any K rfl (Z.cb (Y.sR K rfl) rfl T.jv (by decide +kernel) (Z.cons (Z.v 0) Z.nil))) (Z.bo (i:=4) cz.nd rfl (by right)) (Z.ag (Z.cu (Z.aR aO (Z.v 1) Z.int) (Z.ar (Z.ret Z.bl)) Z.bj)
   (Z.ag (Z.oK GQ (Z.tw (Z.tV (Z.aR i3 (Z.v 2) (Z.v 4)) (Z.kP (Z.aR i3 (Z.v 1) (Z.v 3))))) (Z.ag (Z.set (i:=1) cz.nd rfl (by right) (Z.op bN (Z.v 1) Z.int))
   (Z.ar (Z.set (i:=2) cz.nd rfl (by right) (Z.op (Z.aP K rfl) (Z.v 2) Z.int)))))
   (Z.ag (Z.cu (Z.aR rh (Z.v 1) (Z.v 3)) (Z.ar (Z.ret Z.bl)) Z.bj)
   (Z.ag (Z.set (i:=1) cz.nd rfl (by right) (Z.op bO (Z.v 1) Z.int))
   (Z.ar (Z.set (i:=3) cz.nd rfl (by right) (Z.op bO (Z.v 3) Z.int))))))))
   (Z.ar (Z.ret Z.bl)))))),?_⟩
  refine ao λN hN=>?_;walk_at "rz";rw[hN];clear hN N;refine ao λN hN=>?_;walk_at "rz";rw[hN];clear hN N;refine ao λN hN=>?_;exists aG ha;rw[hN];clear hN N;refine ao λN hN=>?_;walk_at "rz";refine⟨a,ls,rfl,b8.of ha,by have:=hL.2.1;lia,λrs hp hs l hl=>?_⟩
  have k1:KB [] H (upd H l (.lst (rs.map V.int))):=KB.new hl;have s1:upd H l (.lst (rs.map V.int)) l=some (.lst (iV rs)):=aa;generalize upd H l (.lst (rs.map V.int))=H1 at *;simp only[aF s1];refine fU (xs:=iV rs) (λi σ H'=>∃(f d n:Int) (s4:Option V),H1=H'/\(∀x∈rs.drop i,1<=x/\x<=40/\d<=x)/\0<=f/\0<=d/\n=(rs.drop i).length/\(m5 ls=true ↔ Kr.fit ((rs.drop i).map Int.toNat) f.toNat d.toNat 40)/\σ=[some (.ref a),some (.int f),some (.int d),some (.int n),s4]) ⟨1,0,_,none,rfl,λx hx=>by have:=hL.2.2 x (hp.mem_iff.mp hx);lia,by decide,by decide,by rw[HX,hp.length_eq,bR],?_,rfl⟩ ?_ ?_ ?_
  ·unfold m5 KS Kr.fit;rw[IS,HX,Kr.gR (hp.map Int.toNat),show (1:Int).toNat*2^(40-(0:Int).toNat)=2^40 from rfl]
  ·rintro i σ H' _ ⟨f,d,n,s4,rfl,_⟩;exact bZ.of s1
  ·rintro i x σ H' hx ⟨f,d,n,s4,rfl,hb,f0,d0,hn,hi,rfl⟩;obtain⟨hir,rfl⟩:=j8 hx;have ed:=HY hir;have hs2:(rs.drop i).Pairwise (·<=·):=List.Pairwise.drop hs;rw[ed] at hb hn hi hs2;generalize rs[i]=l at *;generalize rs.drop (i+1)=r at *;obtain⟨hl1,hl2,hl3⟩:=hb l (by simp)
   have hle:∀x∈r,l<=x:=(GY.mp hs2).1;unfold bq;refine ao λM hM=>?_;by_cases hf:f=0
   ·exists Gp hf;have:m5 ls=false:=by
     cases c:m5 ls with
     |false=>rfl
     |true=>have:=hi.mp c;rw[hf] at this;exact absurd this Kr.wW
    rw[this] at q;exact q _ k1
   ·exists Gn hf;rw[hM];clear hM M;refine ao λM hM=>?_;refine⟨λm σ H'=>H1=H'/\∃f d:Int,0<f/\0<=d/\d<=l/\m=(l-d).toNat/\(m5 ls=true ↔ Kr.fit ((l::r).map Int.toNat) f.toNat d.toNat 40)/\σ=[some (.ref a),some (.int f),some (.int d),some (.int n),some (.int l)],⟨_,rfl,f,d,by lia,d0,hl3,rfl,hi,rfl⟩,?_⟩
    rintro m σ H' ⟨rfl,f,d,f0,d0,dl,rfl,hi,rfl⟩;have after:(d=l\/n<=f)->M [some (.ref a),some (.int f),some (.int d),some (.int n),some (.int l)] H1:=λhc=>by
     rw[hM];clear hM M;refine ao λM hM=>?_;by_cases h3:n<=f
     ·exists Gp h3;have:m5 ls=true:=hi.mpr (Kr.qj (λx hx=>by
       obtain⟨y,hy,rfl⟩:=HP.mp hx;rcases Gv.mp hy with rfl|hy
       ·lia
       ·have:=hle y hy;lia) (by rw[Gx];lia))
      rw[this] at q;exact q _ k1
     ·exists Gn h3;rw[hM];clear hM M;refine ao λM hM=>?_;walk_at "rz";rw[hM];clear hM M;refine jU λM hM=>?_;walk_at "rz";rw[hM];have hd:d=l:=hc.resolve_right h3;subst hd;refine⟨f-1,d,n-1,some _,rfl,λx hx'=>⟨(hb x (by simp[hx'])).1,(hb x (by simp[hx'])).2.1,hle x hx'⟩,by lia,d0,by rw[hn,GC];lia,?_,rfl⟩
      rw[hi,GV,Kr.xm (by lia),show (f-1).toNat=f.toNat-1 by lia]
    by_cases c1:d<l
    ·by_cases c2:f<n
     ·exists Gp c1,Gp c2;refine⟨λσ' H'=>∃m',m'<(l-d).toNat/\(H1=H'/\∃f d:Int,0<f/\0<=d/\d<=l/\m'=(l-d).toNat/\(m5 ls=true ↔ Kr.fit ((l::r).map Int.toNat) f.toNat d.toNat 40)/\σ'=[some (.ref a),some (.int f),some (.int d),some (.int n),some (.int l)]),λ_ _ h=>h,?_⟩;refine⟨.inr (by decide),?_⟩
      refine⟨_,?_,rfl,f*2,d+1,by lia,by lia,by lia,rfl,?_,rfl⟩
      ·lia
      ·rw[hi,Kr.ql (l:=l.toNat) (by lia) (by lia),show (f*2).toNat=f.toNat*2 by lia,show (d+1).toNat=d.toNat+1 by lia]
     ·exists Gp c1,Gn c2;exact after (.inr (by lia))
    ·exists Gn c1;exact after (.inl (by lia))
  ·rintro σ H' ⟨f,d,n,s4,rfl,_,_,_,_,hi,rfl⟩;rw[bR,Jc] at hi;show N _ _;rw[hN];clear hN N;walk_at "rz";have:m5 ls=true:=hi.mpr (GF _);rw[this] at q;exact q _ k1
noncomputable def FQ:Option (List Nat)->V
 |none=>.aQ
 |some w=>.str (wd w)
theorem lS(ws:List (List Nat)):(wV ws).length=ws.length:=Gx ..
noncomputable def uJ(K:LA):Sp:=λvs H Q _=>∃(a:Addr) (ls:List Int),vs=[.ref a]/\H a=some (.tup (iV ls))/\jE ls/\m5 ls=true/\∀b H',KB [] H H'->H' b=some (.tup (wV (wordsOf Cw.dN ls)))->Q (.ref b) H'
theorem zS(T:Txt K mg)(F:HasFn K mg "code_of" cL ["lengths"])(hcan_be:aq P w K mg base bf 1 "can_be" ["lengths"] (Az K))(hword_behind:aq P w K mg base bf 1 "word_behind" ["ahead","length"] Ds):aq P w K mg base bf 4 "code_of" ["lengths"] (uJ K):=by
 obtain⟨c,Pt,htab,hcc⟩:=T.nV.ex;refine F.EW dG (λvs H Q E h=>?_) (λf cdv A outer s H vs Q E hr hm gz h=>?_)
 ·obtain⟨a,ls,rfl,_⟩:=h;rfl
 ·have:=hcc _ _ ⟨hm,gz⟩;subst this;have hu:=aZ hr;obtain⟨a,ls,rfl,ha,hL,ho,q⟩:=h;refine⟨_,(Z.ag (Z.cu (Z.yB (Z.ll K rfl (Z.fn hcan_be (hr.mono (by decide)) rfl au (Z.cons (Z.v 0) Z.nil)))) (Z.ar Z.Ge) Z.bj)
   (Z.ag (Z.setC (j:=1) dG.nd rfl (by right) (osc:=af cL) (ON:=["lengths","words","ahead","thing"]) (own:=["length"]) (N:=["length","lengths","words","ahead","thing"]) ⟨rfl,by decide +kernel,rfl,by decide +kernel,by decide +kernel,by decide +kernel,by decide +kernel,by decide +kernel⟩ rfl rfl rfl (Z.any K rfl (Z.v 0)) (λ_ _ _ _=>(Z.bo (i:=0) (show List.Nodup (["length","lengths","words","ahead","thing"]:List Str) by decide +kernel) rfl (by right))) (λ_ _ _ _=>Z.xX) (λ_ _ _ _=>Z.str))
   (Z.ag (Z.set (i:=2) dG.nd rfl (by right) Z.aQ)
   (Z.ag (Z.eS GQ rfl (Z.any K rfl (Z.Dr (k:=0) (j:=0) K rfl (by decide) htab rfl rfl rfl rfl rfl T.jv (Z.cons (Z.ct Y.nj rfl T.cY (by decide +kernel) (Z.cons (Z.cb (Z.bK K rfl) rfl T.bB (by decide +kernel) (Z.cons (Z.v 0) Z.nil)) Z.nil)) Z.nil) (hr.mono (by decide)) rfl (by decide) rfl rfl rfl rfl rfl rfl rfl (λ_ _ _ _=>rfl))) (Z.bo (i:=3) dG.nd rfl (by right)) (Z.ag (Z.asg (Z.fn hword_behind (hr.mono (by decide)) rfl au (Z.cons (Z.v 2) (Z.cons (Z.ix (Z.ax K rfl hu) (Z.v 0) (Z.v 3)) Z.nil))) (Z.lH (Z.v 1) (Z.v 3)))
   (Z.ar (Z.set (i:=2) dG.nd rfl (by right) (Z.ix (Z.ax K rfl hu) (Z.v 1) (Z.v 3))))))
   (Z.ar (Z.ret (Z.ct (Z.cX K rfl) rfl T.cF (by decide +kernel) (Z.cons (Z.v 1) Z.nil)))))))),?_⟩
  refine ao λN hN=>?_;walk_at "rz";refine⟨a,ls,rfl,ha,hL,λH1 k1=>?_⟩;exists ho,Bool.not_true;rw[Gn (λz=>Bool.noConfusion z),hN];clear hN N;have ha1:=k1 _ _ ha (by simp)
  refine ao λN hN=>?_;exists aG ha1;refine dD (xs:=iV ls) (Gw (show _<=20 by rw[bR];exact hL.2.1) (by decide)) (λD i ys H'=>H' D=some (.lst ys)/\ys=wV (List.replicate i [])/\KB [] H1 H'/\H1 D=none) (λD hD=>⟨aa,rfl,KB.new hD,hD⟩) (λD i ys H' h=>⟨h.1,by rw[h.2.1,lS,G9]⟩) (λD i ys H' h=>b8.of (h.2.2.1 _ _ ha1 (by simp))) ?_ ?_
  ·rintro D i ys H' x R hx ⟨g1,rfl,g3,g4⟩ kk;walk_at "rz";refine kk _ _ g1 ⟨aa,?_,λb o e _=>?_,g4⟩
   ·rw[List.replicate_succ',wV,wV,GO];rfl
   ·rw[ae (ai e g4)];exact g3 b o e (by simp)
  rintro D ys H2 ⟨g1,rfl,g3,g4⟩;rw[bR] at g1;show N _ _;rw[hN];clear hN N;refine ao λN hN=>?_;walk_at "rz";rw[hN];clear hN N;have h02:=k1.trans g3;have D0:H D=none:=k1.free (by simp) g4
  have ha2:=h02 _ _ ha (by simp)
  refine ao λN hN=>?_;exists aG ha2;refine .inl ⟨_,rfl,λr hr0=>?_⟩;have k3:KB [] H2 (upd H2 r (.mN 0 ((iV ls).length:Nat))):=KB.new hr0;have s3:upd H2 r (.mN 0 ((iV ls).length:Nat)) r=some (.mN 0 (ls.length:Nat)):=by rw[aa,bR]
  generalize upd H2 r (.mN 0 ((iV ls).length:Nat))=H3 at *;have le:(j5 ls.length).length=ls.length:=by rw[Gx,Hc]
  have ha3:=k3 _ _ ha2 (by simp)
  refine⟨r,j5 ls.length,ls,rfl,⟨ls.length,s3,rfl⟩,le.symm,by rw[le];have:=hL.2.1;lia,λi v k e1 e2 H' g=>?_,λH4 l g hl=>?_⟩
  ·have hi:i<ls.length:=(Gq.mp e2).1;have e3:(j5 ls.length)[i]?=some (.int (i:Int)):=by simp[hi]
   rw[e3] at e1;cases e1;exact⟨_,a,iV ls,rfl,rfl,b8.of (g.same _ _ ha3),bI (by unfold iV;rw[G8,e2];rfl)⟩
  have eo:iK ls (j5 ls.length)=(aH ls).map λk=>V.int ((k:Nat):Int):=y_ ..;rw[eo];have k4:KB [] H3 (upd H4 l (.lst ((aH ls).map λk=>V.int ((k:Nat):Int)))):=λb o e _=>by rw[ae (ai (g.same _ _ e) hl)];exact g.same _ _ e
  have s4:upd H4 l (.lst ((aH ls).map λk=>V.int ((k:Nat):Int))) l=_:=aa;have gD4:=k4 _ _ (k3 _ _ g1 (by simp)) (by simp)
  have lD:l≠D:=λz=>by
   have:=g.same _ _ (k3 _ _ g1 (by simp))
   rw[<- z,hl] at this;cases this
  generalize upd H4 l (.lst ((aH ls).map λk=>V.int ((k:Nat):Int)))=H5 at *;have h05:KB [] H H5:=h02.trans (k3.trans k4);have a5:a≠D:=λz=>by rw[z,D0] at ha;cases ha
  clear k3 k4 g hl hr0 s3 ha3 le eo g1 h02 ha2 g3 g4 ha1 k1;refine fU (xs:=(aH ls).map λk=>V.int ((k:Nat):Int)) (λi σ H'=>∃o:Option V,i<=(aH ls).length/\(∀v,(eW ls ((aH ls).take i)).1=some v->v.length<=40)/\H' D=some (.lst (wV (eW ls ((aH ls).take i)).2))/\H' l=some (.lst ((aH ls).map λk=>V.int ((k:Nat):Int)))/\KB [] H H'/\σ=[some (.ref a),some (.ref D),some (FQ (eW ls ((aH ls).take i)).1),o]) ⟨none,GF _,(λv z=>by cases z),gD4,s4,h05,rfl⟩ (λi σ H' _ h=>by obtain⟨o,_,_,_,h,_⟩:=h;exact bZ.of h) ?_ ?_
  ·rintro i x σ H' hx ⟨o,hi,hw,gD,gl,h0,rfl⟩;have hio:i<(aH ls).length:=by have:=(Gq.mp hx).1;rw[Gx] at this;exact this
   obtain rfl:x=.int (((aH ls)[i]:Nat):Int):=by
    rw[G8,Gm hio] at hx;exact (Option.some.inj hx).symm
   have hth:(aH ls)[i]<ls.length:=gP (GL hio);have eT:(aH ls).take (i+1)=(aH ls).take i++[(aH ls)[i]]:=by rw[Kf,Gm hio];rfl
   rw[eT];generalize (aH ls)[i]=th at *;generalize (aH ls).take i=done at *;have ex:bX (iV ls) (th:Int)=some (.int ls[th]):=A1 hth;have hlt:=hL.2.2 _ (GL hth);have en:ls[th]=((aT ls th:Nat):Int):=by
    unfold aT;rw[Gy,Gm hth];simp;lia
   have hn20:aT ls th<=40:=by lia
   have eD:eW ls (done++[th])=Cw.along Cw.dN (aT ls) [th] (eW ls done):=Cw.e_ _ _ _;have hwl:(eW ls done).2.length=ls.length:=Ci ls done;have gt:=aG (h0 _ _ ha (by simp))
   obtain⟨n,hn⟩:∃n,aT ls th=n:=⟨_,rfl⟩;rw[hn] at en hn20;have fin:∀y:List Nat,y.length<=40->eW ls (done++[th])=(some y,(eW ls done).2.set th y)->∀M,M=(λσ H'=>∃o:Option V,i+1<=(aH ls).length/\(∀v,(eW ls (done++[th])).1=some v->v.length<=40)/\H' D=some (.lst (wV (eW ls (done++[th])).2))/\H' l=some (.lst ((aH ls).map λk=>V.int ((k:Nat):Int)))/\KB [] H H'/\σ=[some (.ref a),some (.ref D),some (FQ (eW ls (done++[th])).1),o])->M [some (.ref a),some (.ref D),some (.str (wd y)),some (.int (th:Nat))] (upd H' D (.lst ((wV (eW ls done).2).set th (.str (wd y))))):=λy hy e M hM=>by
    rw[hM,e];refine⟨some _,hio,λv z=>by cases z;exact hy,?_,by rw[ae lD];exact gl,λb u e _=>by rw[ae (ai e D0)];exact h0 _ _ e (by simp),rfl⟩
    rw[aa];unfold wV;rw[JU]
   have xk:lM (wV (eW ls done).2).length (th:Int)=some th:=by rw[jc (by lia) (by rw[lS,hwl];lia),Hb]
   have setI:∀y:List Nat,bX ((wV (eW ls done).2).set th (.str (wd y))) (th:Int)=some (.str (wd y)):=λy=>bI (IP (by rw[lS,hwl];exact hth))
   unfold bq;refine ao λM hM=>?_;exists gt,ex
   cases hs:(eW ls done).1 with
   |none =>
    refine⟨n,hn20,.inl ⟨by rw[en];rfl,?_⟩⟩
    exists gD,xk;rw[hM];clear hM M;dsimp only;refine jU λM hM=>?_;exists setI;refine fin _ (by rw[List.length_replicate];exact hn20) ?_ M hM
    rw[eD];generalize eW ls done=st at *;obtain⟨x,ws⟩:=st;obtain rfl:x=none:=hs;subst hn;rfl
   |some v =>
    refine⟨n,hn20,.inr ⟨v,by rw[en];rfl,hw v hs,?_⟩⟩
    exists gD,xk;rw[hM];clear hM M;dsimp only;refine jU λM hM=>?_;exists setI;refine fin _ (qZ (hw v hs) hn20) ?_ M hM;rw[eD];generalize eW ls done=st at *;obtain⟨x,ws⟩:=st;obtain rfl:x=some v:=hs;subst hn;rfl
  ·rintro σ H' ⟨o,_,_,gD,_,h0,rfl⟩;rw[Gx,Iz] at gD;show N _ _;rw[hN];clear hN N;exists aF gD;exactλb hb=>q b _ (h0.trans (KB.new hb)) aa
noncomputable def kZ:Sp:=λvs H Q _=>vs=[]/\∀l,H l=none->Q (.ref l) (upd H l (.lst (bz.map V.str)))
theorem sh(F:HasFn K mg "_law_words" d9 []):aq P w K mg base bf 1 "_law_words" [] kZ:=by
 refine F.fQ jS (λvs H Q E h=>?_) (λf cdv A outer s H vs Q E hr h=>?_)
 ·obtain⟨rfl,_⟩:=h;rfl
 ·obtain⟨rfl,q⟩:=h;refine⟨_,(Z.ar (Z.ret (Z.lst (Z.consts rfl)))),?_⟩;walk_at "rz";exact⟨by decide,λp hp=>q p hp⟩
noncomputable def iN:Sp:=λvs H Q _=>∃(n:Int) (k:Nat),vs=[.int n,.int (k:Nat)]/\k<=40/\Q (.str (wd (d7 n k []))) H
theorem wC(T:Txt K mg)(F:HasFn K mg "_law_bits" dW ["number","many"]):aq P w K mg base bf 1 "_law_bits" ["number","many"] iN:=by
 refine F.fQ cP (λvs H Q E h=>?_) (λf cdv A outer s H vs Q E hr h=>?_)
 ·obtain⟨n,k,rfl,_⟩:=h;rfl
 ·have hu:=aZ hr;obtain⟨n,k,rfl,hk,q⟩:=h;refine⟨_,(Z.ag (Z.set (i:=2) cP.nd rfl (by right) Z.str)
   (Z.ag (Z.eS GQ rfl (Z.nF rfl T.cY (Z.cons (Z.v 1) Z.nil)) (Z.bo (i:=3) cP.nd rfl (by right)) (Z.ag (Z.set (i:=2) cP.nd rfl (by right) (Z.op (Z.aP K rfl) (Z.ix (Z.ax K rfl hu) Z.str (Z.op bY (Z.v 0) Z.int)) (Z.v 2)))
   (Z.ar (Z.set (i:=0) cP.nd rfl (by right) (Z.op lG (Z.v 0) Z.int)))))
   (Z.ar (Z.ret (Z.v 2))))),?_⟩
  refine ao λN hN=>?_;walk_at "rz";rw[hN];clear hN N;refine ao λN hN=>?_;walk_at "rz";refine⟨by lia,by lia,?_⟩
  rw[Hb];refine cm (λi σ H'=>∃(m:Int) (acc:List Nat) (o:Option V),H'=H/\i<=k/\d7 m (k-i) acc=d7 n k []/\acc.length=i/\σ=[some (.int m),some (.int (k:Nat)),some (.str (wd acc)),o]) ⟨n,[],none,rfl,GF _,rfl,rfl,by rw[kX]⟩ ?_ ?_
  ·rintro i σ H' hi ⟨m,acc,o,rfl,_,e,hl,rfl⟩;unfold bq;refine ao λM hM=>?_;exists Eg;refine⟨by decide,by decide +kernel,?_⟩
   rw[show (⟨#[dg m]⟩:Str)=wd [dg m] from rfl,ay,ay,eB];refine⟨Gw (show _<=50 by simp;lia) (by decide),?_⟩
   rw[hM];clear hM M;refine jU λM hM=>?_;walk_at "rz";refine⟨⟨by decide,by decide⟩,?_⟩
   rw[hM];refine⟨m / 2,dg m::acc,some _,rfl,hi,?_,by rw[GC,hl],rfl⟩
   rw[<- e,show k-i=(k-(i+1))+1 by lia]
   rfl
  ·rintro σ H' ⟨m,acc,o,rfl,_,e,_,rfl⟩;rw[Io] at e;show N _ _;rw[hN];clear hN N;walk_at "rz";rw[<- e] at q;exact q
noncomputable def b7(H:Hp)(p dq:Addr)(n:Nat):Prop:=∃(cells:List Int) (i t z:Int),H p=some (.lst [.ref dq,.int i,.int t,.int z])/\H dq=some (.lst (iV cells))/\(∀c∈cells,0<=c)/\0<=i/\i<=cells.length/\cells.length<=63/\0<=t/\t<=n
theorem b7.mono{p:Addr}{n m:Nat}(h:b7 H p dq n)(hm:n<=m):b7 H p dq m:=by
 obtain⟨cells,i,t,z,h1,h2,h3,h4,h5,h6,h7,h8⟩:=h;exact⟨cells,i,t,z,h1,h2,h3,h4,h5,h6,h7,by lia⟩
theorem b7.keep{p:Addr}{n:Nat}(h:b7 H p dq n)(k:KB ex H H')(n1:p∉ex)(n2:dq∉ex):b7 H' p dq n:=by
 obtain⟨cells,i,t,z,h1,h2,h3⟩:=h;exact⟨cells,i,t,z,k _ _ h1 n1,k _ _ h2 n2,h3⟩
theorem b7.kb{p:Addr}{n:Nat}(h:b7 H p dq n)(k:KB [] H H'):b7 H' p dq n:=h.keep k (by simp) (by simp)
theorem b7.lst{p:Addr}{n:Nat}(h:b7 H p dq n):∀b∈[p,dq],∃ys,H b=some (.lst ys):=by
 obtain⟨cells,i,t,z,h1,h2,h3⟩:=h;intro b hb;simp only[Gv,GG,Hj] at hb;rcases hb with rfl|rfl
 ·exact⟨_,h1⟩
 ·exact⟨_,h2⟩
theorem b7.new{p l:Addr}{n:Nat}(h:b7 H p dq n)(hl:H l=none):l∉[p,dq]:=λz=>by
 obtain⟨ys,e⟩:=h.lst l z;rw[hl] at e;cases e
theorem b7.tup{p a:Addr}{n:Nat}{xs:List V}(h:b7 H p dq n)(k:KB [p,dq] H H')(e:H a=some (.tup xs)):H' a=some (.tup xs):=AE k h.lst e
noncomputable def zU:Sp:=λvs H Q _=>∃c k:Int,vs=[.int c,.int k]/\0<=k/\k<2^60/\∀v:Int,Q (.int v) H
theorem Bi(F:HasFn K mg "_law_mix" eX ["number","turn"]):aq P w K mg base bf 1 "_law_mix" ["number","turn"] zU:=by
 refine F.fQ fE (λvs H Q E h=>?_) (λf cdv A outer s H vs Q E hr h=>?_)
 ·obtain⟨c,k,rfl,_⟩:=h;rfl
 ·obtain⟨c,k,rfl,h0,h1,q⟩:=h;have hu:=aZ hr;refine⟨_,(Z.ag (Z.set (i:=2) fE.nd rfl (by right) (Z.op bY (Z.op (Z.aP K rfl) (Z.op (Z.aP K rfl) (Z.op (Z.aP K rfl) (Z.op bY (Z.v 0) Z.int) (Z.op bN (Z.op bN Z.int (Z.v 1)) (Z.v 1))) (Z.op bN Z.int (Z.v 1))) Z.int) Z.int))
   (Z.ag (Z.set (i:=2) fE.nd rfl (by right) (Z.op bY (Z.op bN (Z.v 2) (Z.v 2)) Z.int))
   (Z.ar (Z.ret (Z.op lG (Z.op bY (Z.op (Z.aP K rfl) (Z.op bN (Z.v 2) Z.int) (Z.v 1)) Z.int) Z.int))))),?_⟩
  refine ao λN hN=>?_;walk_at "rz";refine⟨by decide,.inl (by decide),.inr ⟨by lia,by lia⟩,.inl (by decide),by decide,?_⟩
  rw[hN];clear hN N;generalize hx:(c % 1999999927+7001*k*k+40009*k+17) % 2147483629=x;have hx1:0<=x/\x<2147483629:=by rw[<- hx];exact⟨KY _ (by decide),Kn _ (by decide)⟩
  refine ao λN hN=>?_;walk_at "rz";refine⟨.inl ⟨by lia,by lia⟩,by decide,?_⟩
  rw[hN];clear hN N;generalize hy:x*x % 2147483587=y;have hy1:0<=y/\y<2147483587:=by rw[<- hy];exact⟨KY _ (by decide),Kn _ (by decide)⟩
  walk_at "rz";exact⟨.inr (by decide),by decide,⟨by decide,by decide⟩,q _⟩
noncomputable def uz(K:LA):Sp:=λvs H Q _=>∃(a:Addr) (ns:List Int),vs=[.ref a]/\bZ K H a (ns.map V.int)/\∀p dq H',b7 H' p dq 0->KB [] H H'->Q (.ref p) H'
theorem yr(T:Txt K mg)(F:HasFn K mg "_law_deck" dn ["script"]):aq P w K mg base bf 1 "_law_deck" ["script"] (uz K):=by
 refine F.fQ lT (λvs H Q E h=>?_) (λf cdv A outer s H vs Q E hr h=>?_)
 ·obtain⟨a,ns,rfl,_⟩:=h;rfl
 ·obtain⟨a,ns,rfl,hS,q⟩:=h;have hu:=aZ hr;refine⟨_,(Z.ar (Z.ret (Z.lst (Z.cons (Z.comp (osc:=af dn) (ON:=["script"]) (own:=["cell"]) (N:=["cell","script"]) ⟨rfl,by decide +kernel,rfl,by decide +kernel,by decide +kernel,by decide +kernel,by decide +kernel,by decide +kernel⟩ rfl rfl rfl (Z.any K rfl (Z.slice (Z.Ae K rfl) (Z.v 0) Z.CS (Z.m6 Z.int))) (λ_ _ _ _=>(Z.bo (i:=0) (show List.Nodup (["cell","script"]:List Str) by decide +kernel) rfl (by right))) (λ_ _ _ _=>Z.xX) (λ_ _ _ _=>(Z.cb wA rfl T.DY (by decide +kernel) (Z.cons (Z.v 0) Z.nil)))) (Z.cons Z.int (Z.cons Z.int (Z.cons (Z.op bY (Z.op (Z.aP K rfl) (Z.cb (Z.Em K rfl rfl) rfl T.E7 (by decide +kernel) (Z.cons (Z.slice (Z.Ae K rfl) (Z.v 0) Z.CS (Z.m6 Z.int)) Z.nil)) (Z.op bN Z.int (Z.cb (Z.Bq K rfl) rfl T.bB (by decide +kernel) (Z.cons (Z.v 0) Z.nil)))) Z.int) Z.nil))))))),?_⟩
  have ec:iM (ns.map V.int) none (some 63)=iV (ns.take 63):=by
   unfold iM iV;rw[HT.gI,show HT.ck (ns.map V.int).length (ns.map V.int).length (some 63)=min 63 (ns.map V.int).length from HT.e7 _ _ 63,Gx,Lz,HX,<- Lq];congr 1;rw[List.take_eq_take_iff];lia
  have hm:(ns.take 63).length<=63:=by rw[GP];lia
  generalize ns.take 63=ms at ec hm;walk_at "rz";refine⟨a,_,rfl,hS,λc hc=>?_⟩;rw[ec];have k1:KB [] H (upd H c (.lst (iV ms))):=KB.new hc;have s1:upd H c (.lst (iV ms)) c=some (.lst (iV ms)):=aa;generalize upd H c (.lst (iV ms))=H1 at *;simp only[aF s1];refine pS (xs:=iV ms) (Gw (show _<=63 by rw[bR];exact hm) (by decide)) (λD i ys H'=>H' D=some (.lst ys)/\KB [] H1 H'/\H1 D=none/\∃bs:List Int,ys=iV bs/\bs.length=i/\∀b∈bs,0<=b) (λD hD=>⟨aa,KB.new hD,hD,[],rfl,rfl,λb hb=>nomatch hb⟩) (λD i ys H' h=>⟨h.1,by obtain⟨_,_,_,bs,rfl,e,_⟩:=h;rw[bR,e]⟩) (λD i ys H' h=>bZ.of (h.2.1 _ _ s1 (by simp))) ?_ ?_
  ·rintro D i ys H' x R hx ⟨g1,g2,g3,bs,rfl,g4,g5⟩ k;obtain⟨hi,rfl⟩:=j8 hx;walk_at "rz";refine k _ _ g1 ⟨aa,λb o e _=>?_,g3,bs++[_],(lg bs [_]).symm,by rw[Gr,g4];rfl,λb hb=>?_⟩
   ·rw[ae (ai e g3)];exact g2 b o e (by simp)
   ·rcases Hh.mp hb with z|z
    ·exact g5 b z
    ·rw[G6.mp z];split<;>lia
  ·rintro D ys H' ⟨g1,g2,g3,bs,rfl,g4,g5⟩;rw[bR] at g4;refine⟨a,_,rfl,(k1.trans g2).DS (by simp) hS,λd hd=>?_⟩
   rw[ec];have k2:KB [] H' (upd H' d (.lst (iV ms))):=KB.new hd;have s2:upd H' d (.lst (iV ms)) d=some (.lst (iV ms)):=aa;generalize upd H' d (.lst (iV ms))=H2 at *;have kk:=(k1.trans g2).trans k2;refine⟨d,ms,rfl,bZ.of s2,.ref a,_,rfl,.inl ⟨_,kk.DS (by simp) hS,rfl⟩,.inl (by decide),by decide,by decide,λp hp=>?_⟩
   have gD:=k2 _ _ g1 (by simp)
   exact q p D _ ⟨bs,0,0,_,aa,by rw[ae (ai gD hp)];exact gD,g5,by decide,by lia,by lia,by decide,by decide⟩ (kk.trans (KB.new hp))
noncomputable def eC:Sp:=λvs H Q _=>∃(p dq:Addr) (m:Int) (n:Nat),vs=[.ref p,.int m]/\b7 H p dq n/\n<2^50/\0<m/\m<2^30/\∀(v:Nat) H',(v:Int)<m->b7 H' p dq (n+1)->KB [p,dq] H H'->Q (.int (v:Nat)) H'
theorem yO(T:Txt K mg)(F:HasFn K mg "_law_draw" dX ["deck","most"])(h_law_mix:aq P w K mg base bf 1 "_law_mix" ["number","turn"] zU):aq P w K mg base bf 2 "_law_draw" ["deck","most"] eC:=by
 refine F.fQ gM (λvs H Q E h=>?_) (λf cdv A outer s H vs Q E hr h=>?_)
 ·obtain⟨p,dq,m,n,rfl,_⟩:=h;rfl
 ·obtain⟨p,c,m,n,rfl,⟨cells,i,t,z,hp,hc,hn0,i0,i1,k63,t0,t1⟩,hn,hm0,hm1,q⟩:=h;have hu:=aZ hr;have hcp:c≠p:=by
   rintro rfl;rw[hp] at hc
   cases cells<;>cases hc
  have sp:=aF hp;have fin:∀(a:Int) (H':Hp),b7 H' p c (n+1)->KB [p,c] H H'->Q (.int (a % m)) H':=λa H' D k=>by
   have h0:=KY a (Int.ne_of_gt hm0);have h1:=Kn a hm0;have:=q (a % m).toNat H' (by lia) D k
   rwa [Int.toNat_of_nonneg h0] at this
  refine⟨_,(Z.ag (Z.asg (Z.op (Z.aP K rfl) (Z.ix (Z.ax K rfl hu) (Z.v 0) Z.int) Z.int) (Z.lH (Z.v 0) Z.int))
   (Z.ag (Z.cu (Z.aR aO (Z.ix (Z.ax K rfl hu) (Z.v 0) Z.int) (Z.cb (Z.bK K rfl) rfl T.bB (by decide +kernel) (Z.cons (Z.ix (Z.ax K rfl hu) (Z.v 0) Z.int) Z.nil))) (Z.ar (Z.ret (Z.op bY (Z.fn h_law_mix (hr.mono (by decide)) rfl au (Z.cons (Z.ix (Z.ax K rfl hu) (Z.v 0) Z.int) (Z.cons (Z.ix (Z.ax K rfl hu) (Z.v 0) Z.int) Z.nil))) (Z.v 1)))) Z.bj)
   (Z.ag (Z.set (i:=2) gM.nd rfl (by right) (Z.ix (Z.ax K rfl hu) (Z.ix (Z.ax K rfl hu) (Z.v 0) Z.int) (Z.ix (Z.ax K rfl hu) (Z.v 0) Z.int)))
   (Z.ag (Z.cu (Z.aR i3 (Z.v 2) (Z.op pB Z.int Z.int)) (Z.ag (Z.asg (Z.op (Z.aP K rfl) (Z.ix (Z.ax K rfl hu) (Z.v 0) Z.int) Z.int) (Z.lH (Z.v 0) Z.int))
   (Z.ar (Z.ret (Z.op bY (Z.fn h_law_mix (hr.mono (by decide)) rfl au (Z.cons (Z.v 2) (Z.cons (Z.ix (Z.ax K rfl hu) (Z.v 0) Z.int) Z.nil))) (Z.v 1))))) Z.bj)
   (Z.ag (Z.asg (Z.op lG (Z.v 2) (Z.v 1)) (Z.lH (Z.ix (Z.ax K rfl hu) (Z.v 0) Z.int) (Z.ix (Z.ax K rfl hu) (Z.v 0) Z.int)))
   (Z.ar (Z.ret (Z.op bY (Z.v 2) (Z.v 1))))))))),?_⟩
  have x1:lM 4 1=some 1:=by decide
  have x2:lM 4 2=some 2:=by decide
  refine ao λN hN=>?_;exists sp,hp,x2;have k1:KB [p,c] H (upd H p (.lst [.ref c,.int i,.int (t+1),.int z])):=KB.set (by simp)
  have p1:upd H p (.lst [.ref c,.int i,.int (t+1),.int z]) p=_:=aa;have c1:upd H p (.lst [.ref c,.int i,.int (t+1),.int z]) c=some (.lst (iV cells)):=by rw[ae hcp];exact hc
  generalize upd H p (.lst [.ref c,.int i,.int (t+1),.int z])=H1 at *;have s1:=aF p1;have sc:=aF c1;rw[hN];clear hN N;refine ao λN hN=>?_;exists s1,sc,bR;by_cases e1:i=(cells.length:Nat)
  ·exists Gp e1,s1;refine⟨_,_,rfl,by lia,by lia,λv=>?_⟩
   walk_at "rz";exact⟨hm0,fin v H1 ⟨cells,i,t+1,z,p1,c1,hn0,i0,i1,k63,by lia,by lia⟩ k1⟩
  ·rw[Gn e1,hN];clear hN N;obtain⟨j,rfl⟩:∃j:Nat,i=(j:Int):=⟨i.toNat,by lia⟩
   have hj:j<cells.length:=by lia
   have aj:=A1 hj;have hv0:=hn0 _ (GL hj);refine ao λN hN=>?_;exists s1,sc,aj;generalize cells[j]=v at *;rw[hN];clear hN N;refine ao λN hN=>?_;walk_at "rz";refine⟨⟨by decide,by decide,by decide⟩,?_⟩
   by_cases e2:v<10^(18:Int).toNat
   ·rw[Gp e2];exists s1,p1,x1;have k2:KB [p,c] H1 (upd H1 p (.lst [.ref c,.int ((j:Int)+1),.int (t+1),.int z])):=KB.set (by simp)
    have p2:upd H1 p (.lst [.ref c,.int ((j:Int)+1),.int (t+1),.int z]) p=_:=aa;have c2:upd H1 p (.lst [.ref c,.int ((j:Int)+1),.int (t+1),.int z]) c=some (.lst (iV cells)):=by rw[ae hcp];exact c1
    generalize upd H1 p (.lst [.ref c,.int ((j:Int)+1),.int (t+1),.int z])=H2 at *;refine⟨_,_,rfl,by lia,by lia,λv=>?_⟩
    walk_at "rz";exact⟨hm0,fin v H2 ⟨cells,(j:Int)+1,t+1,z,p2,c2,hn0,by lia,by lia,k63,by lia,by lia⟩ (k1.trans k2)⟩
   ·rw[Gn e2,hN];clear hN N;have xj:lM (iV cells).length (j:Int)=some j:=by rw[jc (by lia) (by rw[bR];lia)];simp
    refine ao λM hM=>?_;exists s1,c1,xj;refine⟨⟨hm0,by lia⟩,?_⟩
    rw[lA];have k2:KB [p,c] H1 (upd H1 c (.lst (iV (cells.set j (v / m))))):=KB.set (by simp)
    have c2:upd H1 c (.lst (iV (cells.set j (v / m)))) c=_:=aa;have p2:upd H1 c (.lst (iV (cells.set j (v / m)))) p=_:=(ae hcp.symm).trans p1;generalize upd H1 c (.lst (iV (cells.set j (v / m))))=H2 at *;rw[hM];clear hM M;walk_at "rz";refine⟨hm0,fin v H2 ⟨cells.set j (v / m),j,t+1,z,p2,c2,λx hx=>?_,by lia,by rw[HB];lia,by rw[HB];exact k63,by lia,by lia⟩ (k1.trans k2)⟩
    rcases HD hx with hx|rfl
    ·exact hn0 x hx
    ·exact Int.ediv_nonneg hv0 (by lia)
noncomputable def NT(ex:List Addr)(H:Hp):Prop:=∀b∈ex,∀xs,H b≠some (.tup xs)
theorem NT.nil(H:Hp):NT [] H:=λb hb=>nomatch hb
theorem b7.nt{p:Addr}{n:Nat}(h:b7 H p dq n):NT [p,dq] H:=λb hb xs e=>by
 obtain⟨ys,e'⟩:=h.lst b hb;rw[e] at e';cases e'
noncomputable def qY(H:Hp)(b:Addr)(bk:List (List Int)):Prop:=∃as:List Addr,H b=some (.tup (as.map V.ref))/\as.length=bk.length/\∀(i:Nat) (a:Addr),as[i]?=some a->H a=some (.tup (iV (bk.getD i [])))
theorem qY.keep{b:Addr}{bk:List (List Int)}(h:qY H b bk)(k:KB ex H H')(hx:NT ex H):qY H' b bk:=by
 obtain⟨as,h1,h2,h3⟩:=h;exact⟨as,k _ _ h1 λz=>hx _ z _ h1,h2,λi a e=>k _ _ (h3 i a e) λz=>hx _ z _ (h3 i a e)⟩
theorem qY.kb{b:Addr}{bk:List (List Int)}(h:qY H b bk)(k:KB [] H H'):qY H' b bk:=h.keep k (NT.nil _)
theorem p9{l:List α}(h:l.length=3):∃a b c,l=[a,b,c]:=by
 rcases l with _|⟨a,_|⟨b,_|⟨c,_|⟨d,l⟩⟩⟩⟩<;>first|exact⟨_,_,_,rfl⟩ | (exfalso;revert h;simp)
noncomputable def q_(K:LA):Sp:=λvs H Q _=>∃(b:Addr) (bk:List (List Int)),vs=[.ref b]/\qY H b bk/\Bk bk/\∀ca H',H ca=none->KB [] H H'->tY H' ca (fI bk)->Q (.ref ca) H'
theorem xt(T:Txt K mg)(F:HasFn K mg "codes_of" dP ["book"])(hcode_of:aq P w K mg base bf 4 "code_of" ["lengths"] (uJ K)):aq P w K mg base bf 6 "codes_of" ["book"] (q_ K):=by
 refine F.fQ nX (λvs H Q E h=>?_) (λf cdv A outer s H vs Q E hr h=>?_)
 ·obtain⟨b,bk,rfl,_⟩:=h;rfl
 ·have hu:=aZ hr;obtain⟨b,bk,rfl,hb,hB,q⟩:=h;obtain⟨as,hb1,hb2,hb3⟩:=hb;obtain⟨l0,l1,l2,rfl,_,_,_,hl⟩:=hB;refine⟨_,(Z.ar (Z.ret (Z.comp (osc:=af dP) (ON:=["book"]) (own:=["lengths"]) (N:=["lengths","book"]) ⟨rfl,by decide +kernel,rfl,by decide +kernel,by decide +kernel,by decide +kernel,by decide +kernel,by decide +kernel⟩ rfl rfl rfl (Z.any K rfl (Z.v 0)) (λ_ _ _ _=>(Z.bo (i:=0) (show List.Nodup (["lengths","book"]:List Str) by decide +kernel) rfl (by right))) (λ_ _ _ _=>Z.xX) (λ_ _ _ _=>(Z.fn hcode_of (hr.mono (by decide)) rfl au (Z.cons (Z.v 0) Z.nil)))))),?_⟩
  exists aG hb1;refine dD (xs:=as.map V.ref) (Gw (show _<=3 by rw[Gx,hb2];exact Gs 3) (by decide)) (λD i ys H'=>H D=none/\H' D=some (.lst ys)/\KB [] H H'/\∃cs:List Addr,ys=cs.map V.ref/\cs.length=i/\∀(j:Nat) (c:Addr),cs[j]?=some c->H' c=some (.tup (wV (wordsOf Cw.dN (List.getD [l0,l1,l2] j []))))) (λD hD=>⟨hD,aa,KB.new hD,[],rfl,rfl,λj c e=>nomatch e⟩) (λD i ys H' h=>⟨h.2.1,by obtain⟨_,_,_,cs,rfl,e,_⟩:=h;rw[Gx,e]⟩) (λD i ys H' h=>b8.of (h.2.2.1 _ _ hb1 (by simp))) ?_ ?_
  ·rintro D i ys H' x R hx ⟨g0,g1,g2,cs,rfl,g4,g5⟩ kk;obtain⟨a,ea,rfl⟩:∃a,as[i]?=some a/\x=.ref a:=by
    rw[G8] at hx;obtain⟨a,e,rfl⟩:=GK.mp hx;exact⟨a,e,rfl⟩
   have hi:i<3:=by have:=(Gq.mp ea).1;rw[hb2] at this;exact this
   have hm:List.getD [l0,l1,l2] i []∈[l0,l1,l2]:=by
    rcases kE hi with rfl|rfl|rfl<;>simp
   walk_at "rz";refine⟨a,_,rfl,g2 _ _ (hb3 i a ea) (by simp),(hl _ hm).1,(hl _ hm).2,λc H5 k5 e5=>?_⟩
   have gD:=k5 _ _ g1 (by simp)
   have cD:c≠D:=λz=>by rw[z,gD] at e5;cases e5
   refine kk _ _ gD ⟨g0,aa,λu o e _=>by rw[ae (ai e g0)];exact k5 _ _ (g2 _ _ e (by simp)) (by simp),cs++[c],by rw[GO];rfl,by rw[Gr,g4];rfl,λj d e=>?_⟩
   rcases Ho j cs.length with hj|hj
   ·rw[Hg hj] at e;have e6:=k5 _ _ (g5 j d e) (by simp)
    rw[ae (λz=>by rw[z,gD] at e6;cases e6)];exact e6
   ·rw[GZ hj] at e;obtain⟨hj2,rfl⟩:=Gq.mp e;have:j=i:=by simp at hj2;lia
    subst this;rw[ae (show _≠D by simpa using cD)]
    simpa using e5
  ·rintro D ys H' ⟨g0,g1,g2,cs,rfl,g4,g5⟩;rw[Gx,hb2] at g4;obtain⟨c0,c1,c2,rfl⟩:=p9 g4;exact q D H' g0 g2 ⟨c0,c1,c2,g1,g5 0 c0 rfl,g5 1 c1 rfl,g5 2 c2 rfl⟩
theorem sj{β:Type}{R:α->β->Prop}{d:α}{e:β}{vs:List α}{ps:List β}(h:Paired R vs ps):∀i,i<ps.length->R (vs.getD i d) (ps.getD i e):=by
 induction h with
 |nil=>exactλi hi=>nomatch hi
 |cons h _ ih =>
  intro i hi
  cases i with
  |zero=>exact h
  |succ i=>exact ih i (Nat.lt_of_succ_lt_succ hi)
theorem map_getD:(List.range ((List.range ls.length).map (m3 ls)).length).map (λi=>((List.range ls.length).map (m3 ls)).getD i (0,0))=(List.range ls.length).map (m3 ls):=by
 refine Iu λi=>?_;rw[G8];rcases Ho i ls.length with c|c
 ·rw[ID (by simpa using c),G8,ID c];simp[c]
 ·rw[GU.mpr (by simpa using c),GU.mpr (by simpa using c)];rfl
noncomputable def lC(K:LA):Sp:=λvs H Q _=>∃(a:Addr) (ls:List Int),vs=[.ref a]/\H a=some (.tup (iV ls))/\jE ls/\m5 ls=true/\∀b H',H b=none->KB [] H H'->H' b=some (.lst (wV (wordsOf Cw.dN ls)))->Q (.ref b) H'
theorem vA(T:Txt K mg)(F:HasFn K mg "_law_code" dk ["lengths"])(h_law_bits:aq P w K mg base bf 1 "_law_bits" ["number","many"] iN):aq P w K mg base bf 2 "_law_code" ["lengths"] (lC K):=by
 refine F.fQ bu (λvs H Q E h=>?_) (λf cdv A outer s H vs Q E hr h=>?_)
 ·obtain⟨a,ls,rfl,_⟩:=h;rfl
 ·have hu:=aZ hr;obtain⟨a,ls,rfl,ha,hL,ho,q⟩:=h;refine⟨_,(Z.ag (Z.set (i:=1) bu.nd rfl (by right) (Z.op bN (Z.lst (Z.cons Z.str Z.nil)) (Z.cb (Z.bK K rfl) rfl T.bB (by decide +kernel) (Z.cons (Z.v 0) Z.nil))))
   (Z.ag (Z.set (i:=2) bu.nd rfl (by right) Z.int)
   (Z.ag (Z.set (i:=3) bu.nd rfl (by right) Z.int)
   (Z.ag (Z.eS GQ rfl (Z.any K rfl (Z.cb (Y.pH K rfl) rfl T.jv (by decide +kernel) (Z.cons (Z.comp (osc:=af dk) (ON:=["lengths","found","number","size","length","thing","k"]) (own:=["thing","length"]) (N:=["thing","length","lengths","found","number","size",".length",".thing","k"]) ⟨rfl,by decide +kernel,rfl,by decide +kernel,by decide +kernel,by decide +kernel,by decide +kernel,by decide +kernel⟩ rfl rfl rfl (Z.enum K rfl rfl T.fD (Z.cons (Z.v 0) Z.nil)) (λ_ _ _ _=>(Z.tm (n:=2) K rfl rfl (Z.cH (Z.bo (i:=0) (show List.Nodup (["thing","length","lengths","found","number","size",".length",".thing","k"]:List Str) by decide +kernel) rfl (by right)) (Z.cH (Z.bo (i:=1) (show List.Nodup (["thing","length","lengths","found","number","size",".length",".thing","k"]:List Str) by decide +kernel) rfl (by right)) Z.jn)))) (λ_ _ _ _=>Z.xX) (λ_ _ _ _=>(Z.tup (Z.cons (Z.v 1) (Z.cons (Z.v 0) Z.nil))))) Z.nil))) (Z.tm (n:=2) K rfl rfl (Z.cH (Z.bo (i:=4) bu.nd rfl (by right)) (Z.cH (Z.bo (i:=5) bu.nd rfl (by right)) Z.jn))) (Z.ag (Z.eS GQ rfl (Z.nF rfl T.cY (Z.cons (Z.op bO (Z.v 4) (Z.v 3)) Z.nil)) (Z.bo (i:=6) bu.nd rfl (by right)) (Z.ar (Z.set (i:=2) bu.nd rfl (by right) (Z.op bN (Z.v 2) Z.int))))
   (Z.ag (Z.set (i:=3) bu.nd rfl (by right) (Z.v 4))
   (Z.ag (Z.asg (Z.fn h_law_bits (hr.mono (by decide)) rfl au (Z.cons (Z.v 2) (Z.cons (Z.v 4) Z.nil))) (Z.lH (Z.v 1) (Z.v 5)))
   (Z.ar (Z.set (i:=2) bu.nd rfl (by right) (Z.op (Z.aP K rfl) (Z.v 2) Z.int)))))))
   (Z.ar (Z.ret (Z.v 1))))))),?_⟩
  have hl20:=hL.2.1;refine ao λN hN=>?_;walk_at "rz";refine⟨by decide,λp0 hp0=>?_⟩
  have k1:KB [] H (upd H p0 (.lst [.str (Str.ofString "")])):=KB.new hp0;have s1:upd H p0 (.lst [.str (Str.ofString "")]) p0=_:=aa;generalize upd H p0 (.lst [.str (Str.ofString "")])=H1 at *;have ha1:=k1 _ _ ha (by simp)
  exists aG ha1,bR;refine⟨p0,_,_,rfl,rfl,s1,by lia,by lia,Gw (show _<=20 by simp;lia) (by decide),λfd hfd=>?_⟩
  have er:(List.replicate ls.length [V.str (Str.ofString "")]).flatten=wV (List.replicate ls.length []):=by
   rw[kX];unfold wV;rw[Kl];generalize ls.length=n
   induction n with
   |zero=>rfl
   |succ n ih=>rw[Hf,Ib,ih];rfl
  rw[Hb,er];have k2:KB [] H1 (upd H1 fd (.lst (wV (List.replicate ls.length [])))):=KB.new hfd;have s2:upd H1 fd (.lst (wV (List.replicate ls.length []))) fd=_:=aa;generalize upd H1 fd (.lst (wV (List.replicate ls.length [])))=H2 at *;have fd0:H fd=none:=k1.free (by simp) hfd
  have h02:=k1.trans k2;clear k1 s1 hp0 ha1 er k2 hfd;rw[hN];clear hN N H1;refine ao λN hN=>?_;walk_at "rz";rw[hN];clear hN N;refine ao λN hN=>?_;walk_at "rz";rw[hN];clear hN N;refine ao λN hN=>?_;walk_at "rz";have ha2:=h02 _ _ ha (by simp)
  refine⟨⟨_,b8.of ha2⟩,?_⟩;refine m8 (xs:=iV ls) (Gw (show _<=20 by rw[bR];exact hl20) (by decide)) (λD i ys H'=>H2 D=none/\H' D=some (.lst ys)/\KB [] H2 H'/\i<=ls.length/\ys.length=i/\Paired (Y.En H') ys ((List.range i).map (m3 ls))) (λD hD=>⟨hD,aa,KB.new hD,GF _,rfl,.nil⟩) (λD i ys H' h=>⟨h.2.1,h.2.2.2.2.1⟩) (λD i ys H' h=>b8.of (h.2.2.1 _ _ ha2 (by simp))) ?_ ?_
  ·rintro D i ys H' x p R hx ⟨g0,g1,g2,g3,g4,g5⟩ hp kk;obtain⟨hi,rfl⟩:=j8 hx;have k3:KB [] H' (upd H' p (.tup [.int (i:Nat),.int ls[i]])):=KB.new hp;generalize upd H' p (.tup [.int (i:Nat),.int ls[i]])=H3 at *;walk_at "rz";refine⟨by decide,λt ht=>?_⟩
   have k4:KB [] H3 (upd H3 t (.tup [.int ls[i],.int (i:Nat)])):=KB.new ht;have s4:upd H3 t (.tup [.int ls[i],.int (i:Nat)]) t=_:=aa;generalize upd H3 t (.tup [.int ls[i],.int (i:Nat)])=H4 at *;have k34:=k3.trans k4;have gD:=k34 _ _ g1 (by simp)
   have tD:t≠D:=λz=>by rw[z,gD] at s4;cases s4
   have up:∀{v:V} {q:Int×Int},Y.En H4 v q->Y.En (upd H4 D (.lst (ys++[.ref t]))) v q:=λ{v q} h=>by
    obtain⟨r,e1,e2⟩:=h;exact⟨r,e1,by rw[ae (λz=>by rw[z,gD] at e2;cases e2)];exact e2⟩
   refine kk _ _ gD ⟨g0,aa,λb o e _=>by rw[ae (ai e g0)];exact k34 _ _ (g2 _ _ e (by simp)) (by simp),hi,by rw[Gr,g4];rfl,?_⟩
   rw[JO,GO];refine Paired.snoc (Paired.vv g5 λ_ _ h=>up ?_) (up ⟨t,rfl,?_⟩)
   ·obtain⟨r,e1,e2⟩:=h;exact⟨r,e1,k34 _ _ e2 (by simp)⟩
   ·rw[s4];unfold m3;simp[hi]
  rintro D ys H3 ⟨g0,g1,g2,_,g4,g5⟩;rw[bR] at g4 g5;have hpl:((List.range ls.length).map (m3 ls)).length=ls.length:=by rw[Gx,Hc]
  refine⟨D,ys,_,rfl,bZ.of g1,g5,by rw[hpl];lia,λix hix hup l hl=>?_⟩
  have hpm:=hix.map λi=>((List.range ls.length).map (m3 ls)).getD i (0,0);rw[map_getD] at hpm;obtain⟨eo,hR⟩:=sx hpm hup;have hup2:=AS hR;have k4:KB [] H3 (upd H3 l (.lst (ix.map λi=>ys.getD i .aQ))):=KB.new hl;have s4:upd H3 l (.lst (ix.map λi=>ys.getD i .aQ)) l=_:=aa;have hit:∀(j:Nat) (x:V),(ix.map λi=>ys.getD i .aQ)[j]?=some x->∃(hj:j<(aH ls).length) (r:Addr),x=.ref r/\H3 r=some (.tup [.int (ls.getD (aH ls)[j] 0),.int ((aH ls)[j]:Nat)]):=λj x hx=>by
   rw[G8] at hx;obtain⟨i,ei,rfl⟩:=GK.mp hx;have hi:i<((List.range ls.length).map (m3 ls)).length:=HH.mp (hix.mem_iff.mp (H_ ei));obtain⟨r,e1,e2⟩:=sj (d:=V.aQ) (e:=(0,0)) g5 i hi;have e3:(ix.map λi=>((List.range ls.length).map (m3 ls)).getD i (0,0))[j]?=some (((List.range ls.length).map (m3 ls)).getD i (0,0)):=by rw[G8,ei];rfl
   rw[eo,G8] at e3;obtain⟨t,et,e4⟩:=GK.mp e3;obtain⟨hj,rfl⟩:=Gq.mp et;exact⟨hj,r,e1,by rw[e2,<- e4];rfl⟩
  have hxl:(ix.map λi=>ys.getD i .aQ).length=(aH ls).length:=by
   have:=Hm List.length eo;rw[Gx,Gx] at this;rw[Gx,this]
  generalize (ix.map λi=>ys.getD i .aQ)=xs at *;generalize upd H3 l (.lst xs)=H4 at *;have gF:=k4 _ _ (g2 _ _ s2 (by simp)) (by simp)
  have lF:l≠fd:=λz=>by
   have:=g2 _ _ s2 (by simp)
   rw[<- z,hl] at this;cases this
  have h04:KB [] H H4:=h02.trans (g2.trans k4);have hit4:∀(j:Nat) (x:V),xs[j]?=some x->∃(hj:j<(aH ls).length) (r:Addr),x=.ref r/\H4 r=some (.tup [.int (ls.getD (aH ls)[j] 0),.int ((aH ls)[j]:Nat)]):=λj x hx=>by
   obtain⟨hj,r,e1,e2⟩:=hit j x hx;exact⟨hj,r,e1,k4 _ _ e2 (by simp)⟩
  clear hit g0 g1 g2 g4 g5 hpl hix hup hl k4 hpm eo hR h02 ha2 s2;have h40:∀t∈aH ls,ls.getD t 0=(aT ls t:Int)/\aT ls t<=40/\t<ls.length:=λt ht=>by
   have h:=gP ht;have:=hL.2.2 _ (GL h);unfold aT;rw[Gy,Gm h];show ls[t]=((ls[t].toNat:Nat):Int)/\ls[t].toNat<=40/\_;exact⟨by lia,by lia,h⟩
  exists aF s4;refine fU (xs:=xs) (λi σ H'=>∃(a':Option (List Nat)) (ws:List (List Nat)) (n h:Int) (o4 o5 o6:Option V),At ls ((aH ls).take i) ((aH ls).drop i) a' n h/\Cw.along Cw.eG (aT ls) ((aH ls).take i) (none,List.replicate ls.length [])=(a',ws)/\ws.length=ls.length/\KB [fd] H4 H'/\KB [] H H'/\H' fd=some (.lst (wV ws))/\σ=[some (.ref a),some (.ref fd),some (.int (n+1)),some (.int h),o4,o5,o6]) ⟨none,_,-1,0,none,none,none,⟨rfl,.inl ⟨rfl,rfl,rfl,rfl⟩⟩,rfl,G9 ..,KB.refl _ _,h04,gF,rfl⟩ (λi σ H' _ h=>by obtain⟨_,_,_,_,_,_,_,_,_,_,kF,_⟩:=h;exact bZ.of (kF _ _ s4 (by simpa using lF))) ?_ ?_
  ·rintro i x σ H' hx ⟨a',ws,n,h,o4,o5,o6,hA,hal,hwl,kF,h0',gF',rfl⟩;obtain⟨hj,r,rfl,er⟩:=hit4 i x hx;have rF:r≠fd:=λz=>by rw[z,gF] at er;cases er
   have er':=kF _ _ er (by simpa using rF)
   have ed:(aH ls).drop i=(aH ls)[i]::(aH ls).drop (i+1):=HY hj;have eT:(aH ls).take (i+1)=(aH ls).take i++[(aH ls)[i]]:=by rw[Kf,Gm hj];rfl
   rw[ed] at hA;rw[eT];obtain⟨hx1,hx2,hx3⟩:=h40 _ (GL hj);obtain⟨d,e1,e0,e2,e3,e4,hA2⟩:=hA.next hL ho hup2;have hal2:Cw.along Cw.eG (aT ls) ((aH ls).take i++[(aH ls)[i]]) (none,List.replicate ls.length [])=(some (jJ a' (aT ls (aH ls)[i])),ws.set (aH ls)[i] (jJ a' (aT ls (aH ls)[i]))):=by
    rw[Cw.e_,hal]
    cases a'<;>rfl
   rw[hx1] at er';generalize (aH ls)[i]=t at *;generalize aT ls t=l at *;generalize hw':jJ a' l=w' at *;refine⟨r,_,rfl,b8.of er',rfl,_,_,rfl,_,_,rfl,rfl,?_⟩;refine ao λM hM=>?_;exists e1;refine⟨by lia,by lia,?_⟩
   rw[Hb];refine cm (λj σ G=>G=H'/\∃o6:Option V,σ=[some (.ref a),some (.ref fd),some (.int ((n+1)*2^j)),some (.int h),some (.int (l:Nat)),some (.int (t:Nat)),o6]) ⟨rfl,o6,by rw[Int.pow_zero,Int.mul_one]⟩ ?_ ?_
   ·rintro j σ G hj ⟨rfl,o6,rfl⟩;unfold bq;refine jU λM hM=>?_;walk_at "rz";refine⟨.inr (by decide),?_⟩
    rw[hM];exact⟨rfl,some _,by rw[show (n+1)*2^j*2=(n+1)*2^(j+1) from by rw[Int.pow_succ,<- Int.mul_assoc]]⟩
   ·rintro σ G ⟨rfl,o6,rfl⟩;rw[e2];show M _ _;rw[hM];clear hM M;refine ao λM hM=>?_;walk_at "rz";rw[hM];clear hM M;refine ao λM hM=>?_;walk_at "rz";refine⟨_,l,rfl,hx2,?_⟩;rw[se l w' [] e3 e4,HL];have ixw:lM (wV ws).length (t:Int)=some t:=by rw[jc (by lia) (by rw[lS,hwl];lia)];simp
    have sw:(wV ws).set t (.str (wd w'))=wV (ws.set t w'):=by unfold wV;rw[JU]
    exists gF',ixw,sw;rw[hM];clear hM M;dsimp only;refine jU λM hM=>?_;walk_at "rz";rw[hM];refine⟨some w',ws.set t w',_,_,some _,some _,o6,hA2,hal2,by rw[List.length_set,hwl],λb o e z=>?_,λb o e _=>?_,aa,rfl⟩
    ·rw[ae (by simpa using z)];exact kF _ _ e z
    ·rw[ae (ai e fd0)];exact h0' _ _ e (by simp)
  ·rintro σ H' ⟨a',ws,n,h,o4,o5,o6,hA,hal,_,_,h0',gF',rfl⟩;rw[hxl,Iz] at hal;have ew:wordsOf Cw.dN ls=ws:=by
    unfold wordsOf;rw[Cw.gp (aH ls) [] none _ hup2 (λt ht=>(h40 t ht).2.1) (λv z=>by cases z) (λ_=>rfl) (by rw[HC,xa];exact Hr ho),hal]
   show N _ _;rw[hN];clear hN N;walk_at "rz";rw[ew] at q;exact q fd H' fd0 h0' gF'
theorem Ew(l:List Nat)(a:Nat):(iV (nZ l)).eraseIdx a=iV (nZ (l.eraseIdx a)):=by
 unfold iV nZ;simp only[JH,GO,Lq,List.map_drop]
theorem uL(l:List Nat)(n k:Nat):ia (iV (nZ l)) n (V.int (k:Int))=iV (nZ (ia l n k)):=by
 unfold ia iV nZ;simp only[GO,Lq,List.map_drop,GV]
theorem eU(l:List Nat):(iV (nZ l)).length=l.length:=by rw[bR,iy]
noncomputable def pR(K:LA):Sp:=λvs H Q _=>∃(p dq:Addr) (m n:Nat),vs=[.ref p,.int (m:Nat)]/\b7 H p dq n/\n<2^40/\2<=m/\m<=17/\∀(ls:List Int) (a:Addr) H',b7 H' p dq (n+60)->KB [p,dq] H H'->H' a=some (.tup (iV ls))->ls.length=m->jE ls->m5 ls=true->Q (.ref a) H'
theorem u7(T:Txt K mg)(F:HasFn K mg "_law_lengths" cQ ["deck","many"])(h_law_draw:aq P w K mg base bf 2 "_law_draw" ["deck","most"] eC):aq P w K mg base bf 3 "_law_lengths" ["deck","many"] (pR K):=by
 refine F.fQ cf (λvs H Q E h=>?_) (λf cdv A outer s H vs Q E hr h=>?_)
 ·obtain⟨p,dq,m,n,rfl,_⟩:=h;rfl
 ·have hu:=aZ hr;obtain⟨p,dq,m,n,rfl,hd,hn,hm2,hm,q⟩:=h;refine⟨_,(Z.ag (Z.set (i:=2) cf.nd rfl (by right) (Z.lst (Z.cons Z.int Z.nil)))
   (Z.ag (Z.eS GQ rfl (Z.nF rfl T.cY (Z.cons (Z.op bO (Z.v 1) Z.int) Z.nil)) (Z.bo (i:=3) cf.nd rfl (by right)) (Z.ag (Z.set (i:=4) cf.nd rfl (by right) (Z.op (Z.aP K rfl) (Z.bm K rfl PySem.F.plainAttrs_list PySem.F.slot_list_pop PySem.F.type_list_pop nR (Z.v 2) (Z.cons (Z.fn h_law_draw (hr.mono (by decide)) rfl au (Z.cons (Z.v 0) (Z.cons (Z.cb (Z.bK K rfl) rfl T.bB (by decide +kernel) (Z.cons (Z.v 2) Z.nil)) Z.nil))) Z.nil)) Z.int))
   (Z.ag (Z.expr (Z.bm K rfl PySem.F.plainAttrs_list PySem.F.slot_list_insert PySem.F.type_list_insert kQ (Z.v 2) (Z.cons (Z.fn h_law_draw (hr.mono (by decide)) rfl au (Z.cons (Z.v 0) (Z.cons (Z.op (Z.aP K rfl) (Z.cb (Z.bK K rfl) rfl T.bB (by decide +kernel) (Z.cons (Z.v 2) Z.nil)) Z.int) Z.nil))) (Z.cons (Z.v 4) Z.nil))))
   (Z.ar (Z.expr (Z.bm K rfl PySem.F.plainAttrs_list PySem.F.slot_list_insert PySem.F.type_list_insert kQ (Z.v 2) (Z.cons (Z.fn h_law_draw (hr.mono (by decide)) rfl au (Z.cons (Z.v 0) (Z.cons (Z.op (Z.aP K rfl) (Z.cb (Z.bK K rfl) rfl T.bB (by decide +kernel) (Z.cons (Z.v 2) Z.nil)) Z.int) Z.nil))) (Z.cons (Z.v 4) Z.nil))))))))
   (Z.ag (Z.cu (Z.aR aO (Z.fn h_law_draw (hr.mono (by decide)) rfl au (Z.cons (Z.v 0) (Z.cons Z.int Z.nil))) Z.int) (Z.ag (Z.set (i:=5) cf.nd rfl (by right) (Z.fn h_law_draw (hr.mono (by decide)) rfl au (Z.cons (Z.v 0) (Z.cons (Z.v 1) Z.nil))))
   (Z.ar (Z.asg (Z.cb (rL rfl) rfl T.Er (by decide +kernel) (Z.cons Z.int (Z.cons (Z.op (Z.aP K rfl) (Z.op (Z.aP K rfl) (Z.ix (Z.ax K rfl hu) (Z.v 2) (Z.v 5)) Z.int) (Z.fn h_law_draw (hr.mono (by decide)) rfl au (Z.cons (Z.v 0) (Z.cons Z.int Z.nil)))) Z.nil))) (Z.lH (Z.v 2) (Z.v 5))))) Z.bj)
   (Z.ar (Z.ret (Z.ct (Z.cX K rfl) rfl T.cF (by decide +kernel) (Z.cons (Z.v 2) Z.nil))))))),?_⟩
  refine ao λN hN=>?_;walk_at "rz";refine⟨by decide,λd hd0=>?_⟩
  have k1:KB [] H (upd H d (.lst [.int 0])):=KB.new hd0;have s1:upd H d (.lst [.int 0]) d=some (.lst (iV (nZ [0]))):=aa;generalize upd H d (.lst [.int 0])=H1 at *;have nd:=hd.new hd0;have dp:p≠d:=λz=>nd (by simp[z])
  have ddq:dq≠d:=λz=>nd (by simp[z])
  rw[hN];clear hN N;refine ao λN hN=>?_;walk_at "rz";refine⟨by lia,by lia,?_⟩
  have setD:∀{G:Hp} {n:Nat} {o:HO},b7 G p dq n->b7 (upd G d o) p dq n:=λh=>h.keep (KB.set (ex:=[d]) (by simp)) (by simpa using dp) (by simpa using ddq)
  have keep:∀{G G':Hp},KB [p,dq] H G->KB [p,dq] G G'->KB [p,dq] H G':=λa b=>a.trans b;have keepD:∀{G:Hp} {o:HO},KB [p,dq] H G->KB [p,dq] H (upd G d o):=λa b o e z=>by rw[ae (ai e hd0)];exact a b o e z
  refine cm (λi σ H'=>∃(l:List Nat) (o3 o4:Option V),Pt l/\l.length=i+1/\b7 H' p dq (n+3*i)/\KB [p,dq] H H'/\H' d=some (.lst (iV (nZ l)))/\σ=[some (.ref p),some (.int (m:Nat)),some (.ref d),o3,o4,none]) ⟨[0],none,none,⟨by decide,by simp,.inl rfl⟩,rfl,hd.kb k1,k1.all,s1,rfl⟩ ?_ ?_
  ·rintro i σ H' hi ⟨l,o3,o4,hl,hli,hD,hk,gd,rfl⟩;unfold bq;refine ao λM hM=>?_;exists aF gd,eU;refine⟨.inl ⟨rfl,_,bZ.of gd⟩,p,dq,_,_,rfl,hD,by lia,by lia,by lia,λa H2 ha D2 k2=>?_⟩
   have ha':a<l.length:=by lia
   have hle:=l.length_eraseIdx_of_lt ha';have gd2:=k2 _ _ gd nd;have six:seqIndex? (a:Int) (iV (nZ l)).length=some a:=by
    rw[eU];unfold seqIndex?;simp;lia
   have enZ:(iV (nZ l))[a]?=some (.int ((l[a]:Nat):Int)):=by unfold iV nZ;rw[G8,G8,Gm ha'];rfl
   refine⟨d,_,_,a,_,rfl,rfl,gd2,by lia,by lia,six,enZ,?_⟩
   rw[Ew];have D3:=setD (o:=.lst (iV (nZ (l.eraseIdx a)))) D2;have K3:=keepD (o:=.lst (iV (nZ (l.eraseIdx a)))) (hk.trans k2);have g3:upd H2 d (.lst (iV (nZ (l.eraseIdx a)))) d=_:=aa;generalize upd H2 d (.lst (iV (nZ (l.eraseIdx a))))=H3 at *;walk_at "rz";rw[show ((l[a]:Nat):Int)+1=((l[a]+1:Nat):Int) from rfl,hM];clear hM M;refine ao λM hM=>?_;exists aF g3,eU,hle;refine⟨.inl ⟨rfl,_,bZ.of g3⟩,p,dq,_,_,rfl,D3,by lia,by lia,by lia,λv H4 hv D4 k4=>?_⟩
   have g4:=k4 _ _ g3 nd;refine⟨d,_,_,_,rfl,rfl,g4,by lia,by lia,HU (show _<=20 by rw[eU];lia) (by decide),?_⟩
   rw[eU,uL,hle];generalize hl2:ia (l.eraseIdx a) (min (v:Int).toNat (l.length-1)) (l[a]+1)=l2;have le2:l2.length=l.length:=by rw[<- hl2,zM,hle];lia
   have pe2:l2.Perm ((l[a]+1)::l.eraseIdx a):=by rw[<- hl2];exact mV ..
   clear hl2;have D5:=setD (o:=.lst (iV (nZ l2))) D4;have K5:=keepD (o:=.lst (iV (nZ l2))) (K3.trans k4);have g5:upd H4 d (.lst (iV (nZ l2))) d=_:=aa;generalize upd H4 d (.lst (iV (nZ l2)))=H5 at *;rw[hM];clear hM M;dsimp only;refine jU λM hM=>?_;exists aF g5,eU;refine⟨.inl ⟨rfl,_,bZ.of g5⟩,p,dq,_,_,rfl,D5,by lia,by lia,by lia,λv H6 hv D6 k6=>?_⟩
   have g6:=k6 _ _ g5 nd;refine⟨d,_,_,_,rfl,rfl,g6,by lia,by lia,HU (show _<=20 by rw[eU];lia) (by decide),?_⟩
   rw[eU,uL];obtain⟨hP3,hL3⟩:=hl.next ha' (by lia) ((mV l2 (min (v:Int).toNat l2.length) (l[a]+1)).trans (List.Perm.cons _ pe2))
   rw[hM];exact⟨_,some _,some _,hP3,by lia,(setD D6).mono (by lia),keepD (K5.trans k6),aa,rfl⟩
  ·rintro σ H' ⟨l,o3,o4,hl,hli,hD,hk,gd,rfl⟩;have hlm:l.length=m:=by lia
   show N _ _;rw[hN];clear hN N;have h1:∀x∈l,1<=x:=by
    rcases hl.one with e|e
    ·exfalso;rw[e] at hlm;simp at hlm;lia
    ·exact e
   have fin:∀(l:List Nat) (G:Hp),G d=some (.lst (iV (nZ l)))->KB [p,dq] H G->l.length=m->(∀x∈l,1<=x/\x<=20)->Kr.ks 40 l<=2^40->b7 G p dq (n+60)->∀t,G t=none->Q (.ref t) (upd G t (.tup (iV (nZ l)))):=λl G hg hK a b c e t ht=>by
    refine q (nZ l) t _ (e.kb (KB.new ht)) (hK.trans (KB.new ht)) aa (by rw[iy];exact a) ⟨by rw[iy];lia,by rw[iy];lia,λx hx=>?_⟩ (AD c)
    obtain⟨y,hy,rfl⟩:=HP.mp hx;have:=b y hy;exact⟨by lia,by lia⟩
   refine ao λN hN=>?_;walk_at "rz";refine⟨p,dq,2,_,rfl,hD,by lia,by decide,by decide,λv H2 hv D2 k2=>?_⟩
   have g2:=k2 _ _ gd nd;by_cases c:(v:Int)=0
   ·exists Gp c;refine⟨p,dq,(m:Nat),_,rfl,D2,by lia,by lia,by lia,λa H3 ha D3 k3=>?_⟩
    have g3:=k3 _ _ g2 nd;have ha':a<l.length:=by lia
    have ea:bX (iV (nZ l)) (a:Int)=some (.int ((l[a]:Nat):Int)):=bI (by unfold iV nZ;rw[G8,G8,Gm ha'];rfl)
    exists aF g3,ea;refine⟨p,dq,5,_,rfl,D3,by lia,by decide,by decide,λv H4 hv D4 k4=>?_⟩
    have g4:=k4 _ _ g3 nd;obtain⟨nz,enz,hnz⟩:∃nz:Nat,(if ((l[a]:Nat):Int)+1+(v:Int)<20 then ((l[a]:Nat):Int)+1+(v:Int) else 20)=(nz:Int)/\l[a]<=nz/\nz<=20:=by
     have:=hl.le _ (GL ha');by_cases c:((l[a]:Nat):Int)+1+(v:Int)<20
     ·rw[Gp c];exact⟨l[a]+1+v,by lia,by lia,by lia⟩
     ·rw[Gn c];exact⟨20,rfl,by lia,by lia⟩
    have ei:lM (iV (nZ l)).length (a:Int)=some a:=by rw[eU,jc (by lia) (by lia)];simp
    exists enz,g4,ei;have es:(iV (nZ l)).set a (.int (nz:Int))=iV (nZ (l.set a nz)):=by unfold iV nZ;rw[JU,JU]
    rw[es];have D5:=setD (o:=.lst (iV (nZ (l.set a nz)))) D4;have K5:=keepD (o:=.lst (iV (nZ (l.set a nz)))) ((hk.trans k2).trans (k3.trans k4));have g5:upd H4 d (.lst (iV (nZ (l.set a nz)))) d=_:=aa;generalize upd H4 d (.lst (iV (nZ (l.set a nz))))=H5 at *;rw[hN];clear hN N;exists aF g5;refine fin _ H5 g5 K5 (by rw[HB];exact hlm) (λx hx=>?_) (Gw (vt ha' hnz.1) (K2 hl.ks)) (D5.mono (by lia))
    rcases HD hx with hx|rfl
    ·exact⟨h1 x hx,by have:=hl.le x hx;lia⟩
    ·exact⟨by have:=h1 _ (GL ha');lia,hnz.2⟩
   ·exists Gn c;rw[hN];clear hN N;exists aF g2;exact fin l H2 g2 (hk.trans k2) hlm (λx hx=>⟨h1 x hx,by have:=hl.le x hx;lia⟩) (K2 hl.ks) (D2.mono (by lia))
noncomputable def uV(K:LA):Sp:=λvs H Q _=>∃(p dq:Addr) (n:Nat),vs=[.ref p]/\b7 H p dq n/\n<2^38/\∀(bk:List (List Int)) (b:Addr) H',b7 H' p dq (n+200)->KB [p,dq] H H'->qY H' b bk->Bk bk->Q (.ref b) H'
theorem zO(T:Txt K mg)(F:HasFn K mg "_law_book" du ["deck"])(h_law_draw:aq P w K mg base bf 2 "_law_draw" ["deck","most"] eC)(h_law_lengths:aq P w K mg base bf 3 "_law_lengths" ["deck","many"] (pR K)):aq P w K mg base bf 4 "_law_book" ["deck"] (uV K):=by
 refine F.fQ lj (λvs H Q E h=>?_) (λf cdv A outer s H vs Q E hr h=>?_)
 ·obtain⟨p,dq,n,rfl,_⟩:=h;rfl
 ·have hu:=aZ hr;obtain⟨p,dq,n,rfl,hd,hn,q⟩:=h;refine⟨_,(Z.ag (Z.cu (Z.aR aO (Z.fn h_law_draw (hr.mono (by decide)) rfl au (Z.cons (Z.v 0) (Z.cons Z.int Z.nil))) Z.int) (Z.ar (Z.ret (Z.tup (Z.cons (Z.op (Y.lq K rfl) (Z.tup (Z.cons Z.int Z.nil)) Z.int) (Z.cons (Z.op (Y.lq K rfl) (Z.tup (Z.cons Z.int Z.nil)) Z.int) (Z.cons (Z.op (Y.lq K rfl) (Z.tup (Z.cons Z.int Z.nil)) Z.int) Z.nil)))))) Z.bj)
   (Z.ar (Z.ret (Z.ct (Z.cX K rfl) rfl T.cF (by decide +kernel) (Z.cons (Z.comp (osc:=af du) (ON:=["deck"]) (own:=["many"]) (N:=["many","deck"]) ⟨rfl,by decide +kernel,rfl,by decide +kernel,by decide +kernel,by decide +kernel,by decide +kernel,by decide +kernel⟩ rfl rfl rfl (Z.any K rfl (Z.tup (Z.consts rfl))) (λ_ _ _ _=>(Z.bo (i:=0) (show List.Nodup (["many","deck"]:List Str) by decide +kernel) rfl (by right))) (λ_ _ _ _=>Z.xX) (λ_ _ _ _=>(Z.fn h_law_lengths (hr.mono (by decide)) rfl au (Z.cons (Z.v 1) (Z.cons (Z.v 0) Z.nil))))) Z.nil))))),?_⟩
  refine ao λN hN=>?_;walk_at "rz";refine⟨p,dq,4,_,rfl,hd,by lia,by decide,by decide,λv H1 hv D1 k1=>?_⟩
  by_cases c:(v:Int)=0
  ·exists Gp c;have rep:∀(G:Hp) (j k:Int) (Q:VK),1<k->k<=20->(∀t u G',KB [] G G'->G t=none->u≠t->G' u=some (.tup (iV (List.replicate k.toNat j)))->Q (.ref u) G')->(0+1<=sizeLine/\∀t,G t=none->Y.A2 K (.ref t) (.int k) (upd G t (.tup [.int j])) Q):=λG j k Q h1 h2 q=>by
    refine⟨by decide,λt ht=>.inr ⟨t,k,_,rfl,rfl,b8.of aa,by simp,(show 1<=1000 by decide),h1,by lia,λu hu=>?_⟩⟩
    have e:(List.replicate k.toNat [V.int j]).flatten=iV (List.replicate k.toNat j):=by
     unfold iV;rw[Kl];generalize k.toNat=m
     induction m with
     |zero=>rfl
     |succ m ih=>rw[Hf,Ib,ih];rfl
    rw[e];have ut:u≠t:=λz=>by rw[z,aa] at hu;cases hu
    exact q t u _ ((KB.new ht).trans (KB.new hu)) ht ut aa
   refine rep H1 4 9 _ (by decide) (by decide) λt1 u1 G1 g1 _ _ e1=>?_
   refine rep G1 5 17 _ (by decide) (by decide) λt2 u2 G2 g2 _ _ e2=>?_
   refine rep G2 3 8 _ (by decide) (by decide) λt3 u3 G3 g3 _ _ e3=>⟨by decide,λb hb=>?_⟩
   have kk:KB [] H1 (upd G3 b (.tup [.ref u1,.ref u2,.ref u3])):=((g1.trans g2).trans g3).trans (KB.new hb);have up:∀{x:Addr} {o:HO},G3 x=some o->upd G3 b (.tup [.ref u1,.ref u2,.ref u3]) x=some o:=λe=>by rw[ae (ai e hb)];exact e
   refine q [List.replicate 9 4,List.replicate 17 5,List.replicate 8 3] b _ ((D1.kb kk).mono (by lia)) (k1.trans kk.all) ⟨[u1,u2,u3],aa,rfl,λi a e=>?_⟩ ⟨_,_,_,rfl,rfl,rfl,rfl,λl hl=>?_⟩
   ·have hi:i<3:=(Gq.mp e).1;rcases kE hi with rfl|rfl|rfl
    ·cases e;exact up (g3 _ _ (g2 _ _ e1 (by simp)) (by simp))
    ·cases e;exact up (g3 _ _ e2 (by simp))
    ·cases e;exact up e3
   have rr:∀(n:Nat) (k:Int),0<n->n<=20->1<=k->k<=20->jE (List.replicate n k):=λn k a b c d=>⟨by rw[G9];exact a,by rw[G9];exact b,λx hx=>by rw[(HG.mp hx).2];lia⟩
   rcases Gv.mp hl with rfl|hl
   ·exact⟨rr 9 4 (by decide) (by decide) (by decide) (by decide),by decide +kernel⟩
   ·rcases Gv.mp hl with rfl|hl
    ·exact⟨rr 17 5 (by decide) (by decide) (by decide) (by decide),by decide +kernel⟩
    ·rw[G6.mp hl];exact⟨rr 8 3 (by decide) (by decide) (by decide) (by decide),by decide +kernel⟩
  ·exists Gn c;rw[hN];clear hN N;walk_at "rz";refine⟨by decide,λt ht=>?_⟩
   have k2:KB [] H1 (upd H1 t (.tup [.int 9,.int 17,.int 8])):=KB.new ht;have s2:upd H1 t (.tup [.int 9,.int 17,.int 8]) t=some (.tup (iV [9,17,8])):=aa;generalize upd H1 t (.tup [.int 9,.int 17,.int 8])=H2 at *;have D2:=D1.kb k2;refine dD (xs:=iV [9,17,8]) (by decide) (λD i ys H'=>H2 D=none/\H' D=some (.lst ys)/\b7 H' p dq (n+1+60*i)/\KB [p,dq] H2 H'/\∃(as:List Addr) (done:List (List Int)),ys=as.map V.ref/\as.length=i/\done.map List.length=[9,17,8].take i/\(∀l∈done,jE l/\m5 l=true)/\∀(j:Nat) (a:Addr),as[j]?=some a->H' a=some (.tup (iV (done.getD j [])))) (λD hD=>⟨hD,aa,D2.kb (KB.new hD),KB.new hD,[],[],rfl,rfl,rfl,(λl h=>nomatch h),λj a e=>nomatch e⟩) (λD i ys H' h=>⟨h.2.1,by obtain⟨_,_,_,_,as,_,rfl,e,_⟩:=h;rw[Gx,e]⟩) (λD i ys H' h=>b8.of (h.2.2.2.1 _ _ s2 λz=>D2.nt _ z _ s2)) ?_ ?_
   ·rintro D i ys H' x R hx ⟨g0,g1,gd,gk,as,done,rfl,ga,gl,gok,gat⟩ kk;obtain⟨hi,rfl⟩:=j8 hx;have nD:=D2.new g0;have dl:done.length=i:=by
     have:=Hm List.length gl;rw[Gx,GP] at this;have h3:([9,17,8]:List Nat).length=3:=rfl;have hi3:i<3:=hi;lia
    have key:∀m:Nat,2<=m->m<=17->([9,17,8]:List Nat).take (i+1)=([9,17,8]:List Nat).take i++[m]->pR K [.ref p,.int (m:Nat)] H' R E0:=λm m2 m17 em=>by
     refine⟨p,dq,m,_,rfl,gd,by have:i<3:=hi;lia,m2,m17,λls a H5 D5 k5 e5 l1 l2 l3=>?_⟩
     have gD:=k5 _ _ g1 nD;have aD:a≠D:=λz=>by rw[z,gD] at e5;cases e5
     have pD:p≠D:=λz=>nD (by simp[z])
     have qD:dq≠D:=λz=>nD (by simp[z])
     refine kk _ _ gD ⟨g0,aa,(D5.keep (KB.set (ex:=[D]) (by simp)) (by simpa using pD) (by simpa using qD)).mono (by lia),λu o e z=>by rw[ae (ai e g0)];exact k5 _ _ (gk _ _ e z) z,as++[a],done++[ls],by rw[GO];rfl,by rw[Gr,ga];rfl,by rw[GO,gl,em];rw[GV,l1];rfl,λl hl=>?_,λj b e=>?_⟩
     ·rcases Hh.mp hl with hl|hl
      ·exact gok l hl
      ·rw[G6.mp hl];exact⟨l2,l3⟩
     ·rcases Ho j as.length with hj|hj
      ·rw[Hg hj] at e;have e6:=gd.tup k5 (gat j b e);rw[ae (λz=>by rw[z,gD] at e6;cases e6),e6,Gy,Gy,Hg (by lia)]
      ·rw[GZ hj] at e;obtain⟨hj2,rfl⟩:=Gq.mp e;have hj3:j=as.length:=by simp at hj2;lia
       subst hj3;simp only[Io,Jw];rw[ae aD,e5,Gy,GZ (by lia),show as.length-done.length=0 by lia]
       rfl
    walk_at "rz";rcases kE (show i<3 from hi) with rfl|rfl|rfl
    ·exact key 9 (by decide) (by decide) rfl
    ·exact key 17 (by decide) (by decide) rfl
    ·exact key 8 (by decide) (by decide) rfl
   ·rintro D ys H' ⟨g0,g1,gd,gk,as,done,rfl,ga,gl,gok,gat⟩;exists aF g1;intro b hb;have gl':done.map List.length=[9,17,8]:=gl;have h3:done.length=3:=by have:=Hm List.length gl';rw[Gx] at this;exact this
    obtain⟨x,y,z,rfl⟩:=p9 h3;simp only[GV,JK,List.cons.injEq] at gl';refine q [x,y,z] b _ ((gd.kb (KB.new hb)).mono (by show n+1+60*3<=_;lia)) (k1.trans (k2.all.trans (gk.trans (KB.new hb)))) ⟨as,aa,by rw[ga];rfl,λj a e=>?_⟩ ⟨x,y,z,rfl,gl'.1,gl'.2.1,gl'.2.2.1,gok⟩
    have:=gat j a e;rw[ae (ai this hb)];exact this
noncomputable def mG:Sp:=λvs H Q _=>∃(p dq:Addr) (n:Nat),vs=[.ref p]/\b7 H p dq n/\n<2^40/\∀(v:Nat) H',b7 H' p dq (n+2)->KB [p,dq] H H'->v<65536->Q (.int (v:Nat)) H'
theorem sG(T:Txt K mg)(F:HasFn K mg "_law_number" c_ ["deck"])(h_law_draw:aq P w K mg base bf 2 "_law_draw" ["deck","most"] eC):aq P w K mg base bf 3 "_law_number" ["deck"] mG:=by
 refine F.fQ dM (λvs H Q E h=>?_) (λf cdv A outer s H vs Q E hr h=>?_)
 ·obtain⟨p,dq,n,rfl,_⟩:=h;rfl
 ·have hu:=aZ hr;obtain⟨p,dq,n,rfl,hd,hn,q⟩:=h;refine⟨_,(Z.ag (Z.set (i:=1) dM.nd rfl (by right) (Z.fn h_law_draw (hr.mono (by decide)) rfl au (Z.cons (Z.v 0) (Z.cons Z.int Z.nil))))
   (Z.ag (Z.cu (Z.aR aO (Z.v 1) Z.int) (Z.ar (Z.ret Z.int)) Z.bj)
   (Z.ag (Z.set (i:=2) dM.nd rfl (by right) (Z.op BB Z.int (Z.op bO (Z.v 1) Z.int)))
   (Z.ar (Z.ret (Z.op (Z.aP K rfl) (Z.v 2) (Z.fn h_law_draw (hr.mono (by decide)) rfl au (Z.cons (Z.v 0) (Z.cons (Z.v 2) Z.nil))))))))),?_⟩
  refine ao λN hN=>?_;walk_at "rz";refine⟨p,dq,17,n,rfl,hd,by lia,by decide,by decide,λz H1 hz D1 k1=>?_⟩
  rw[hN];clear hN N;refine ao λN hN=>?_;by_cases a0:(z:Int)=0
  ·exists Gp a0;exact q 0 H1 (D1.mono (by lia)) k1 (by decide)
  ·exists Gn a0;rw[hN];clear hN N;refine ao λN hN=>?_;walk_at "rz";refine⟨⟨by lia,by lia,by decide⟩,?_⟩
   rw[hN];clear hN N;obtain⟨j,ej,hj⟩:∃j:Nat,((z:Int)-1).toNat=j/\j<=15:=⟨_,rfl,by lia⟩
   rw[ej,Int.one_mul];have p1:(0:Int)<2^j:=Int.pow_pos (by decide)
   have p2:(2:Int)^j<=2^15:=by
    have:2^j<=2^15:=JT (by decide) hj
    exact_mod_cast this
   generalize (2:Int)^j=t at p1 p2;walk_at "rz";refine⟨p,dq,t,n+1,rfl,D1,by lia,p1,by lia,λv H2 hv D2 k2=>?_⟩
   walk_at "rz";obtain⟨k,ek⟩:∃k:Nat,t+(v:Int)=k:=⟨(t+(v:Int)).toNat,by lia⟩
   rw[ek];exact q k H2 D2 (k1.trans k2) (by lia)
theorem two8{c:Nat}(h1:(c:Int)<2):∃m:Int,bX [V.int 2,.int 8] (c:Int)=some (.int m)/\0<m/\m<=8:=by
 have:c=0\/c=1:=by lia
 rcases this with rfl|rfl
 ·exact⟨2,rfl,by decide,by decide⟩
 ·exact⟨8,rfl,by decide,by decide⟩
theorem nG{p:Addr}{n:Nat}{Q:VK}(D:b7 H p dq n)(hn:n<2^49)(q:∀b H',b<8->b7 H' p dq (n+2)->KB [p,dq] H H'->Q (.str (bW b)) H'):
  0+1+1<=sizeLine/\∀m,H m=none->eC [.ref p,.int 2] (upd H m (.lst [.int 2,.int 8])) (λy H2=>Cp K (.ref m) y H2 λx H1=>eC [.ref p,x] H1 (λy H2=>Cp K (.str (Str.ofString "abcdefgh")) y H2 Q) E0) E0:=by
 refine⟨by decide,λm hm=>⟨p,dq,2,n,rfl,D.kb (KB.new hm),by lia,by decide,by decide,λd H2 hd D2 k2=>?_⟩⟩
 have s2:=aF (k2 m _ aa (D.new hm));have kk:KB [p,dq] H H2:=(KB.new hm).trans k2;obtain⟨x,ha,x0,x8⟩:=two8 hd;exists s2,ha;refine⟨p,dq,x,n+1,rfl,D2,by lia,x0,by lia,λy H3 hy D3 k3=>?_⟩
 have hb:=vy (show 0<=(y:Int) by lia) (show (y:Int)<8 by lia)
 exists hb;exact⟨by decide +kernel,q y H3 (by lia) D3 (kk.trans k3)⟩
noncomputable def Ak(K:LA):Sp:=λvs H Q _=>∃(p dq:Addr) (many n:Nat),vs=[.ref p,.int (many:Nat)]/\b7 H p dq n/\n<2^38/\many<1000/\∀(r:Row) (a:Addr) H',r.Ok many->H' a=some (.tup r.vs)->b7 H' p dq (n+5)->KB [p,dq] H H'->Q (.ref a) H'
theorem BI(T:Txt K mg)(F:HasFn K mg "_law_row" fm ["deck","goals"])(h_law_draw:aq P w K mg base bf 2 "_law_draw" ["deck","most"] eC)(h_law_number:aq P w K mg base bf 3 "_law_number" ["deck"] mG):aq P w K mg base bf 4 "_law_row" ["deck","goals"] (Ak K):=by
 refine F.fQ dZ (λvs H Q E h=>?_) (λf cdv A outer s H vs Q E hr h=>?_)
 ·obtain⟨p,dq,many,n,rfl,_⟩:=h;rfl
 ·have hu:=aZ hr;obtain⟨p,dq,many,n,rfl,hd,hn,hmy,q⟩:=h;refine⟨_,(Z.ag (Z.set (i:=2) dZ.nd rfl (by right) (Z.lst (Z.consts rfl)))
   (Z.ag (Z.set (i:=3) dZ.nd rfl (by right) (Z.ix (Z.ax K rfl hu) (Z.v 2) (Z.fn h_law_draw (hr.mono (by decide)) rfl au (Z.cons (Z.v 0) (Z.cons Z.int Z.nil)))))
   (Z.ag (Z.set (i:=4) dZ.nd rfl (by right) (Z.ix (Z.ax K rfl hu) Z.str (Z.fn h_law_draw (hr.mono (by decide)) rfl au (Z.cons (Z.v 0) (Z.cons (Z.ix (Z.ax K rfl hu) (Z.lst (Z.consts rfl)) (Z.fn h_law_draw (hr.mono (by decide)) rfl au (Z.cons (Z.v 0) (Z.cons Z.int Z.nil)))) Z.nil)))))
   (Z.ag (Z.cu (Z.aR aO (Z.v 3) Z.str) (Z.ar (Z.ret (Z.tup (Z.cons (Z.v 3) (Z.cons (Z.v 4) (Z.cons (Z.fn h_law_number (hr.mono (by decide)) rfl au (Z.cons (Z.v 0) Z.nil)) Z.nil)))))) Z.bj)
   (Z.ag (Z.cu (Z.aR (Z.yH K rfl hu) (Z.v 3) (Z.tup (Z.consts rfl))) (Z.ar (Z.ret (Z.tup (Z.cons (Z.v 3) (Z.cons (Z.v 4) (Z.cons (Z.ix (Z.ax K rfl hu) Z.str (Z.fn h_law_draw (hr.mono (by decide)) rfl au (Z.cons (Z.v 0) (Z.cons (Z.ix (Z.ax K rfl hu) (Z.lst (Z.consts rfl)) (Z.fn h_law_draw (hr.mono (by decide)) rfl au (Z.cons (Z.v 0) (Z.cons Z.int Z.nil)))) Z.nil)))) Z.nil)))))) Z.bj)
   (Z.ag (Z.cu (Z.aR (Z.yH K rfl hu) (Z.v 3) (Z.tup (Z.consts rfl))) (Z.ar (Z.ret (Z.tup (Z.cons (Z.v 3) (Z.cons (Z.v 4) Z.nil))))) Z.bj)
   (Z.ag (Z.cu (Z.aR aO (Z.v 3) Z.str) (Z.ar (Z.ret (Z.tup (Z.cons (Z.v 3) (Z.cons (Z.fn h_law_draw (hr.mono (by decide)) rfl au (Z.cons (Z.v 0) (Z.cons (Z.op (Z.aP K rfl) (Z.v 1) Z.int) Z.nil))) Z.nil))))) Z.bj)
   (Z.ag (Z.cu (Z.aR aO (Z.v 3) Z.str) (Z.ar (Z.ret (Z.tup (Z.cons (Z.v 3) (Z.cons (Z.v 4) (Z.cons (Z.fn h_law_draw (hr.mono (by decide)) rfl au (Z.cons (Z.v 0) (Z.cons (Z.op (Z.aP K rfl) (Z.v 1) Z.int) Z.nil))) Z.nil)))))) Z.bj)
   (Z.ar (Z.ret (Z.tup (Z.cons (Z.v 3) Z.nil)))))))))))),?_⟩
  refine ao λN hN=>?_;walk_at "rz";refine⟨by decide,λl hl=>?_⟩
  have k1:KB [] H (upd H l (.lst [.str (Str.ofString "put"),.str (Str.ofString "put"),.str (Str.ofString "add"),.str (Str.ofString "sub"),.str (Str.ofString "copy"),.str (Str.ofString "tell"),.str (Str.ofString "tell"),.str (Str.ofString "hear"),.str (Str.ofString "jump"),.str (Str.ofString "zero"),.str (Str.ofString "zero"),.str (Str.ofString "halt")])):=KB.new hl;have s1:upd H l (.lst [.str (Str.ofString "put"),.str (Str.ofString "put"),.str (Str.ofString "add"),.str (Str.ofString "sub"),.str (Str.ofString "copy"),.str (Str.ofString "tell"),.str (Str.ofString "tell"),.str (Str.ofString "hear"),.str (Str.ofString "jump"),.str (Str.ofString "zero"),.str (Str.ofString "zero"),.str (Str.ofString "halt")]) l=_:=aa;generalize upd H l _=H1 at *;have D1:=hd.kb k1;have nl:=hd.new hl;rw[hN];clear hN N;refine ao λN hN=>?_;walk_at "rz";refine⟨p,dq,12,n,rfl,D1,by lia,by decide,by decide,λc H2 hc D2 k2=>?_⟩
  have s2:=k2 _ _ s1 nl;obtain⟨v,hv,ha⟩:=AL (xs:=[V.str (Str.ofString "put"),.str (Str.ofString "put"),.str (Str.ofString "add"),.str (Str.ofString "sub"),.str (Str.ofString "copy"),.str (Str.ofString "tell"),.str (Str.ofString "tell"),.str (Str.ofString "hear"),.str (Str.ofString "jump"),.str (Str.ofString "zero"),.str (Str.ofString "zero"),.str (Str.ofString "halt")]) (i:=c) hc;exists aF s2,ha;have kk2:KB [p,dq] H H2:=k1.all.trans k2;clear ha hc k1 k2 s1 s2 nl hl;rw[hN];clear hN N;refine ao λN hN=>?_;walk_at "rz";refine nG D2 (by lia) λbn H3 hb8 D3 k3=>?_
  have kk3:=kk2.trans k3;clear k3 D2 kk2 D1;rw[hN];clear hN N;have hv6:v=.str "put"\/(∃w,v=.str (w2 w))\/(∃w,v=.str (w1 w))\/v=.str "jump"\/v=.str "zero"\/v=.str "halt":=by
   simp only[Gv,GG,Hj] at hv;rcases hv with h|h|h|h|h|h|h|h|h|h|h|h<;>subst h<;>first|exact .inl rfl|exact .inr (.inl ⟨0,rfl⟩)|exact .inr (.inl ⟨1,rfl⟩)|exact .inr (.inl ⟨2,rfl⟩)|exact .inr (.inr (.inl ⟨0,rfl⟩))|exact .inr (.inr (.inl ⟨1,rfl⟩))|exact .inr (.inr (.inr (.inl rfl)))|exact .inr (.inr (.inr (.inr (.inl rfl))))|exact .inr (.inr (.inr (.inr (.inr rfl))))
  clear hv;have tell:∀(r:Row) (G:Hp) (m:Nat),r.Ok many->b7 G p dq m->m<=n+5->KB [p,dq] H G->∀t,G t=none->Q (.ref t) (upd G t (.tup r.vs)):=λr G m ok D hm k t ht=>q r t _ ok aa ((D.kb (KB.new ht)).mono hm) (k.trans (KB.new ht));refine ao λN hN=>?_;rcases hv6 with rfl|⟨u,rfl⟩|⟨u,rfl⟩|hv
  ·exists (show (Str.ofString "put"=Str.ofString "put")=True from eq_true rfl),Jn;refine⟨p,dq,n+3,rfl,D3,by lia,λk H4 D4 k4 hk=>⟨by decide,λt ht=>?_⟩⟩
   exact tell (.put bn k) H4 _ ⟨hb8,hk⟩ D4 (by lia) (kk3.trans k4) t ht
  ·have n1:∀u,w2 u≠"put":=by decide +kernel
   have i1:∀u,jV (.str (w2 u)) [.str "add",.str "sub",.str "copy"]=true:=by decide +kernel
   exists Gn (n1 u);rw[hN];clear hN N;refine ao λN hN=>?_;exists i1 u;refine⟨by decide,λt0 ht0=>⟨rfl,rfl,?_⟩⟩
   refine nG (D3.kb (KB.new ht0)) (by lia) λb2 H4 hb2 D4 k4=>⟨by decide,λt ht=>?_⟩
   exact tell (.two u bn b2) H4 _ ⟨hb8,hb2⟩ D4 (by lia) ((kk3.trans (KB.new ht0)).trans k4) t ht
  ·have n1:∀u,w1 u≠"put":=by decide +kernel
   have i1:∀u,jV (.str (w1 u)) [.str "add",.str "sub",.str "copy"]=false:=by decide +kernel
   have i2:∀u,jV (.str (w1 u)) [.str "tell",.str "hear"]=true:=by decide +kernel
   exists Gn (n1 u);rw[hN];clear hN N;refine ao λN hN=>?_;exists i1 u;refine⟨by decide,λt0 ht0=>⟨rfl,rfl,?_⟩⟩
   rw[hN];clear hN N;refine ao λN hN=>?_;exists i2 u;refine⟨by decide,λt1 ht1=>⟨rfl,rfl,by decide,λt ht=>?_⟩⟩
   exact tell (.one u bn) _ _ hb8 ((D3.kb (KB.new ht0)).kb (KB.new ht1)) (by lia) ((kk3.trans (KB.new ht0)).trans (KB.new ht1)) t ht
  ·have n1:∀z∈([("jump"),("zero"),("halt")]:List Str),z≠"put"/\jV (.str z) [.str "add",.str "sub",.str "copy"]=false/\jV (.str z) [.str "tell",.str "hear"]=false:=by decide +kernel
   obtain⟨z,hz,rfl⟩:∃z∈([("jump"),("zero"),("halt")]:List Str),v=.str z:=by rcases hv with rfl|rfl|rfl<;>exact⟨_,by simp,rfl⟩
   obtain⟨e1,e2,e3⟩:=n1 z hz;exists Gn e1;rw[hN];clear hN N;refine ao λN hN=>?_;exists e2;refine⟨by decide,λt0 ht0=>⟨rfl,rfl,?_⟩⟩
   rw[hN];clear hN N;refine ao λN hN=>?_;exists e3;refine⟨by decide,λt1 ht1=>⟨rfl,rfl,?_⟩⟩
   have D4:=(D3.kb (KB.new (o:=.tup [.str "add",.str "sub",.str "copy"]) ht0)).kb (KB.new (o:=.tup [.str "tell",.str "hear"]) ht1);have kk4:=(kk3.trans (KB.new (o:=.tup [.str "add",.str "sub",.str "copy"]) ht0)).trans (KB.new (o:=.tup [.str "tell",.str "hear"]) ht1);rw[hN];clear hN N;generalize upd (upd H3 t0 _) t1 _=H4 at *;refine ao λN hN=>?_;rcases hv with hv|hv
   ·cases hv;exists Gp (rfl:Str.ofString "jump"=Str.ofString "jump");refine⟨p,dq,(many:Int)+1,n+3,rfl,D4,by lia,by lia,by lia,λg H5 hg D5 k5=>⟨by decide,λt ht=>?_⟩⟩
    exact tell (.jump g) H5 _ (show g<=many by lia) D5 (by lia) (kk4.trans k5) t ht
   ·have nh:z≠"jump":=by rcases hv with hv|hv<;>cases hv<;>decide +kernel
    exists Gn nh;rw[hN];clear hN N;refine ao λN hN=>?_;rcases hv with hv|hv
    ·cases hv;exists Gp (rfl:Str.ofString "zero"=Str.ofString "zero");refine⟨p,dq,(many:Int)+1,n+3,rfl,D4,by lia,by lia,by lia,λg H5 hg D5 k5=>⟨by decide,λt ht=>?_⟩⟩
     exact tell (.zero bn g) H5 _ ⟨hb8,(show g<=many by lia)⟩ D5 (by lia) (kk4.trans k5) t ht
    ·cases hv;have nz:Str.ofString "halt"≠Str.ofString "zero":=by decide +kernel
     exists Gn nz;rw[hN];clear hN N;walk_at "rz";exact⟨by decide,λt ht=>tell .halt H4 _ trivial D4 (by lia) kk4 t ht⟩
noncomputable def FO(H:Hp)(ca:Addr)(cd:List (List (List Nat))):Prop:=∃a0 a1 a2,H ca=some (.lst [.ref a0,.ref a1,.ref a2])/\H a0=some (.lst (wV (cd.getD 0 [])))/\H a1=some (.lst (wV (cd.getD 1 [])))/\H a2=some (.lst (wV (cd.getD 2 [])))
noncomputable def mB(cd:List (List (List Nat))):Pk->List Nat
 |.box b=>g_ cd (2,b)
 |.num n=>g_ cd (1,fw n)++(j3 n).tail
 |.goal _=>[]
noncomputable def Pk.of(w:Str):Pk->Prop
 |.box _=>True
 |.num _=>w=Str.ofString "put"
 |.goal _=>w≠Str.ofString "put"
theorem BQ(r:Row):∀p∈r.g9,p.of r.wd:=by
 cases r with
 |put b n=>intro p hp;simp only[Row.g9,Gv,GG,Hj] at hp;rcases hp with rfl|rfl;exact trivial;exact rfl
 |two u a b=>intro p hp;simp only[Row.g9,Gv,GG,Hj] at hp;rcases hp with rfl|rfl<;>exact trivial
 |one u b=>intro p hp;simp only[Row.g9,Gv,GG,Hj] at hp;subst hp;exact trivial
 |jump g=>intro p hp;simp only[Row.g9,Gv,GG,Hj] at hp;subst hp;show Str.ofString "jump"≠Str.ofString "put";decide +kernel
 |zero b g=>intro p hp;simp only[Row.g9,Gv,GG,Hj] at hp;rcases hp with rfl|rfl;exact trivial;show Str.ofString "zero"≠Str.ofString "put";decide +kernel
 |halt=>intro p hp;cases hp
theorem oT(cd:List (List (List Nat)))(r:Row):gH cd r=g_ cd (0,r.wi)++r.g9.flatMap (mB cd):=by
 cases r<;>simp[gH,oA,Row.g9,Pk.Fu,mB,xo]
theorem ze(l:List Nat):Y.f_ (wd l) (some 1) none=wd l.tail:=by
 unfold Y.f_ wd;congr 2;show Y.lI l (some 1) none=l.tail;unfold Y.lI;rw[HT.gI,show (some (1:Int))=some ((1:Nat):Int) from rfl,HT.e7]
 cases l with
 |nil=>rfl
 |cons x l=>simp
theorem sY(x:V)(xs:List V):iM (x::xs) (some 1) none=xs:=by
 unfold iM;rw[HT.gI,show (some (1:Int))=some ((1:Nat):Int) from rfl,HT.e7];simp
theorem u5{x:List Nat}(h:ws[i]?=some x):bX (wV ws) (i:Int)=some (.str (wd x)):=bI (by unfold wV;rw[G8,h];rfl)
noncomputable def rj(K:LA):Sp:=λvs H Q _=>∃(ra ca:Addr) (r:Row) (k:Nat) (cd:List (List (List Nat))),vs=[.ref ra,.ref ca]/\H ra=some (.tup r.vs)/\FO H ca cd/\r.Ok k/\Cd cd/\∀H',KB [] H H'->Q (.str (wd (gH cd r))) H'
theorem vZ(T:Txt K mg)(F:HasFn K mg "_law_plain" dB ["row","codes"])(h_law_words:aq P w K mg base bf 1 "_law_words" [] kZ)(h_law_bits:aq P w K mg base bf 1 "_law_bits" ["number","many"] iN):aq P w K mg base bf 2 "_law_plain" ["row","codes"] (rj K):=by
 refine F.fQ cg (λvs H Q E h=>?_) (λf cdv A outer s H vs Q E hr h=>?_)
 ·obtain⟨ra,ca,r,k,cd,rfl,_⟩:=h;rfl
 ·have hu:=aZ hr;obtain⟨ra,ca,r,k,cd,rfl,hra,hca,aX,hC,q⟩:=h;obtain⟨a0,a1,a2,g,g0,g1,g2⟩:=hca;rw[Row.Aa] at hra;rw[oT] at q;refine⟨_,(Z.ag (Z.set (i:=2) cg.nd rfl (by right) (Z.ix (Z.ax K rfl hu) (Z.ix (Z.ax K rfl hu) (Z.v 1) Z.int) (Z.bm K rfl PySem.F.plainAttrs_list PySem.F.slot_list_index PySem.F.type_list_index Y.yQ (Z.FR h_law_words (hr.mono (by decide)) rfl au) (Z.cons (Z.ix (Z.ax K rfl hu) (Z.v 0) Z.int) Z.nil))))
   (Z.ag (Z.eS GQ rfl (Z.any K rfl (Z.slice (Z.Fv K rfl) (Z.v 0) (Z.m6 Z.int) Z.CS)) (Z.bo (i:=3) cg.nd rfl (by right)) (Z.ar (Z.cu (Z.ll K rfl (Z.cb (Z.j6 K rfl) rfl T.bU Hk (Z.cons (Z.v 3) (Z.cons (Z.BW (T:="str") rfl T.uh (by decide +kernel)) Z.nil)))) (Z.ar (Z.set (i:=2) cg.nd rfl (by right) (Z.op (Z.aP K rfl) (Z.v 2) (Z.ix (Z.ax K rfl hu) (Z.ix (Z.ax K rfl hu) (Z.v 1) Z.int) (Z.bm K rfl PySem.F.plainAttrs_str PySem.F.slot_str_index PySem.F.type_str_index Y.fJ Z.str (Z.cons (Z.v 3) Z.nil)))))) (Z.ar (Z.cu (Z.aR aO (Z.ix (Z.ax K rfl hu) (Z.v 0) Z.int) Z.str) (Z.ag (Z.set (i:=4) cg.nd rfl (by right) (Z.Gf K rfl PySem.F.plainAttrs_int PySem.F.slot_int_bit_length PySem.F.type_int_bit_length Y.x_ (Z.v 3)))
   (Z.ar (Z.set (i:=2) cg.nd rfl (by right) (Z.op (Z.aP K rfl) (Z.op (Z.aP K rfl) (Z.v 2) (Z.ix (Z.ax K rfl hu) (Z.ix (Z.ax K rfl hu) (Z.v 1) Z.int) (Z.v 4))) (Z.slice Y.fi (Z.fn h_law_bits (hr.mono (by decide)) rfl au (Z.cons (Z.v 3) (Z.cons (Z.v 4) Z.nil))) (Z.m6 Z.int) Z.CS))))) Z.bj)))))
   (Z.ar (Z.ret (Z.v 2))))),?_⟩
  obtain⟨c0,c1,c2,rfl,l0,l1,l2⟩:=hC.ex;have w0:=hC.at (p:=(0,r.wi)) (.inl ⟨rfl,r.xn⟩);refine ao λN hN=>?_;exists aF g;refine⟨rfl,λl hl=>?_⟩;have k1:KB [] H (upd H l (.lst (bz.map V.str))):=KB.new hl;have s1:upd H l (.lst (bz.map V.str)) l=_:=aa;generalize upd H l (.lst (bz.map V.str))=H1 at *;exists aG (k1 _ _ hra (by simp))
  refine⟨.inl ⟨rfl,_,bZ.of s1⟩,l,bz,r.wd,r.wi,rfl,s1,rfl,(z_ r).1,(z_ r).2,?_⟩;exists aF (k1 _ _ g0 (by simp)),u5 w0.2.1
  rw[hN];clear hN N;refine ao λN hN=>?_;have hra1:=k1 _ _ hra (by simp)
  exists aG hra1;refine⟨ra,_,rfl,b8.of hra1,by rw[show (some (1:Int))=some ((1:Nat):Int) from rfl,HT.e7,GC];lia,λt ht=>?_⟩
  rw[sY];have k2:KB [] H1 (upd H1 t (.tup (r.g9.map Pk.v))):=KB.new ht;have s2:upd H1 t (.tup (r.g9.map Pk.v)) t=_:=aa;generalize upd H1 t (.tup (r.g9.map Pk.v))=H2 at *;have k02:=k1.trans k2;simp only[aG s2];have G:=k02 _ _ g (by simp)
  have G1:=k02 _ _ g1 (by simp)
  have G2:=k02 _ _ g2 (by simp)
  have GR:=k02 _ _ hra (by simp)
  refine jj (xs:=r.g9.map Pk.v) (λi σ H'=>H'=H2/\∃(x:List Nat) (o3 o4:Option V),x.length+60*(r.g9.drop i).length<=200/\g_ [c0,c1,c2] (0,r.wi)++r.g9.flatMap (mB [c0,c1,c2])=x++(r.g9.drop i).flatMap (mB [c0,c1,c2])/\σ=[some (.ref ra),some (.ref ca),some (.str (wd x)),o3,o4]) ⟨rfl,_,none,none,?_,rfl,rfl⟩ (λi σ H' _ h=>by rw[h.1];exact b8.of s2) ?_ ?_
  ·have h1:r.g9.length<=2:=by cases r<;>simp[Row.g9]
   have h2:=w0.2.2;rw[HX];lia
  ·rintro i x σ H' hx ⟨rfl,y,o3,o4,hy,ea,rfl⟩;have hi:i<r.g9.length:=by have:=(Gq.mp hx).1;rw[Gx] at this;exact this
   obtain rfl:x=(r.g9[i]).v:=by
    rw[G8,Gm hi] at hx;exact (Option.some.inj hx).symm
   have hp0:=Row.wc aX _ (List.getElem_mem hi);have hp1:=BQ r _ (List.getElem_mem hi);rw[List.drop_eq_getElem_cons hi] at hy ea;rw[List.length_cons] at hy;generalize r.g9[i]=pk at *;unfold bq;dsimp only;refine jU λM hM=>?_
   cases pk with
   |box b =>
    have hb:b<8:=hp0;have w2:=hC.at (p:=(2,b)) (.inr (.inr ⟨rfl,hb⟩));show lJ _ _ _ _ [_,_,_,some (V.str (bW b)),_] _;exists (show gJ "str" "str"=true from by decide +kernel),aF G
    refine⟨by decide,rfl,_,_,b,[],rfl,rfl,rX hb,?_⟩
    exists aF G2,u5 w2.2.1;rw[ay,ay,eB];refine⟨Gw (show _<=240 by have:=w2.2.2;lia) (by decide),?_⟩
    rw[hM];exact⟨rfl,y++g_ [c0,c1,c2] (2,b),some _,o4,by rw[Gr];have:=w2.2.2;lia,by rw[ea,Jr,GS];rfl,rfl⟩
   |num n =>
    have hn:n<65536:=hp0;have hb:=me hn;have w1:=hC.at (p:=(1,fw n)) (.inr (.inl ⟨rfl,hb⟩));show lJ _ _ _ _ [_,_,_,some (V.int (n:Nat)),_] _;exists (show gJ "int" "str"=false from by decide +kernel),aG GR,Gp (show r.wd=Str.ofString "put" from hp1)
    refine⟨by decide,rfl,(n:Int),rfl,rfl,?_⟩
    rw[show ((Builtin.Int.intBits (n:Int):Nat):Int)=(fw n:Int) from rfl];exists aF G,aF G1,u5 w1.2.1;have fl:(j3 n).length=fw n:=yZ n;have ft:(j3 n).tail.length<=16:=by rw[List.length_tail];lia
    have h3:=w1.2.2;refine⟨by rw[ay,ay];exact Gw (show _<=300 by lia) (by decide),(n:Int),fw n,rfl,by lia,?_⟩
    rw[show d7 (n:Int) (fw n) []=j3 n from rfl];refine⟨_,rfl,by rw[ay];exact Gw (show _<=20 by lia) (by decide),?_⟩
    rw[ze,eB];exists ay;rw[eB];refine⟨Gw (show _<=300 by rw[Gr];lia) (by decide),?_⟩
    rw[hM];exact⟨rfl,y++g_ [c0,c1,c2] (1,fw n)++(j3 n).tail,some _,some _,by rw[Gr,Gr];lia,by rw[ea,Jr];simp[mB],rfl⟩
   |goal n =>
    show lJ _ _ _ _ [_,_,_,some (V.int (n:Nat)),_] _;exists (show gJ "int" "str"=false from by decide +kernel),aG GR,Gn (show r.wd≠Str.ofString "put" from hp1)
    refine⟨by decide,?_⟩
    rw[hM];exact⟨rfl,y,some _,o4,by lia,by rw[ea,Jr];rfl,rfl⟩
  ·rintro σ H' ⟨rfl,x,o3,o4,_,ea,rfl⟩;rw[Gx,Jc,List.flatMap_nil,HL] at ea;show N _ _;rw[hN];clear hN N;walk_at "rz";rw[ea] at q;exact q _ k02
theorem Au(h:a≠b):(Sum.inr (wd a):Key)≠.inr (wd b):=λe=>h (ve (Sum.inr.inj e))
structure Tb (kvs:List (Key×V)) (ws:List (List Nat)) (n:Nat):Prop where
 len:kvs.length=n
 yes:∀(t:Nat) (h:t<ws.length),t<n->cR kvs (.inr (wd ws[t]))=some (.int (t:Nat))
 no:∀x,x∉ws.take n->cR kvs (.inr (wd x))=none
theorem Tb.put{kvs:List (Key×V)}{n:Nat}(h:Tb kvs ws n)(hn:n<ws.length)(nd:ws.Nodup):Tb (putK kvs (.inr (wd ws[n])) (.int (n:Nat))) ws (n+1):=by
 have apart:∀t (ht:t<ws.length),t<n->ws[t]≠ws[n]:=λt ht h=>HZ.mp nd t n ht hn h;have hno:ws[n]∉ws.take n:=λhm=>by
  obtain⟨i,hi,e⟩:=Jd.mp hm;rw[List.getElem_take] at e;have hi':i<n:=by rw[GP] at hi;lia
  exact apart i (by lia) hi' e
 refine⟨by rw[nk _ (h.no _ hno),Gr,h.len];rfl,λt ht htn=>?_,λx hx=>?_⟩
 ·rw[mX];rcases Ho t n with c|c
  ·rw[Gn (Au (apart t ht c))];exact h.yes t ht c
  ·have:t=n:=by lia
   subst this;rw[Gp rfl]
 ·have e2:ws.take (n+1)=ws.take n++[ws[n]]:=by rw[Kf,Gm hn];rfl
  rw[e2] at hx;rw[mX,Gn (Au λe=>hx (GJ _ (by rw[e];exact List.mem_singleton_self _)))]
  exact h.no x λz=>hx (IV _ z)
noncomputable def sm(H:Hp)(a:Addr)(ws:List (List Nat)):Prop:=∃kvs,H a=some (.dK kvs)/\Tb kvs ws ws.length
noncomputable def xC(H:Hp)(a:Addr)(cd:List (List (List Nat))):Prop:=∃t0 t1 t2,H a=some (.lst [.ref t0,.ref t1,.ref t2])/\sm H t0 (cd.getD 0 [])/\sm H t1 (cd.getD 1 [])/\sm H t2 (cd.getD 2 [])
theorem sm.keep{a:Addr}(h:sm H a ws)(k:KB ex H H')(hx:∀b∈ex,∀kvs,H b≠some (.dK kvs)):sm H' a ws:=by
 obtain⟨kvs,e,h⟩:=h;exact⟨kvs,k _ _ e λz=>hx _ z _ e,h⟩
theorem xC.keep{a:Addr}{cd:List (List (List Nat))}(h:xC H a cd)(k:KB ex H H')(n:a∉ex)(hx:∀b∈ex,∀kvs,H b≠some (.dK kvs)):xC H' a cd:=by
 obtain⟨t0,t1,t2,e,h0,h1,h2⟩:=h;exact⟨t0,t1,t2,k _ _ e n,h0.keep k hx,h1.keep k hx,h2.keep k hx⟩
noncomputable def nA(K:LA):Sp:=λvs H Q _=>∃(b:Addr) (bk:List (List Int)),vs=[.ref b]/\qY H b bk/\Bk bk/\(∀ws∈fI bk,Pf ws)/\∀a H',H a=none->KB [] H H'->xC H' a (fI bk)->Q (.ref a) H'
theorem rK(T:Txt K mg)(F:HasFn K mg "_law_tables" cW ["book"])(h_law_code:aq P w K mg base bf 2 "_law_code" ["lengths"] (lC K)):aq P w K mg base bf 3 "_law_tables" ["book"] (nA K):=by
 refine F.fQ bP (λvs H Q E h=>?_) (λf cdv A outer s H vs Q E hr h=>?_)
 ·obtain⟨b,bk,rfl,_⟩:=h;rfl
 ·have hu:=aZ hr;obtain⟨b,bk,rfl,hb,hB,hP,q⟩:=h;obtain⟨as,hb1,hb2,hb3⟩:=hb;obtain⟨l0,l1,l2,rfl,_,_,_,hl⟩:=hB;refine⟨_,(Z.ag (Z.set (i:=1) bP.nd rfl (by right) (Z.lst Z.nil))
   (Z.ag (Z.eS GQ rfl (Z.any K rfl (Z.v 0)) (Z.bo (i:=2) bP.nd rfl (by right)) (Z.ag (Z.set (i:=3) bP.nd rfl (by right) Z.Ej)
   (Z.ag (Z.eS GQ rfl (Z.CY K rfl rfl T.fD (Z.cons (Z.fn h_law_code (hr.mono (by decide)) rfl au (Z.cons (Z.v 2) Z.nil)) Z.nil)) (Z.tm (n:=2) K rfl rfl (Z.cH (Z.bo (i:=4) bP.nd rfl (by right)) (Z.cH (Z.bo (i:=5) bP.nd rfl (by right)) Z.jn))) (Z.ar (Z.dput hu (Z.v 3) (Z.v 5) (Z.v 4))))
   (Z.ar (Z.expr (Z.bm K rfl PySem.F.plainAttrs_list PySem.F.slot_list_append PySem.F.type_list_append cK (Z.v 1) (Z.cons (Z.v 3) Z.nil)))))))
   (Z.ar (Z.ret (Z.v 1))))),?_⟩
  refine ao λN hN=>?_;walk_at "rz";refine⟨by decide,λfd hfd=>?_⟩
  have k1:KB [] H (upd H fd (.lst [])):=KB.new hfd;have s1:upd H fd (.lst []) fd=_:=aa;generalize upd H fd (.lst [])=H1 at *;rw[hN];clear hN N;have hb1':=k1 _ _ hb1 (by simp)
  refine ao λN hN=>?_;exists aG hb1';have kF:∀{G:Hp} {o:HO},KB [] H G->KB [] H (upd G fd o):=λa b o e _=>by rw[ae (ai e hfd)];exact a b o e (by simp)
  refine jj (xs:=as.map V.ref) (λi σ H'=>∃(cs:List Addr) (o2 o3 o4 o5:Option V),i<=3/\KB [] H H'/\H' fd=some (.lst (cs.map V.ref))/\cs.length=i/\(∀(j:Nat) (c:Addr),cs[j]?=some c->sm H' c (wordsOf Cw.dN (List.getD [l0,l1,l2] j [])))/\σ=[some (.ref b),some (.ref fd),o2,o3,o4,o5]) ⟨[],none,none,none,none,by decide,k1,s1,rfl,(λj c e=>nomatch e),rfl⟩ (λi σ H' _ h=>by obtain⟨_,_,_,_,_,_,kk,_⟩:=h;exact b8.of (kk _ _ hb1 (by simp))) ?_ ?_
  ·rintro i x σ H' hx ⟨cs,o2,o3,o4,o5,hi3,h0,gf,gl,gt,rfl⟩;obtain⟨a,ea,rfl⟩:∃a,as[i]?=some a/\x=.ref a:=by
    rw[G8] at hx;obtain⟨a,e,rfl⟩:=GK.mp hx;exact⟨a,e,rfl⟩
   have hi:i<3:=by have:=(Gq.mp ea).1;rw[hb2] at this;exact this
   have hm:List.getD [l0,l1,l2] i []∈[l0,l1,l2]:=by rcases kE hi with rfl|rfl|rfl<;>simp
   have hpf:Pf (wordsOf Cw.dN (List.getD [l0,l1,l2] i [])):=hP _ (List.mem_map_of_mem (f:=wordsOf Cw.dN) hm);have hlm:=hl _ hm;have hwl:(wordsOf Cw.dN (List.getD [l0,l1,l2] i [])).length<=40:=by rw[fP];have:=hlm.1.2.1;lia
   have hai:=hb3 i a ea;unfold bq;refine ao λM hM=>?_;walk_at "rz";intro tb htb;have k2:KB [] H' (upd H' tb (.dK [])):=KB.new htb;have s2:upd H' tb (.dK []) tb=_:=aa;generalize upd H' tb (.dK [])=H2 at *;have tb0:H tb=none:=h0.free (by simp) htb
   rw[hM];clear hM M;refine ao λM hM=>?_;walk_at "rz";refine⟨a,_,rfl,k2 _ _ (h0 _ _ hai (by simp)) (by simp),hlm.1,hlm.2,λwl H3 hwl0 k3 s3=>?_⟩
   generalize hws:wordsOf Cw.dN (List.getD [l0,l1,l2] i [])=ws at *;refine⟨wl,rfl,⟨_,bZ.of s3⟩,?_⟩;have s23:=k3 _ _ s2 (by simp)
   have h03:=h0.trans (k2.trans k3);have gf3:=(k2.trans k3) _ _ gf (by simp)
   have tf:tb≠fd:=λz=>by rw[z,gf3] at s23;cases s23
   have wt:wl≠tb:=λz=>by rw[z,s2] at hwl0;cases hwl0
   refine pP (xs:=wV ws) (λn σ G=>∃(kvs:List (Key×V)) (o4 o5:Option V),n<=ws.length/\KB [tb] H3 G/\G tb=some (.dK kvs)/\Tb kvs ws n/\σ=[some (.ref b),some (.ref fd),some (.ref a),some (.ref tb),o4,o5]) ⟨[],o4,o5,GF _,KB.refl _ _,s23,⟨rfl,λt h z=>(nomatch z),λx _=>rfl⟩,rfl⟩ (λn σ G _ h=>by obtain⟨_,_,_,_,kk,_⟩:=h;exact bZ.of (kk _ _ s3 (by simpa using wt))) ?_ ?_
   ·rintro n x σ G p hx ⟨kvs,o4,o5,hn,kG,gG,hT,rfl⟩ hp;have hlt:n<ws.length:=by have:=(Gq.mp hx).1;unfold wV at this;rw[Gx] at this;exact this
    obtain rfl:x=.str (wd ws[n]):=by
     unfold wV at hx;rw[G8,Gm hlt] at hx;exact (Option.some.inj hx).symm
    refine⟨p,_,rfl,b8.of aa,rfl,_,_,rfl,_,_,rfl,rfl,?_⟩;have k5:KB [] G (upd G p (.tup [.int n,.str (wd ws[n])])):=KB.new hp;generalize upd G p (.tup [.int n,.str (wd ws[n])])=G1 at *;have gG1:=k5 _ _ gG (by simp)
    dsimp only;refine jU λM2 hM2=>?_;walk_at "rz";refine⟨tb,_,rfl,sL.k (k:=.inr (wd ws[n])) gG1 (Nat.lt_of_le_of_lt (show _<=40 by rw[hT.len];lia) (by decide)),?_⟩
    rw[hM2];exact⟨_,some _,some _,hlt,λc o e z=>by rw[ae (by simpa using z)];exact k5 _ _ (kG _ _ e z) (by simp),aa,hT.put hlt hpf.nd,rfl⟩
   ·rintro σ G ⟨kvs,o4,o5,_,kG,gG,hT,rfl⟩;have ewl:(wV ws).length=ws.length:=List.length_map ..;rw[ewl] at hT;show M _ _;rw[hM];clear hM M;dsimp only;refine jU λM hM=>?_;have gfG:=kG _ _ gf3 (by simpa using tf.symm)
    walk_at "rz";refine⟨.inl ⟨rfl,_,bZ.of gfG⟩,fd,_,_,rfl,rfl,gfG,HU (show _<=3 by rw[Gx];lia) (by decide),?_⟩
    rw[hM];have h0G:KB [] H G:=λc o e _=>kG _ _ (h03 _ _ e (by simp)) (by simpa using ai e tb0)
    have upT:∀{c:Addr} {ws:List (List Nat)},sm G c ws->sm (upd G fd (.lst (cs.map V.ref++[.ref tb]))) c ws:=λh=>h.keep (KB.set (ex:=[fd]) (by simp)) (λb hb kvs e=>by rw[G6.mp hb,gfG] at e;cases e)
    refine⟨cs++[tb],some _,some _,o4,o5,hi,kF h0G,by rw[aa,GO];rfl,by rw[Gr,gl];rfl,λj c e=>upT ?_,rfl⟩
    rcases Ho j cs.length with hj|hj
    ·rw[Hg hj] at e;obtain⟨kv,e1,e2⟩:=gt j c e;have e3:=(k2.trans k3) _ _ e1 (by simp)
     refine⟨kv,kG _ _ e3 (by simp;rintro rfl;rw[e1] at htb;cases htb),e2⟩
    ·rw[GZ hj] at e;obtain⟨hj2,rfl⟩:=Gq.mp e;have:j=i:=by simp at hj2;lia
     subst this;simp only[gl,Io,Jw];rw[hws];exact⟨kvs,gG,hT⟩
  ·rintro σ H' ⟨cs,o2,o3,o4,o5,_,h0,gf,gl,gt,rfl⟩;rw[Gx,hb2] at gl;obtain⟨t0,t1,t2,rfl⟩:=p9 gl;show N _ _;rw[hN];clear hN N;walk_at "rz";exact q fd H' hfd h0 ⟨t0,t1,t2,gf,gt 0 t0 rfl,gt 1 t1 rfl,gt 2 t2 rfl⟩
noncomputable def mm:Sp:=λvs H Q _=>∃z:List Nat,vs=[.str (wd z)]/\dy z/\z.length<=40/\Q (.int (eJ z:Nat)) H
theorem vX(T:Txt K mg)(F:HasFn K mg "_law_value" dA ["text"]):aq P w K mg base bf 1 "_law_value" ["text"] mm:=by
 refine F.fQ cZ (λvs H Q E h=>?_) (λf cdv A outer s H vs Q E hr h=>?_)
 ·obtain⟨z,rfl,_⟩:=h;rfl
 ·have hu:=aZ hr;obtain⟨z,rfl,hb,hz,q⟩:=h;refine⟨_,(Z.ag (Z.set (i:=1) cZ.nd rfl (by right) Z.int)
   (Z.ag (Z.eS GQ rfl (Z.FL (Z.v 0)) (Z.bo (i:=2) cZ.nd rfl (by right)) (Z.ar (Z.set (i:=1) cZ.nd rfl (by right) (Z.op (Z.aP K rfl) (Z.op bN Z.int (Z.v 1)) (Z.bm K rfl PySem.F.plainAttrs_str PySem.F.slot_str_index PySem.F.type_str_index Y.fJ Z.str (Z.cons (Z.v 2) Z.nil))))))
   (Z.ar (Z.ret (Z.v 1))))),?_⟩
  refine ao λN hN=>?_;walk_at "rz";rw[hN];clear hN N;refine ao λN hN=>?_;walk_at "rz";refine mJ (z:=wd z) (λi σ H'=>H=H'/\∃o:Option V,i<=z.length/\σ=[some (.str (wd z)),some (.int (eJ (z.take i):Nat)),o]) ⟨rfl,none,GF _,rfl⟩ ?_ ?_
  ·rintro i c σ H' hc ⟨rfl,o,hi,rfl⟩;have hlt:i<z.length:=by have:=(HR.mp hc).1;simpa[wd] using this
   obtain rfl:c=z[i]:=by
    have:(wd z).cps[i]?=some z[i]:=by unfold wd;rw[Hl,Gm hlt]
    rw[this] at hc;exact (Option.some.inj hc).symm
   have hc2:=hb _ (List.getElem_mem hlt);unfold bq;dsimp only;refine jU λM hM=>?_;walk_at "rz";refine⟨.inl ⟨by decide,by decide⟩,rfl,_,_,z[i]-48,[],rfl,rfl,E6 hc2,?_⟩
   walk_at "rz";have e4:(2:Int)*(eJ (z.take i):Nat)+((z[i]-48:Nat):Int)=(eJ (z.take (i+1)):Nat):=by
    rw[Kf,Gm hlt];show _=((eJ (z.take i++[z[i]]):Nat):Int);rw[tH];lia
   rw[e4,hM];exact⟨rfl,some _,hlt,rfl⟩
  ·rintro σ H' ⟨rfl,o,_,rfl⟩;have e:(wd z).cps.size=z.length:=G4 ..;rw[e,Iz];show N _ _;rw[hN];clear hN N;walk_at "rz";exact q
noncomputable def js(K:LA):Sp:=λvs H Q _=>∃(a:Addr) (ws:List (List Nat)) (z:List Nat) (p:Nat),vs=[.ref a,.str (wd z),.int (p:Nat)]/\sm H a ws/\Pf ws/\(∀w∈ws,w.length<=20)/\z.length<=1000000/\p<=1000000/\∀v H',KB [] H H'->CQ H' v (hU ws z p)->Q v H'
theorem sH(T:Txt K mg)(F:HasFn K mg "_law_thing_at" cE ["table","bits","at"]):aq P w K mg base bf 1 "_law_thing_at" ["table","bits","at"] (js K):=by
 refine F.fQ cU (λvs H Q E h=>?_) (λf cdv A outer s H vs Q E hr h=>?_)
 ·obtain⟨a,ws,z,p,rfl,_⟩:=h;rfl
 ·have hu:=aZ hr;obtain⟨a,ws,z,p,rfl,⟨kvs,ha,hT⟩,hP,h20,hz,hp,q⟩:=h;refine⟨_,(Z.ag (Z.eS GQ rfl (Z.Fz rfl T.cY (Z.consts rfl)) (Z.bo (i:=3) cU.nd rfl (by right)) (Z.ag (Z.set (i:=4) cU.nd rfl (by right) (Z.slice Y.fi (Z.v 1) (Z.m6 (Z.v 2)) (Z.m6 (Z.op (Z.aP K rfl) (Z.v 2) (Z.v 3)))))
   (Z.ar (Z.cu (Z.tw (Z.tV (Z.aR aO (Z.cb (Z.bK K rfl) rfl T.bB (by decide +kernel) (Z.cons (Z.v 4) Z.nil)) (Z.v 3)) (Z.kP (Z.aR (Y.zH hu) (Z.v 4) (Z.v 0))))) (Z.ar (Z.ret (Z.tup (Z.cons (Z.oM hu (Z.v 0) (Z.v 4)) (Z.cons (Z.op (Z.aP K rfl) (Z.v 2) (Z.v 3)) Z.nil))))) Z.bj))))
   (Z.ar (Z.ret Z.aQ))),?_⟩
  refine ao λN hN=>?_;walk_at "rz";refine⟨1,21,⟨rfl,rfl⟩,by decide,?_⟩
  refine cm (n:=20) (λn σ H'=>H=H'/\∃o3 o4:Option V,n<=20/\(∀t,mx ws z p=some t->n<(ws.getD t []).length)/\σ=[some (.ref a),some (.str (wd z)),some (.int (p:Nat)),o3,o4]) ⟨rfl,none,none,GF _,λt ht=>?_,rfl⟩ ?_ ?_
  ·obtain⟨h1,_⟩:=eL ht;rw[Gy,Gm h1];exact J_.mpr (hP.ne _ (GL h1))
  ·rintro n σ H' hlt ⟨rfl,o3,o4,hn,hno,rfl⟩;rw[show (1:Int)+((n:Nat):Int)=((n+1:Nat):Int) by lia]
   have ec:(p:Int)+((n+1:Nat):Int)=((p+(n+1):Nat):Int):=by lia
   unfold bq;refine ao λM hM=>?_;exists ec;refine⟨_,rfl,by rw[ay];exact Gw hz (by decide),?_⟩
   rw[iT z p _ (by lia),HI]
   have next:(¬ (((z.drop p).take (n+1)).length=n+1/\(z.drop p).take (n+1)∈ws))->∀t,mx ws z p=some t->n+1<(ws.getD t []).length:=λhc t ht=>by
    have h1:=hno t ht;obtain⟨h2,h3⟩:=eL ht;rcases Nat.lt_or_eq_of_le (show n+1<=(ws.getD t []).length from h1) with h|h
    ·exact h
    ·have e4:(z.drop p).take (n+1)=ws.getD t []:=by rw[h];exact (Jo.mp h3).symm
     exact absurd ⟨by rw[e4];exact h.symm,by rw[e4,Gy,Gm h2];exact GL h2⟩ hc
   have hxl:((z.drop p).take (n+1)).length<=20:=by rw[GP];lia
   have hpre:((z.drop p).take (n+1)) <+: z.drop p:=List.take_prefix _ _;rw[hM];clear hM M;generalize (z.drop p).take (n+1)=x at *;dsimp only;refine jU λM hM=>?_;have cont':(¬ (x.length=n+1/\x∈ws))->M [some (.ref a),some (.str (wd z)),some (.int (p:Nat)),some (.int ((n+1:Nat):Int)),some (.str (wd x))] H:=λhc=>by
    rw[hM];exact⟨rfl,some _,some _,hlt,next hc,rfl⟩
   have hxs:(wd x).length<=sizeLine:=by rw[ay];exact Gw hxl (by decide)
   by_cases c1:x.length=n+1
   ·have c1':(((wd x).length:Nat):Int)=((n+1:Nat):Int):=by rw[ay,c1]
    by_cases c2:x∈ws
    ·obtain⟨t,ht,et⟩:=Jd.mp c2;have eg:ws.getD t []=x:=by rw[Gy,Gm ht];exact et
     have th:mx ws z p=some t:=hP.th ht (by rw[eg];exact hpre)
     have hlk:fZ H a (.str (wd x)) (some (.int (t:Nat))):=by
      have:=fZ.k (k:=.inr (wd x)) ha;rw[<- et] at this ⊢;rw[hT.yes t ht ht] at this;exact this
     exists Gp c1';refine⟨hxs,a,_,rfl,hlk,?_⟩;walk_at "rz";refine⟨a,_,rfl,hlk,by decide,λb hb=>?_⟩
     unfold hU at q;rw[th] at q;refine q _ _ (KB.new hb) ⟨b,rfl,?_⟩;rw[aa,ec];show _=some (HO.tup [V.int (t:Nat),V.int ((p+(ws.getD t []).length:Nat):Int)]);rw[eg,c1]
    ·have hlk:fZ H a (.str (wd x)) none:=by
      have:=fZ.k (k:=.inr (wd x)) ha;rw[hT.no x (by rw[Iz];exact c2)] at this
      exact this
     exists Gp c1';refine⟨hxs,a,_,rfl,hlk,?_⟩;walk_at "rz";exact cont' λh=>c2 h.2
   ·have c1':¬ (((wd x).length:Nat):Int)=((n+1:Nat):Int):=by rw[ay];lia
    exists Gn c1';exact⟨hxs,cont' λh=>c1 h.1⟩
  ·rintro σ H' ⟨rfl,o3,o4,_,hno,rfl⟩;have hnone:mx ws z p=none:=by
    cases c:mx ws z p with
    |none=>rfl
    |some t =>
     have h1:=hno t c;obtain⟨h2,_⟩:=eL c;rw[Gy,Gm h2] at h1;have:=h20 _ (GL h2);exact absurd h1 (by show ¬ 20<(ws[t]).length;lia)
   unfold hU at q;rw[hnone] at q;show N _ _;rw[hN];clear hN N;walk_at "rz";exact q _ _ (KB.refl _ _) rfl
noncomputable def FX(H:Hp)(v:V):Option (Int×Nat)->Prop
 |none=>v=.aQ
 |some x=>∃t,v=.ref t/\H t=some (.tup [.int x.1,.int (x.2:Nat)])
noncomputable def we(K:LA):Sp:=λvs H Q _=>∃(a:Addr) (ws:List (List Nat)) (z:List Nat) (p:Nat),vs=[.ref a,.str (wd z),.int (p:Nat)]/\sm H a ws/\Pf ws/\(∀w∈ws,w.length<=20)/\ws.length<=20/\dy z/\z.length<=1000000/\p<=1000000/\∀v H',KB [] H H'->CQ H' v (uN ws z p)->Q v H'
theorem yP(T:Txt K mg)(F:HasFn K mg "_law_number_at" cx ["table","bits","at"])(h_law_thing_at:aq P w K mg base bf 1 "_law_thing_at" ["table","bits","at"] (js K))(h_law_value:aq P w K mg base bf 1 "_law_value" ["text"] mm):aq P w K mg base bf 2 "_law_number_at" ["table","bits","at"] (we K):=by
 refine F.fQ cN (λvs H Q E h=>?_) (λf cdv A outer s H vs Q E hr h=>?_)
 ·obtain⟨a,ws,z,p,rfl,_⟩:=h;rfl
 ·have hu:=aZ hr;obtain⟨a,ws,z,p,rfl,hT,hP,h20,hw20,hb,hz,hp,q⟩:=h;refine⟨_,(Z.ag (Z.set (i:=3) cN.nd rfl (by right) (Z.fn h_law_thing_at (hr.mono (by decide)) rfl au (Z.cons (Z.v 0) (Z.cons (Z.v 1) (Z.cons (Z.v 2) Z.nil)))))
   (Z.ag (Z.cu (Z.tw (Z.ER (Z.aR cG (Z.v 3) Z.aQ) (Z.yN (Z.aR aO (Z.ix (Z.ax K rfl hu) (Z.v 3) Z.int) Z.int)))) (Z.ar (Z.ret (Z.v 3))) Z.bj)
   (Z.ag (Z.set (i:=4) cN.nd rfl (by right) (Z.slice Y.fi (Z.v 1) (Z.m6 (Z.ix (Z.ax K rfl hu) (Z.v 3) Z.int)) (Z.m6 (Z.op bO (Z.op (Z.aP K rfl) (Z.ix (Z.ax K rfl hu) (Z.v 3) Z.int) (Z.ix (Z.ax K rfl hu) (Z.v 3) Z.int)) Z.int))))
   (Z.ag (Z.cu (Z.aR i3 (Z.cb (Z.bK K rfl) rfl T.bB (by decide +kernel) (Z.cons (Z.v 4) Z.nil)) (Z.op bO (Z.ix (Z.ax K rfl hu) (Z.v 3) Z.int) Z.int)) (Z.ar (Z.ret Z.aQ)) Z.bj)
   (Z.ar (Z.ret (Z.tup (Z.cons (Z.fn h_law_value (hr.mono (by decide)) rfl au (Z.cons (Z.op (Z.aP K rfl) Z.str (Z.v 4)) Z.nil)) (Z.cons (Z.op (Z.aP K rfl) (Z.ix (Z.ax K rfl hu) (Z.v 3) Z.int) (Z.cb (Z.bK K rfl) rfl T.bB (by decide +kernel) (Z.cons (Z.v 4) Z.nil))) Z.nil))))))))),?_⟩
  refine ao λN hN=>?_;walk_at "rz";refine⟨a,ws,z,p,rfl,hT,hP,h20,hz,hp,λv H1 k1 o1=>?_⟩;rw[hN];clear hN N;refine ao λN hN=>?_;unfold uN at q
  cases c:hU ws z p with
  |none =>
   rw[c] at q o1;obtain rfl:v=.aQ:=o1;walk_at "rz";exact q _ _ k1 rfl
  |some x =>
   rw[c] at q o1;obtain⟨t,e⟩:=x;obtain⟨h1,_,h3,h4⟩:=eE hP.ne c;obtain⟨b,rfl,hb1⟩:=o1;dsimp only at q h1 h3 h4 hb1;have sb:=aG hb1;exists if_neg (show ¬ V.ref b=V.aQ from V.noConfusion),sb;by_cases c0:t=0
   ·subst c0;rw[Gp rfl] at q;rw[Gp (by rfl)]
    exact q _ _ k1 ⟨b,rfl,hb1⟩
   ·rw[Gn c0] at q;rw[Gn (show ¬ ((t:Nat):Int)=0 by lia),hN];clear hN N
    have eb:(e:Int)+(t:Int)-1=((e+(t-1):Nat):Int):=by lia
    have et:(t:Int)-1=((t-1:Nat):Int):=by lia
    have hb2:=hb.cut e (t-1);have hl2:((z.drop e).take (t-1)).length=min (t-1) (z.length-e):=by rw[GP,Hd]
    refine ao λN hN=>?_;exists sb,eb;refine⟨_,rfl,by rw[ay];exact Gw hz (by decide),?_⟩
    rw[iT z e _ (by lia),HI,hN];clear hN N
    have hx16:((z.drop e).take (t-1)).length<=20:=by lia
    have hxs:(wd ((z.drop e).take (t-1))).length<=sizeLine:=by rw[ay];exact Gw hx16 (by decide)
    refine ao λN hN=>?_;by_cases cl:e+(t-1)<=z.length
    ·rw[Gp cl] at q;have hls:((z.drop e).take (t-1)).length=t-1:=by lia
     exists sb,et;refine⟨hxs,?_⟩;rw[ay,Gn (show ¬ (((z.drop e).take (t-1)).length:Int)<((t-1:Nat):Int) by lia),hN];clear hN N
     generalize (z.drop e).take (t-1)=x at *;walk_at "rz";rw[show Str.ofString "1"=wd [49] from by decide +kernel,eB,ay,ay]
     refine⟨Gw (show _<=21 by simp;lia) (by decide),[49]++x,rfl,λc hc=>?_,by rw[Gr];simp;lia,?_⟩
     ·rcases Hh.mp hc with hc|hc
      ·exact .inr (G6.mp hc)
      ·exact hb2 c hc
     exists sb;rw[ay] at hxs;refine⟨hxs,by decide,λb2 hb2'=>q _ _ (k1.trans (KB.new hb2')) ⟨b2,rfl,?_⟩⟩
     rw[aa,hls];rfl
    ·rw[Gn cl] at q;exists sb,et;refine⟨hxs,?_⟩;rw[ay,Gp (show (((z.drop e).take (t-1)).length:Int)<((t-1:Nat):Int) by lia)]
     exact q _ _ k1 rfl
noncomputable def v_:Sp:=λvs H Q _=>∃(z:List Nat) (p:Nat),vs=[.str (wd z),.int (p:Nat)]/\dy z/\z.length<=1000000/\p<=1000000/\∀v H',KB [] H H'->FX H' v (gA z p)->Q v H'
theorem nv{n:Nat}(h:n<3):bX [V.str (Str.ofString "0"),.str (Str.ofString "10"),.str (Str.ofString "11")] (n:Int)=some (.str (wd (bT n))):=by
 rcases kE h with rfl|rfl|rfl
 ·exact Hm (λz=>some (V.str z)) (by decide +kernel)
 ·exact Hm (λz=>some (V.str z)) (by decide +kernel)
 ·exact Hm (λz=>some (V.str z)) (by decide +kernel)
theorem zQ(T:Txt K mg)(F:HasFn K mg "_law_way_at" dc ["bits","at"])(h_law_value:aq P w K mg base bf 1 "_law_value" ["text"] mm):aq P w K mg base bf 2 "_law_way_at" ["bits","at"] v_:=by
 refine F.fQ bS (λvs H Q E h=>?_) (λf cdv A outer s H vs Q E hr h=>?_)
 ·obtain⟨z,p,rfl,_⟩:=h;rfl
 ·have hu:=aZ hr;obtain⟨z,p,rfl,hb,hz,hp,q⟩:=h;refine⟨_,(Z.ag (Z.eS GQ rfl (Z.nF rfl T.cY (Z.cons Z.int Z.nil)) (Z.bo (i:=2) bS.nd rfl (by right)) (Z.ag (Z.set (i:=3) bS.nd rfl (by right) (Z.ix (Z.ax K rfl hu) (Z.lst (Z.consts rfl)) (Z.v 2)))
   (Z.ar (Z.cu (Z.aR aO (Z.slice Y.fi (Z.v 0) (Z.m6 (Z.v 1)) (Z.m6 (Z.op (Z.aP K rfl) (Z.v 1) (Z.cb (Z.bK K rfl) rfl T.bB (by decide +kernel) (Z.cons (Z.v 3) Z.nil))))) (Z.v 3)) (Z.ag (Z.set (i:=4) bS.nd rfl (by right) (Z.slice Y.fi (Z.v 0) (Z.m6 (Z.op (Z.aP K rfl) (Z.v 1) (Z.cb (Z.bK K rfl) rfl T.bB (by decide +kernel) (Z.cons (Z.v 3) Z.nil)))) (Z.m6 (Z.op (Z.aP K rfl) (Z.op (Z.aP K rfl) (Z.v 1) (Z.cb (Z.bK K rfl) rfl T.bB (by decide +kernel) (Z.cons (Z.v 3) Z.nil))) (Z.ix (Z.ax K rfl hu) (Z.lst (Z.consts rfl)) (Z.v 2))))))
   (Z.ag (Z.cu (Z.aR i3 (Z.cb (Z.bK K rfl) rfl T.bB (by decide +kernel) (Z.cons (Z.v 4) Z.nil)) (Z.ix (Z.ax K rfl hu) (Z.lst (Z.consts rfl)) (Z.v 2))) (Z.ar (Z.ret Z.aQ)) Z.bj)
   (Z.ag (Z.set (i:=5) bS.nd rfl (by right) (Z.fn h_law_value (hr.mono (by decide)) rfl au (Z.cons (Z.v 4) Z.nil)))
   (Z.ag (Z.cu (Z.aR rh (Z.v 5) (Z.ix (Z.ax K rfl hu) (Z.lst (Z.consts rfl)) (Z.v 2))) (Z.ar (Z.set (i:=5) bS.nd rfl (by right) (Z.op bO (Z.v 5) (Z.ix (Z.ax K rfl hu) (Z.lst (Z.consts rfl)) (Z.v 2))))) Z.bj)
   (Z.ar (Z.ret (Z.tup (Z.cons (Z.v 5) (Z.cons (Z.op (Z.aP K rfl) (Z.op (Z.aP K rfl) (Z.v 1) (Z.cb (Z.bK K rfl) rfl T.bB (by decide +kernel) (Z.cons (Z.v 3) Z.nil))) (Z.cb (Z.bK K rfl) rfl T.bB (by decide +kernel) (Z.cons (Z.v 4) Z.nil))) Z.nil))))))))) Z.bj))))
   (Z.ar (Z.ret Z.aQ))),?_⟩
  refine ao λN hN=>?_;walk_at "rz";refine⟨by decide,by decide,?_⟩
  refine cm (n:=3) (λn σ H'=>∃o2 o3 o4 o5:Option V,KB [] H H'/\n<=3/\(List.range' n (3-n)).find? (λi=>decide (m4.getD i [] <+: z.drop p))=mx m4 z p/\σ=[some (.str (wd z)),some (.int (p:Nat)),o2,o3,o4,o5]) ⟨none,none,none,none,KB.refl _ _,GF _,by unfold mx;rw[Ja];rfl,rfl⟩ ?_ ?_
  ·rintro n σ H' hlt ⟨o2,o3,o4,o5,k0,hn,ef,rfl⟩;rw[find3 hlt] at ef;rw[show (0:Int)+((n:Nat):Int)=(n:Int) from Int.zero_add _];have p2:=nv hlt;have p3:bX [V.int 4,.int 8,.int 16] (n:Int)=some (.int (ba n:Nat)):=by rcases kE hlt with rfl|rfl|rfl<;>rfl
   have p4:0<ba n/\ba n<=16/\(bT n).length<=2:=by rcases kE hlt with rfl|rfl|rfl<;>decide
   have p5:bX [V.int 8,.int 128,.int 32768] (n:Int)=some (.int (dO n)):=by rcases kE hlt with rfl|rfl|rfl<;>rfl
   have p6:bX [V.int 16,.int 256,.int 65536] (n:Int)=some (.int (2*dO n)):=by rcases kE hlt with rfl|rfl|rfl<;>rfl
   have zs:(wd z).length<=sizeLine:=by rw[ay];exact Gw hz (by decide)
   have h2l:(wd (bT n)).length<=sizeLine:=by rw[ay];exact Gw p4.2.2 (by decide)
   unfold bq;refine ao λM hM=>?_;exists p2;refine⟨by decide,λl1 hl1=>?_⟩
   have k1:=k0.trans (KB.new (o:=.lst [.str (Str.ofString "0"),.str (Str.ofString "10"),.str (Str.ofString "11")]) hl1);generalize upd H' l1 _=H1 at *;rw[hM];clear hM M;dsimp only;refine jU λM hM=>?_;refine la λA B hA hB=>?_;have ec1:(p:Int)+((wd (bT n)).length:Nat)=((p+(bT n).length:Nat):Int):=by rw[ay];lia
   exists ec1;refine⟨h2l,_,rfl,zs,?_⟩;rw[iT z p _ (by lia),HI]
   walk_at "rz";by_cases c:bT n <+: z.drop p
   ·rw[Gp c] at ef;rw[Gp (Hm wd (pre_take.mp c)),hA];clear hA hB A B;have hc:hU m4 z p=some (n,p+(bT n).length):=by unfold hU;rw[<- ef,<- xc hlt];rfl
    unfold gA at q;rw[hc] at q;dsimp only at q;generalize he:p+(bT n).length=e at *;have ec2:(e:Int)+(ba n:Nat)=((e+ba n:Nat):Int):=by lia
    have hb2:=hb.cut e (ba n);have hl2:((z.drop e).take (ba n)).length=min (ba n) (z.length-e):=by rw[GP,Hd]
    refine ao λM' hM'=>?_;exists ec1,p3,ec2;refine⟨h2l,h2l,by decide,λl2 hl2'=>⟨_,rfl,zs,?_⟩⟩
    have k2:=k1.trans (KB.new (o:=.lst [.int 4,.int 8,.int 16]) hl2');generalize upd H1 l2 _=H2 at *;rw[iT z e _ (by lia),HI,hM'];clear hM' M'
    have hx16:((z.drop e).take (ba n)).length<=16:=by lia
    generalize hx:(z.drop e).take (ba n)=x at *;have hxs:(wd x).length<=sizeLine:=by rw[ay];exact Gw hx16 (by decide)
    refine ao λM' hM'=>?_;refine la λA B hA hB=>?_;exists p3;refine⟨hxs,by decide,λl3 hl3=>?_⟩
    have k3:=k2.trans (KB.new (o:=.lst [.int 4,.int 8,.int 16]) hl3);generalize upd H2 l3 _=H3 at *;rw[ay];by_cases cl:e+ba n<=z.length
    ·rw[Gp cl] at q;have hls:x.length=ba n:=by lia
     rw[Gn (show ¬ (x.length:Int)<(ba n:Nat) by lia),hB]
     show M' _ _;rw[hM'];clear hM' M' hA hB A B;refine ao λM' hM'=>?_;walk_at "rz";refine⟨x,rfl,hb2,by lia,?_⟩
     rw[hM'];clear hM' M';unfold Be at q;have fin:∀(d:Int) (G:Hp),KB [] H G->d=(if dO n<=((eJ x:Nat):Int) then ((eJ x:Nat):Int)-2*dO n else ((eJ x:Nat):Int))->(wd (bT n)).length<=sizeLine/\(wd x).length<=sizeLine/\0+1+1<=sizeLine/\∀b,G b=none->Q (.ref b) (upd G b (.tup [.int d,.int ((e:Int)+((wd x).length:Nat))])):=λd G kG ed=>by
      refine⟨h2l,hxs,by decide,λb hb'=>q _ _ (kG.trans (KB.new hb')) ⟨b,rfl,?_⟩⟩
      rw[aa,ed,ay,hls];rfl
     refine ao λM' hM'=>?_;refine la λA B hA hB=>?_;exists p5;refine⟨by decide,λl4 hl4=>?_⟩
     have k4:=k3.trans (KB.new (o:=.lst [.int 8,.int 128,.int 32768]) hl4);generalize upd H3 l4 _=H4 at *;by_cases c2:dO n<=(eJ x:Nat)
     ·rw[Gp c2,hA];exists p6;refine⟨by decide,λl5 hl5=>?_⟩
      have k5:=k4.trans (KB.new (o:=.lst [.int 16,.int 256,.int 65536]) hl5);generalize upd H4 l5 _=H5 at *;rw[hM'];exists ec1;exact fin _ H5 k5 (by rw[Gp c2])
     ·rw[Gn c2,hB];show M' _ _;rw[hM'];exists ec1;exact fin _ H4 k4 (by rw[Gn c2])
    ·rw[Gn cl] at q;rw[Gp (show (x.length:Int)<(ba n:Nat) by lia),hA]
     walk_at "rz";exact q _ _ k3 rfl
   ·rw[Gn c] at ef;rw[Gn (λh=>c (pre_take.mpr (ve h))),hB];show M _ _;rw[hM];exact⟨some _,some _,o4,o5,k1,hlt,ef,rfl⟩
  ·rintro σ H' ⟨o2,o3,o4,o5,k0,_,ef,rfl⟩;have ef':mx m4 z p=none:=ef.symm;unfold gA hU at q;rw[ef'] at q;show N _ _;rw[hN];clear hN N;walk_at "rz";exact q _ _ k0 rfl
noncomputable def EA(H:Hp)(v:V):Option (PV×Nat)->Prop
 |none=>v=.aQ
 |some x=>∃t,v=.ref t/\H t=some (.tup [.int x.1.n,.int (x.2:Nat)])
theorem yt{v:V}(h:CQ H v o):EA H v (o.map λx=>(PV.box x.1,x.2)):=by cases o<;>exact h
theorem zv{v:V}(h:CQ H v o):EA H v (o.map λx=>(PV.num x.1,x.2)):=by cases o<;>exact h
theorem C4{v:V}{o:Option (Int×Nat)}(h:FX H v o):EA H v (o.map λx=>(PV.go x.1,x.2)):=by cases o<;>exact h
theorem CB(h:i<9):bX [V.str (Str.ofString "bn"),.str (Str.ofString "bb"),.str (Str.ofString "bb"),.str (Str.ofString "bb"),.str (Str.ofString "b"),.str (Str.ofString "b"),.str (Str.ofString "g"),.str (Str.ofString "bg"),.str (Str.ofString "")] (i:Int)=some (.str (wd ((xw i).map Kd.c))):=by
 have:i=0\/i=1\/i=2\/i=3\/i=4\/i=5\/i=6\/i=7\/i=8:=by lia
 rcases this with rfl|rfl|rfl|rfl|rfl|rfl|rfl|rfl|rfl<;>exact Hm (λz=>some (V.str z)) (by decide +kernel)
theorem Eh{cd:List (List (List Nat))}{k:Kd}{x:PV×Nat}(hR:xD cd)(h:tF cd z p k=some x):bX [V.str ⟨#[97+(x.1.n % 8).toNat]⟩,.int x.1.n] (if ¬ (⟨#[k.c]⟩:Str)=Str.ofString "b" then 1 else 0)=some x.1.l:=by
 have h8:=(lY hR h).2.2
 cases k with
 |box =>
  rw[Gn (by decide +kernel:¬ ¬ (⟨#[Kd.c .box]⟩:Str)=Str.ofString "b")]
  replace h:(hU (cd.getD 2 []) z p).map (λx=>(PV.box x.1,x.2))=some x:=h
  obtain⟨y,_,e⟩:=GK.mp h;subst e;have h9:=h8 _ rfl;show some (V.str ⟨#[97+(((y.1:Nat):Int) % 8).toNat]⟩)=some (V.str (bW y.1));rw[show (((y.1:Nat):Int) % 8).toNat=y.1 by lia]
  rfl
 |num =>
  rw[Gp (by decide +kernel:¬ (⟨#[Kd.c .num]⟩:Str)=Str.ofString "b")]
  obtain⟨y,_,e⟩:=GK.mp h;subst e;rfl
 |go =>
  rw[Gp (by decide +kernel:¬ (⟨#[Kd.c .go]⟩:Str)=Str.ofString "b")]
  obtain⟨y,_,e⟩:=GK.mp h;subst e;rfl
noncomputable def zh(H:Hp)(v:V):Option (RW×Nat)->Prop
 |none=>v=.aQ
 |some x=>∃t r,v=.ref t/\H t=some (.tup [.ref r,.int (x.2:Nat)])/\H r=some (.tup x.1.l)
noncomputable def wX(K:LA):Sp:=λvs H Q _=>∃(a:Addr) (cd:List (List (List Nat))) (z:List Nat) (p:Nat),vs=[.ref a,.str (wd z),.int (p:Nat)]/\xC H a cd/\FA cd/\dy z/\z.length<=1000000/\p<=1000000/\∀v H',KB [] H H'->zh H' v (AX cd z p)->Q v H'
theorem xK(T:Txt K mg)(F:HasFn K mg "_law_row_at" df ["tables","bits","at"])(h_law_thing_at:aq P w K mg base bf 1 "_law_thing_at" ["table","bits","at"] (js K))(h_law_number_at:aq P w K mg base bf 2 "_law_number_at" ["table","bits","at"] (we K))(h_law_way_at:aq P w K mg base bf 2 "_law_way_at" ["bits","at"] v_)(h_law_words:aq P w K mg base bf 1 "_law_words" [] kZ):aq P w K mg base bf 3 "_law_row_at" ["tables","bits","at"] (wX K):=by
 refine F.fQ b6 (λvs H Q E h=>?_) (λf cdv A outer s H vs Q E hr h=>?_)
 ·obtain⟨a,cd,z,p,rfl,_⟩:=h;rfl
 ·have hu:=aZ hr;obtain⟨a,cd,z,p,rfl,hT,hR,hb,hz,hp,q⟩:=h;obtain⟨t0,t1,t2,gT,T0,T1,T2⟩:=hT;refine⟨_,(Z.ag (Z.set (i:=3) b6.nd rfl (by right) (Z.fn h_law_thing_at (hr.mono (by decide)) rfl au (Z.cons (Z.ix (Z.ax K rfl hu) (Z.v 0) Z.int) (Z.cons (Z.v 1) (Z.cons (Z.v 2) Z.nil)))))
   (Z.ag (Z.cu (Z.aR cG (Z.v 3) Z.aQ) (Z.ar (Z.ret Z.aQ)) Z.bj)
   (Z.ag (Z.set (i:=4) b6.nd rfl (by right) (Z.lst (Z.cons (Z.ix (Z.ax K rfl hu) (Z.FR h_law_words (hr.mono (by decide)) rfl au) (Z.ix (Z.ax K rfl hu) (Z.v 3) Z.int)) Z.nil)))
   (Z.ag (Z.eS GQ rfl (Z.FL (Z.ix (Z.ax K rfl hu) (Z.lst (Z.consts rfl)) (Z.ix (Z.ax K rfl hu) (Z.v 3) Z.int))) (Z.bo (i:=5) b6.nd rfl (by right)) (Z.ag (Z.set (i:=6) b6.nd rfl (by right) (Z.ix (Z.ax K rfl hu) (Z.v 3) Z.int))
   (Z.ag (Z.cu (Z.aR aO (Z.v 5) Z.str) (Z.ar (Z.set (i:=3) b6.nd rfl (by right) (Z.fn h_law_thing_at (hr.mono (by decide)) rfl au (Z.cons (Z.ix (Z.ax K rfl hu) (Z.v 0) Z.int) (Z.cons (Z.v 1) (Z.cons (Z.v 6) Z.nil)))))) (Z.ar (Z.cu (Z.aR aO (Z.v 5) Z.str) (Z.ar (Z.set (i:=3) b6.nd rfl (by right) (Z.fn h_law_number_at (hr.mono (by decide)) rfl au (Z.cons (Z.ix (Z.ax K rfl hu) (Z.v 0) Z.int) (Z.cons (Z.v 1) (Z.cons (Z.v 6) Z.nil)))))) (Z.ar (Z.set (i:=3) b6.nd rfl (by right) (Z.fn h_law_way_at (hr.mono (by decide)) rfl au (Z.cons (Z.v 1) (Z.cons (Z.v 6) Z.nil))))))))
   (Z.ag (Z.cu (Z.aR cG (Z.v 3) Z.aQ) (Z.ar (Z.ret Z.aQ)) Z.bj)
   (Z.ar (Z.expr (Z.bm K rfl PySem.F.plainAttrs_list PySem.F.slot_list_append PySem.F.type_list_append cK (Z.v 4) (Z.cons (Z.ix (Z.ax K rfl hu) (Z.lst (Z.cons (Z.ix (Z.ax K rfl hu) Z.str (Z.op bY (Z.ix (Z.ax K rfl hu) (Z.v 3) Z.int) Z.int)) (Z.cons (Z.ix (Z.ax K rfl hu) (Z.v 3) Z.int) Z.nil))) (Z.ct iw rfl T.ki (by decide +kernel) (Z.cons (Z.cmp jG (Z.v 5) Z.str) Z.nil))) Z.nil))))))))
   (Z.ar (Z.ret (Z.tup (Z.cons (Z.ct (Z.cX K rfl) rfl T.cF (by decide +kernel) (Z.cons (Z.v 4) Z.nil)) (Z.cons (Z.ix (Z.ax K rfl hu) (Z.v 3) Z.int) Z.nil))))))))),?_⟩
  obtain⟨c0,c1,c2,rfl,l0,l1,l2⟩:=hR.gz.ex;have f0:=hR.pf c0 (by simp)
  have f1:=hR.pf c1 (by simp)
  have f2:=hR.pf c2 (by simp)
  have m0:=hR.BO c0 (by simp)
  have m1:=hR.BO c1 (by simp)
  have m2:=hR.BO c2 (by simp)
  refine ao λN hN=>?_;exists aF gT;refine⟨t0,c0,z,p,rfl,T0,f0,m0,hz,hp,λv H1 k1 o1=>?_⟩;rw[hN];clear hN N;refine ao λN hN=>?_
  replace q:∀v H',KB [] H H'->zh H' v ((hU c0 z p).bind λx=>(iD [c0,c1,c2] z (xw x.1) x.2).map λy=>(⟨x.1,y.1⟩,y.2))->Q v H':=q
  cases c:hU c0 z p with
  |none =>
   rw[c] at q o1;obtain rfl:v=.aQ:=o1;walk_at "rz";exact q _ _ k1 rfl
  |some x =>
   rw[c] at q o1;obtain⟨wi,e⟩:=x;obtain⟨w1,_,_,w4⟩:=eE f0.ne c;dsimp only at w1 w4;have h9:wi<9:=by lia
   replace q:∀v H',KB [] H H'->zh H' v ((iD [c0,c1,c2] z (xw wi) e).map λy=>(⟨wi,y.1⟩,y.2))->Q v H':=q
   obtain⟨t,rfl,ht⟩:=o1;dsimp only at ht;exists if_neg (show ¬ V.ref t=V.aQ from V.noConfusion);rw[hN];clear hN N;refine ao λN hN=>?_;have ak:bX (bz.map V.str) (wi:Int)=some (.str (bz.getD wi (Str.ofString ""))):=bI (by
    rw[G8,Gy,Gm (show wi<bz.length from h9)];rfl)
   walk_at "rz";refine⟨rfl,λl hl=>?_⟩;have k2:KB [] H1 (upd H1 l (.lst (bz.map V.str))):=KB.new hl;have s2:upd H1 l (.lst (bz.map V.str)) l=_:=aa;generalize upd H1 l (.lst (bz.map V.str))=H2 at *;have ht2:=k2 _ _ ht (by simp)
   exists aG ht2,aF s2,ak;have h02:KB [] H H2:=k1.trans k2;have hlen:(xw wi).length<=2:=by
    have:wi=0\/wi=1\/wi=2\/wi=3\/wi=4\/wi=5\/wi=6\/wi=7\/wi=8:=by lia
    rcases this with rfl|rfl|rfl|rfl|rfl|rfl|rfl|rfl|rfl<;>decide
   have k9:=CB h9;generalize hps:xw wi=ks0 at *;generalize hw9:bz.getD wi (Str.ofString "")=W at *;refine⟨by decide,λrl hrl=>?_⟩
   have k3:KB [] H2 (upd H2 rl (.lst [.str W])):=KB.new hrl;have s3:upd H2 rl (.lst [.str W]) rl=some (.lst [.str W]):=aa;generalize upd H2 rl (.lst [.str W])=H3 at *;have hrl0:H rl=none:=h02.free (by simp) hrl
   have h03:KB [] H H3:=h02.trans k3;have ht3:=k3 _ _ ht2 (by simp)
   clear k1 k2 k3 hl s2 ht ht2 ak h02 hrl;rw[hN];clear hN N;refine ao λN hN=>?_;walk_at "rz";refine⟨by decide,λl hl=>?_⟩
   have k4:=h03.trans (KB.new (o:=.lst [.str (Str.ofString "bn"),.str (Str.ofString "bb"),.str (Str.ofString "bb"),.str (Str.ofString "bb"),.str (Str.ofString "b"),.str (Str.ofString "b"),.str (Str.ofString "g"),.str (Str.ofString "bg"),.str (Str.ofString "")]) hl);have ht4:=KB.new (ex:=[]) (o:=.lst [.str (Str.ofString "bn"),.str (Str.ofString "bb"),.str (Str.ofString "bb"),.str (Str.ofString "bb"),.str (Str.ofString "b"),.str (Str.ofString "b"),.str (Str.ofString "g"),.str (Str.ofString "bg"),.str (Str.ofString "")]) hl _ _ ht3 (by simp)
   have s4:=KB.new (ex:=[]) (o:=.lst [.str (Str.ofString "bn"),.str (Str.ofString "bb"),.str (Str.ofString "bb"),.str (Str.ofString "bb"),.str (Str.ofString "b"),.str (Str.ofString "b"),.str (Str.ofString "g"),.str (Str.ofString "bg"),.str (Str.ofString "")]) hl _ _ s3 (by simp)
   exists aG ht4,k9;generalize upd H3 l _=H4 at *;clear ht3 s3 h03 hl;have q':∀v H',KB [] H H'->(match iD [c0,c1,c2] z ks0 e with|none=>v=V.aQ|some y=>∃t r,v=.ref t/\H' t=some (.tup [.ref r,.int (y.2:Nat)])/\H' r=some (.tup (.str W::y.1.map λx=>x.1.l)))->Q v H':=λv H' k o=>by
    refine q v H' k ?_
    cases c2':iD [c0,c1,c2] z ks0 e with
    |none=>rw[c2'] at o;exact o
    |some y =>
     rw[c2'] at o;obtain⟨t,r,e1,e2,e3⟩:=o;refine⟨t,r,e1,e2,?_⟩;rw[e3];show _=some (HO.tup (RW.l ⟨wi,y.1⟩));unfold RW.l;rw[hw9]
   clear q k9;have KF:∀{G:Hp} {o:HO},KB [] H G->KB [] H (upd G rl o):=λa b o e _=>by rw[ae (ai e hrl0)];exact a b o e (by simp)
   refine mJ (z:=wd (ks0.map Kd.c)) (λi σ H'=>∃(acc:List (PV×Nat)) (b:Nat) (x0:Int) (t:Addr) (o5 o6:Option V),i<=ks0.length/\(iD [c0,c1,c2] z ks0 e=(iD [c0,c1,c2] z (ks0.drop i) b).map λy=>(acc++y.1,y.2))/\acc.length=i/\b<=z.length/\H' t=some (.tup [.int x0,.int (b:Nat)])/\H' rl=some (.lst (.str W::acc.map λx=>x.1.l))/\KB [] H H'/\σ=[some (.ref a),some (.str (wd z)),some (.int (p:Nat)),some (.ref t),some (.ref rl),o5,o6]) ⟨[],e,(wi:Int),t,none,none,GF _,by rw[HX];cases iD [c0,c1,c2] z ks0 e<;>rfl,rfl,w4,ht4,s4,k4,rfl⟩ ?_ ?_
   ·rintro i cc σ H' hcc ⟨acc,b,x0,t,o5,o6,hi,ep,hacc,hbz,ht',hrl',h0',rfl⟩;have hi2:i<ks0.length:=by have:=(HR.mp hcc).1;simpa[wd] using this
    obtain rfl:cc=(ks0[i]).c:=by
     have:(wd (ks0.map Kd.c)).cps[i]?=some (ks0[i]).c:=by unfold wd;rw[Hl,G8,Gm hi2];rfl
     rw[this] at hcc;exact (Option.some.inj hcc).symm
    rw[HY hi2,iD] at ep;generalize ks0[i]=k at *;have hR':=hR.1;unfold bq;refine ao λM hM=>?_;exists aG ht';rw[hM];clear hM M;refine ao λM hM=>?_;have go:∀v G,KB [] H' G->EA G v (tF [c0,c1,c2] z b k)->M [some (.ref a),some (.str (wd z)),some (.int (p:Nat)),some v,some (.ref rl),some (.str ⟨#[k.c]⟩),some (.int (b:Nat))] G:=λv G kG o=>by
     rw[hM];clear hM M;refine ao λM hM=>?_
     cases c3:tF [c0,c1,c2] z b k with
     |none =>
      rw[c3] at ep o;obtain rfl:v=.aQ:=o;have ep':iD [c0,c1,c2] z ks0 e=none:=ep;walk_at "rz";exact q' _ _ (h0'.trans kG) (by rw[ep'])
     |some x =>
      rw[c3] at ep o;obtain⟨t5,rfl,ht5⟩:=o;exists if_neg (show ¬ V.ref t5=V.aQ from V.noConfusion);rw[hM];clear hM M;dsimp only;refine jU λM hM=>?_;have at8:bX (Str.ofString "abcdefgh").cps.toList (x.1.n % 8)=some (97+(x.1.n % 8).toNat):=vy (by lia) (by lia)
      have hk:=Eh hR' c3;have hr5:=kG _ _ hrl' (by simp)
      exists aG ht5,at8;refine⟨.inl ⟨rfl,_,bZ.of hr5⟩,by decide,by decide +kernel,by decide,λl7 hl7=>?_⟩
      have k7:KB [] G (upd G l7 (.lst [.str ⟨#[97+(x.1.n % 8).toNat]⟩,.int x.1.n])):=KB.new hl7;generalize upd G l7 (.lst [.str ⟨#[97+(x.1.n % 8).toNat]⟩,.int x.1.n])=G7 at *;rw[hk];have hr7:=k7 _ _ hr5 (by simp)
      refine⟨rl,_,_,rfl,rfl,hr7,GI (show _<4 by rw[GC,Gx];lia) (by decide),?_⟩
      rw[hM];have ht7:=k7 _ _ ht5 (by simp)
      have nt:t5≠rl:=λz=>by rw[z,hr7] at ht7;cases ht7
      refine⟨acc++[x],x.2,x.1.n,t5,some _,some _,hi2,?_,by rw[Gr,hacc];rfl,(lY hR' c3).2.1,by rw[ae nt];exact ht7,by rw[aa,GO];rfl,KF ((h0'.trans kG).trans k7),rfl⟩
      rw[ep,Option.bind_some]
      cases iD [c0,c1,c2] z (ks0.drop (i+1)) x.2 with
      |none=>rfl
      |some y=>show some (acc++(x::y.1),y.2)=some ((acc++[x])++y.1,y.2);rw[GS];rfl
    have gT':=h0' _ _ gT (by simp)
    have nd:∀{t:Addr} {ws:List (List Nat)},sm H t ws->sm H' t ws:=λh=>h.keep h0' (by simp)
    cases k with
    |box =>
     exists Gp (by decide +kernel:(⟨#[Kd.c .box]⟩:Str)=Str.ofString "b"),aF gT'
     exact⟨t2,c2,z,b,rfl,nd T2,f2,m2,hz,by lia,λv G kG o=>go v G kG (yt o)⟩
    |num =>
     exists Gn (by decide +kernel:¬ (⟨#[Kd.c .num]⟩:Str)=Str.ofString "b"),Gp (by decide +kernel:(⟨#[Kd.c .num]⟩:Str)=Str.ofString "n"),aF gT'
     exact⟨t1,c1,z,b,rfl,nd T1,f1,m1,by lia,hb,hz,by lia,λv G kG o=>go v G kG (zv o)⟩
    |go =>
     exists Gn (by decide +kernel:¬ (⟨#[Kd.c .go]⟩:Str)=Str.ofString "b"),Gn (by decide +kernel:¬ (⟨#[Kd.c .go]⟩:Str)=Str.ofString "n")
     exact⟨z,b,rfl,hb,hz,by lia,λv G kG o=>go v G kG (C4 o)⟩
   ·rintro σ H' ⟨acc,b,x0,t,o5,o6,_,ep,_,_,ht',hrl',h0',rfl⟩;have e0:(wd (ks0.map Kd.c)).cps.size=ks0.length:=by unfold wd;simp
    rw[e0,Jc] at ep;have ep':iD [c0,c1,c2] z ks0 e=some (acc,b):=by rw[ep];show some (acc++[],b)=_;rw[HL]
    rw[ep'] at q';show N _ _;rw[hN];clear hN N;exists aF hrl';intro rt hrt;have k7:KB [] H' (upd H' rt (.tup (.str W::acc.map λx=>x.1.l))):=KB.new hrt;have s7:upd H' rt (.tup (.str W::acc.map λx=>x.1.l)) rt=_:=aa;generalize upd H' rt (.tup (.str W::acc.map λx=>x.1.l))=H7 at *;exists aG (k7 _ _ ht' (by simp))
    refine⟨by decide,λtt htt=>q' _ _ ((h0'.trans k7).trans (KB.new htt)) ⟨tt,rt,rfl,aa,?_⟩⟩
    rw[ae (ai s7 htt),s7]
noncomputable def Sm(H:Hp):Nat->V->V->Prop
 |0,x,y=>x=y/\((∃i,x=.int i)\/∃z,x=.str z)
 |n+1,x,y=>(x=y/\((∃i,x=.int i)\/∃z,x=.str z))\/∃a b xs ys,x=.ref a/\y=.ref b/\H a=some (.tup xs)/\H b=some (.tup ys)/\xs.length=ys.length/\∀(i:Nat) (u v:V),xs[i]?=some u->ys[i]?=some v->Sm H n u v
theorem Sm.kb{n:Nat}{x y:V}(h:Sm H n x y)(k:KB [] H H'):Sm H' n x y:=by
 induction n generalizing x y with
 |zero=>exact (show x=y/\((∃i,x=.int i)\/∃z,x=.str z) from h)
 |succ n ih =>
  rcases h with h|⟨a,b,xs,ys,e1,e2,e3,e4,e5,h⟩
  ·exact .inl h
  ·exact .inr ⟨a,b,xs,ys,e1,e2,k _ _ e3 (by simp),k _ _ e4 (by simp),e5,λi u v h1 h2=>ih (h i u v h1 h2)⟩
noncomputable def Fw:Sp:=λ_ _ _ _=>False
theorem Dx{x:Str}{st:Stmt}{N ps:List Str}{k:Nat}(F:HasFn K mg x st ps)(S:av N ps (af st)):aq P w K mg base bf (k+1) x ps Fw:=F.fQ S (λ_ _ _ _ h=>h.elim) λ_ _ _ _ _ _ _ _ _ _ h=>h.elim
noncomputable def ph(n:Nat):Sp:=λvs H Q _=>∃x y,vs=[x,y]/\Sm H n x y/\∀H',KB [] H H'->Q (.bl true) H'
section
local macro_rules | `(tactic| decide) => `(tactic| exact Nat.le_refl _)
theorem fT(T:Txt K mg)(F:HasFn K mg "_law_same" cJ ["found","due"])(n j:Nat){sp:Sp}(h_law_same:aq P w K mg base bf j "_law_same" ["found","due"] sp)(hts:∀u v H Q E,(n=0->False)->Sm H (n-1) u v->(∀H',KB [] H H'->Q (.bl true) H')->sp [u,v] H Q E):aq P w K mg base bf (j+1) "_law_same" ["found","due"] (ph n):=by
 refine F.fQ gS (λvs H Q E h=>?_) (λf cdv A outer s H vs Q E hr h=>?_)
 ·obtain⟨x,y,rfl,_⟩:=h;rfl
 ·have hu:=aZ hr;obtain⟨x,y,rfl,hx,q⟩:=h;refine⟨_,(Z.ag (Z.cu (Z.aR cG (Z.v 1) Z.aQ) (Z.ar (Z.ret (Z.cmp cG (Z.v 0) Z.aQ))) Z.bj)
   (Z.ag (Z.cu (Z.ll K rfl (Z.cb (Z.j6 K rfl) rfl T.bU Hk (Z.cons (Z.v 1) (Z.cons (Z.BW (T:="tuple") rfl T.cF (by decide +kernel)) Z.nil)))) (Z.ag (Z.cu (Z.tw (Z.ER (Z.yB (Z.ll K rfl (Z.cb (Z.j6 K rfl) rfl T.bU Hk (Z.cons (Z.v 0) (Z.cons (Z.BW (T:="tuple") rfl T.cF (by decide +kernel)) Z.nil))))) (Z.yN (Z.aR jG (Z.cb (Z.bK K rfl) rfl T.bB (by decide +kernel) (Z.cons (Z.v 0) Z.nil)) (Z.cb (Z.bK K rfl) rfl T.bB (by decide +kernel) (Z.cons (Z.v 1) Z.nil)))))) (Z.ar (Z.ret Z.bl)) Z.bj)
   (Z.ar (Z.ret (Z.cmp (Y.B9 K rfl (Nat.lt_of_succ_lt hu)) (Z.comp (osc:=af cJ) (ON:=["found","due"]) (own:=["one","other"]) (N:=["one","other","found","due"]) ⟨rfl,by decide +kernel,rfl,by decide +kernel,by decide +kernel,by decide +kernel,by decide +kernel,by decide +kernel⟩ rfl rfl rfl (Z.zip K rfl rfl T.Ea (Z.cons (Z.v 0) (Z.cons (Z.v 1) Z.nil))) (λ_ _ _ _=>(Z.tm (n:=2) K rfl rfl (Z.cH (Z.bo (i:=0) (show List.Nodup (["one","other","found","due"]:List Str) by decide +kernel) rfl (by right)) (Z.cH (Z.bo (i:=1) (show List.Nodup (["one","other","found","due"]:List Str) by decide +kernel) rfl (by right)) Z.jn)))) (λ_ _ _ _=>(Z.FZ (Z.yB (Z.ll K rfl (Z.fn h_law_same (hr.mono (by decide)) rfl au (Z.cons (Z.v 0) (Z.cons (Z.v 1) Z.nil))))))) (λ_ _ _ _=>Z.int)) (Z.lst Z.nil))))) Z.bj)
   (Z.ag (Z.cu (Z.ll K rfl (Z.cb (Z.j6 K rfl) rfl T.bU Hk (Z.cons (Z.v 1) (Z.cons (Z.BW (T:="str") rfl T.uh (by decide +kernel)) Z.nil)))) (Z.ar (Z.ret (Z.and (Z.cb (Z.j6 K rfl) rfl T.bU Hk (Z.cons (Z.v 0) (Z.cons (Z.BW (T:="str") rfl T.uh (by decide +kernel)) Z.nil))) (Z.one (Z.cmp aO (Z.v 0) (Z.v 1)))))) Z.bj)
   (Z.ar (Z.ret (Z.and (Z.cb (Z.j6 K rfl) rfl T.bU Hk (Z.cons (Z.v 0) (Z.cons (Z.BW (T:="int") rfl T.ki (by decide +kernel)) Z.nil))) (Z.and (Z.not (Z.cb (Z.j6 K rfl) rfl T.bU Hk (Z.cons (Z.v 0) (Z.cons (Z.BW (T:="bool") rfl T.B6 (by decide +kernel)) Z.nil)))) (Z.one (Z.cmp aO (Z.v 0) (Z.v 1)))))))))),?_⟩
  have hx2:(x=y/\((∃i,x=.int i)\/∃z,x=.str z))\/∃a b xs ys,x=.ref a/\y=.ref b/\(n=0->False)/\H a=some (.tup xs)/\H b=some (.tup ys)/\xs.length=ys.length/\∀(i:Nat) (u v:V),xs[i]?=some u->ys[i]?=some v->Sm H (n-1) u v:=by
   cases n with
   |zero=>exact .inl hx
   |succ n =>
    rcases hx with h|⟨a,b,xs,ys,e1,e2,h⟩
    ·exact .inl h
    ·exact .inr ⟨a,b,xs,ys,e1,e2,(λz=>by cases z),h⟩
  clear hx;refine ao λN hN=>?_;rcases hx2 with ⟨rfl,h⟩|⟨a,b,xs,ys,rfl,rfl,hn0,ha,hb,hl,hs⟩
  ·rcases h with ⟨i,rfl⟩|⟨z,rfl⟩
   ·exists Gn (show ¬ V.int i=V.aQ from V.noConfusion);rw[hN];clear hN N;refine ao λN hN=>?_;exists (show gJ "int" "tuple"=false from by decide +kernel)
    refine⟨by simp,?_⟩
    rw[hN];clear hN N;refine ao λN hN=>?_;exists (show gJ "int" "str"=false from by decide +kernel)
    refine⟨by simp,?_⟩
    rw[hN];clear hN N;exists (show gJ "int" "int"=true from by decide +kernel),(show gJ "int" "bool"=false from by decide +kernel)
    exact⟨by simp,by simp,q _ (KB.refl _ _)⟩
   ·exists Gn (show ¬ V.str z=V.aQ from V.noConfusion);rw[hN];clear hN N;refine ao λN hN=>?_;exists (show gJ "str" "tuple"=false from by decide +kernel)
    refine⟨by simp,?_⟩
    rw[hN];clear hN N;refine ao λN hN=>?_;exists (show gJ "str" "str"=true from by decide +kernel)
    exact⟨by simp,by simp,q _ (KB.refl _ _)⟩
  ·exists Gn (show ¬ V.ref b=V.aQ from V.noConfusion);rw[hN];clear hN N;refine ao λN hN=>?_;refine la λA B hA hB=>?_;exists hb,(show gJ "tuple" "tuple"=true from by decide +kernel)
   refine⟨by simp,?_⟩
   rw[hA];clear hA hB A B;refine ao λM hM=>?_;refine la λA B hA hB=>?_;exists ha,(show gJ "tuple" "tuple"=true from by decide +kernel),aG ha,aG hb
   refine⟨by simp,?_⟩
   rw[Gn (by simp),Gn (by rw[hl];simp),hB]
   show M _ _;rw[hM];clear hM M hA hB A B;walk_at "rz";refine⟨a,b,false,false,⟨rfl,rfl⟩,⟨_,b8.of ha⟩,⟨_,b8.of hb⟩,?_⟩;refine pT hl (b8.of ha) (b8.of hb) (λi u v H' R h1 h2 k kk=>?_) (λD H' k hD=>?_)
   ·walk_at "rz";refine hts u v H' _ _ hn0 ((hs i u v h1 h2).kb k) λH4 k4=>?_;walk_at "rz";exact kk H4 k4
   ·refine⟨GF _,λp hp=>⟨D,p,[],rfl,rfl,bZ.of ?_,bZ.of aa,q _ (k.trans (KB.new hp))⟩⟩;rw[ae (ai hD hp)];exact hD
end
theorem yc(T:Txt K mg)(F:HasFn K mg "_law_same" cJ ["found","due"]):aq P w K mg base bf 5 "_law_same" ["found","due"] (ph 3):=
 fT T F 3 4 (fT T F 2 3 (fT T F 1 2 (fT T F 0 1 (Dx F gS) λu v H Q E h=>(h rfl).elim) λu v H Q E _ h q=>⟨u,v,rfl,h,q⟩) λu v H Q E _ h q=>⟨u,v,rfl,h,q⟩) λu v H Q E _ h q=>⟨u,v,rfl,h,q⟩
noncomputable def Ab(K:LA):Sp:=λvs H Q _=>∃(p dq b:Addr) (bk:List (List Int)) (most n:Nat),vs=[.ref p,.ref b,.int (most:Nat)]/\b7 H p dq n/\n<2^30/\qY H b bk/\Bk bk/\0<most/\most<=40/\∀(z:List Nat) H',dy z->z.length<=154*most->b7 H' p dq (n+1+10*most)->KB [p,dq] H H'->Q (.str (wd z)) H'
theorem B4(T:Txt K mg)(F:HasFn K mg "_law_raw_rows" b_ ["deck","book","most"])(h_law_code:aq P w K mg base bf 2 "_law_code" ["lengths"] (lC K))(h_law_plain:aq P w K mg base bf 2 "_law_plain" ["row","codes"] (rj K))(h_law_row:aq P w K mg base bf 4 "_law_row" ["deck","goals"] (Ak K))(h_law_draw:aq P w K mg base bf 2 "_law_draw" ["deck","most"] eC)(h_law_bits:aq P w K mg base bf 1 "_law_bits" ["number","many"] iN):aq P w K mg base bf 5 "_law_raw_rows" ["deck","book","most"] (Ab K):=by
 refine F.fQ aK (λvs H Q E h=>?_) (λf cdv A outer s H vs Q E hr h=>?_)
 ·obtain⟨p,dq,b,bk,most,n,rfl,_⟩:=h;rfl
 ·have hu:=aZ hr;obtain⟨p,dq,b,bk,most,n,rfl,hd,hn,hb,hB,hm0,hm,q⟩:=h;have hC:=hB.cd;have hCb:=C9 bk;obtain⟨as,hb1,hb2,hb3⟩:=hb;obtain⟨l0,l1,l2,rfl,_,_,_,hl⟩:=hB;refine⟨_,(Z.ag (Z.setC (j:=3) aK.nd rfl (by right) (osc:=af b_) (ON:=["deck","book","most","codes","bits","begins","k","row","width","half","far","goal"]) (own:=["lengths"]) (N:=["lengths","deck","book","most","codes","bits","begins","k","row","width","half","far","goal"]) ⟨rfl,by decide +kernel,rfl,by decide +kernel,by decide +kernel,by decide +kernel,by decide +kernel,by decide +kernel⟩ rfl rfl rfl (Z.any K rfl (Z.v 1)) (λ_ _ _ _=>(Z.bo (i:=0) (show List.Nodup (["lengths","deck","book","most","codes","bits","begins","k","row","width","half","far","goal"]:List Str) by decide +kernel) rfl (by right))) (λ_ _ _ _=>Z.xX) (λ_ _ _ _=>(Z.fn h_law_code (hr.mono (by decide)) rfl au (Z.cons (Z.v 0) Z.nil))))
   (Z.ag (Z.set (i:=4) aK.nd rfl (by right) Z.str)
   (Z.ag (Z.set (i:=5) aK.nd rfl (by right) (Z.lst Z.nil))
   (Z.ag (Z.eS GQ rfl (Z.nF rfl T.cY (Z.cons (Z.op (Z.aP K rfl) Z.int (Z.fn h_law_draw (hr.mono (by decide)) rfl au (Z.cons (Z.v 0) (Z.cons (Z.v 2) Z.nil)))) Z.nil)) (Z.bo (i:=6) aK.nd rfl (by right)) (Z.ag (Z.set (i:=7) aK.nd rfl (by right) (Z.fn h_law_row (hr.mono (by decide)) rfl au (Z.cons (Z.v 0) (Z.cons Z.int Z.nil))))
   (Z.ag (Z.expr (Z.bm K rfl PySem.F.plainAttrs_list PySem.F.slot_list_append PySem.F.type_list_append cK (Z.v 5) (Z.cons (Z.cb (Z.bK K rfl) rfl T.bB (by decide +kernel) (Z.cons (Z.v 4) Z.nil)) Z.nil)))
   (Z.ag (Z.set (i:=4) aK.nd rfl (by right) (Z.op (Z.aP K rfl) (Z.v 4) (Z.fn h_law_plain (hr.mono (by decide)) rfl au (Z.cons (Z.v 7) (Z.cons (Z.v 3) Z.nil)))))
   (Z.ar (Z.cu (Z.aR (Z.yH K rfl hu) (Z.ix (Z.ax K rfl hu) (Z.v 7) Z.int) (Z.tup (Z.consts rfl))) (Z.ag (Z.set (i:=8) aK.nd rfl (by right) (Z.ix (Z.ax K rfl hu) (Z.lst (Z.consts rfl)) (Z.fn h_law_draw (hr.mono (by decide)) rfl au (Z.cons (Z.v 0) (Z.cons Z.int Z.nil)))))
   (Z.ag (Z.set (i:=9) aK.nd rfl (by right) (Z.ix (Z.ax K rfl hu) (Z.lst (Z.consts rfl)) (Z.v 8)))
   (Z.ag (Z.set (i:=10) aK.nd rfl (by right) (Z.op bO (Z.fn h_law_draw (hr.mono (by decide)) rfl au (Z.cons (Z.v 0) (Z.cons (Z.op bN Z.int (Z.v 9)) Z.nil))) (Z.v 9)))
   (Z.ag (Z.set (i:=11) aK.nd rfl (by right) (Z.op bO (Z.op bO (Z.ix (Z.ax K rfl hu) (Z.v 5) (Z.fn h_law_draw (hr.mono (by decide)) rfl au (Z.cons (Z.v 0) (Z.cons (Z.cb (Z.bK K rfl) rfl T.bB (by decide +kernel) (Z.cons (Z.v 5) Z.nil)) Z.nil)))) (Z.cb (Z.bK K rfl) rfl T.bB (by decide +kernel) (Z.cons (Z.v 4) Z.nil))) (Z.ix (Z.ax K rfl hu) (Z.lst (Z.consts rfl)) (Z.v 8))))
   (Z.ag (Z.cu (Z.tw (Z.tV (Z.aR aO (Z.fn h_law_draw (hr.mono (by decide)) rfl au (Z.cons (Z.v 0) (Z.cons Z.int Z.nil))) Z.int) (Z.kP (Z.aR Aq (Z.op bO Z.int (Z.v 9)) (Z.v 11))))) (Z.ar (Z.set (i:=10) aK.nd rfl (by right) (Z.v 11))) Z.bj)
   (Z.ar (Z.set (i:=4) aK.nd rfl (by right) (Z.op (Z.aP K rfl) (Z.op (Z.aP K rfl) (Z.v 4) (Z.ix (Z.ax K rfl hu) (Z.lst (Z.consts rfl)) (Z.v 8))) (Z.fn h_law_bits (hr.mono (by decide)) rfl au (Z.cons (Z.op bY (Z.v 10) (Z.op bN Z.int (Z.v 9))) (Z.cons (Z.ix (Z.ax K rfl hu) (Z.lst (Z.consts rfl)) (Z.v 8)) Z.nil))))))))))) Z.bj))))))
   (Z.ar (Z.ret (Z.v 4))))))),?_⟩
  refine ao λN hN=>?_;exists aG hb1;refine dD (xs:=as.map V.ref) (Gw (show _<=3 by rw[Gx,hb2];exact Gs 3) (by decide)) (λD i ys H'=>H D=none/\H' D=some (.lst ys)/\KB [] H H'/\∃cs:List Addr,ys=cs.map V.ref/\cs.length=i/\∀(j:Nat) (c:Addr),cs[j]?=some c->H c=none/\c≠D/\H' c=some (.lst (wV (wordsOf Cw.dN (List.getD [l0,l1,l2] j []))))) (λD hD=>⟨hD,aa,KB.new hD,[],rfl,rfl,λj c e=>nomatch e⟩) (λD i ys H' h=>⟨h.2.1,by obtain⟨_,_,_,cs,rfl,e,_⟩:=h;rw[Gx,e]⟩) (λD i ys H' h=>b8.of (h.2.2.1 _ _ hb1 (by simp))) ?_ ?_
  ·rintro D i ys H' x R hx ⟨g0,g1,g2,cs,rfl,g4,g5⟩ kk;obtain⟨a,ea,rfl⟩:∃a,as[i]?=some a/\x=.ref a:=by
    rw[G8] at hx;obtain⟨a,e,rfl⟩:=GK.mp hx;exact⟨a,e,rfl⟩
   have hi:i<3:=by have:=(Gq.mp ea).1;rw[hb2] at this;exact this
   have hm:List.getD [l0,l1,l2] i []∈[l0,l1,l2]:=by rcases kE hi with rfl|rfl|rfl<;>simp
   walk_at "rz";refine⟨a,_,rfl,g2 _ _ (hb3 i a ea) (by simp),(hl _ hm).1,(hl _ hm).2,λc H5 c0 k5 e5=>?_⟩
   have gD:=k5 _ _ g1 (by simp)
   have cD:c≠D:=λz=>by rw[z,g1] at c0;cases c0
   refine kk _ _ gD ⟨g0,aa,λu o e _=>by rw[ae (ai e g0)];exact k5 _ _ (g2 _ _ e (by simp)) (by simp),cs++[c],by rw[GO];rfl,by rw[Gr,g4];rfl,λj d e=>?_⟩
   rcases Ho j cs.length with hj|hj
   ·rw[Hg hj] at e;obtain⟨q1,q2,q3⟩:=g5 j d e;exact⟨q1,q2,by rw[ae q2];exact k5 _ _ q3 (by simp)⟩
   ·rw[GZ hj] at e;obtain⟨hj2,rfl⟩:=Gq.mp e;have:j=i:=by simp at hj2;lia
    subst this;simp only[g4,Io,Jw];exact⟨g2.free (by simp) c0,cD,by rw[ae cD];exact e5⟩
  rintro ca ys H1 ⟨g0,g1,g2,cs,rfl,g4,g5⟩;rw[Gx,hb2] at g4;obtain⟨c0,c1,c2,rfl⟩:=p9 g4;have keepC:∀{G:Hp},KB [p,dq] H1 G->FO G ca (fI [l0,l1,l2]):=λ{G} k=>by
   have n0:∀{x:Addr},H x=none->x∉[p,dq]:=λe=>hd.new e;exact⟨c0,c1,c2,k _ _ g1 (n0 g0),k _ _ (g5 0 c0 rfl).2.2 (n0 (g5 0 c0 rfl).1),k _ _ (g5 1 c1 rfl).2.2 (n0 (g5 1 c1 rfl).1),k _ _ (g5 2 c2 rfl).2.2 (n0 (g5 2 c2 rfl).1)⟩
  have D1:=hd.kb g2;show N _ _;rw[hN];clear hN N;clear g5 g4 g1 hb1 hb2 hb3 hl;generalize fI [l0,l1,l2]=cd at *;refine ao λN hN=>?_;walk_at "rz";rw[hN];clear hN N;refine ao λN hN=>?_;walk_at "rz";refine⟨by decide,λbl hbl=>?_⟩
  have k2:KB [] H1 (upd H1 bl (.lst [])):=KB.new hbl;have s2:upd H1 bl (.lst []) bl=some (.lst (iV (nZ []))):=aa;generalize upd H1 bl (.lst [])=H2 at *;have bl0:bl∉[p,dq]:=D1.new hbl;have blp:p≠bl:=λz=>bl0 (by simp[z])
  have blq:dq≠bl:=λz=>bl0 (by simp[z])
  rw[hN];clear hN N;refine ao λN hN=>?_;walk_at "rz";refine⟨p,dq,(most:Nat),n,rfl,D1.kb k2,by lia,by lia,by lia,λv H3 hv D3 k3=>?_⟩
  walk_at "rz";refine⟨by lia,by lia,?_⟩
  have hi:(1+(v:Int)).toNat<=most:=by lia
  have setB:∀{G:Hp} {m:Nat} {o:HO},b7 G p dq m->b7 (upd G bl o) p dq m:=λh=>h.keep (KB.set (ex:=[bl]) (by simp)) (by simpa using blp) (by simpa using blq)
  have keepB:∀{G:Hp} {o:HO},KB [p,dq] H1 G->KB [p,dq] H1 (upd G bl o):=λa b o e z=>by rw[ae (ai e hbl)];exact a b o e z
  refine cm (λi σ H'=>∃(z bs:List Nat) (o6 o7 o8 o9 o10 o11:Option V),dy z/\z.length<=154*i/\bs.length=i/\b7 H' p dq (n+1+10*i)/\KB [p,dq] H1 H'/\H' bl=some (.lst (iV (nZ bs)))/\σ=[some (.ref p),some (.ref b),some (.int (most:Nat)),some (.ref ca),some (.str (wd z)),some (.ref bl),o6,o7,o8,o9,o10,o11]) ⟨[],[],none,none,none,none,none,none,(λc hc=>absurd hc GG),Gs _,rfl,D3,k2.all.trans k3,k3 _ _ s2 bl0,by rw[<- kX]⟩ ?_ ?_
  ·rintro i σ H' hi2 ⟨z,bs,o6,o7,o8,o9,o10,o11,hbz,hz,hbs,hD,hk,gb,rfl⟩;generalize (0:Int)+((i:Nat):Int)=kI;unfold bq;refine ao λM hM=>?_;walk_at "rz";refine⟨p,dq,60,n+1+10*i,rfl,hD,by lia,by lia,λr ra H4 hr hra D4 k4=>?_⟩
   have gb4:=k4 _ _ gb bl0;have hk4:=hk.trans k4;rw[hM];clear hM M;refine ao λM hM=>?_;have hzs:(wd z).length<=sizeLine:=by rw[ay];exact Gw (show _<=10000 by lia) (by decide)
   walk_at "rz";refine⟨.inl ⟨rfl,_,bZ.of gb4⟩,hzs,bl,_,_,rfl,rfl,gb4,HU (show _<=40 by rw[bR,iy];lia) (by decide),?_⟩
   have eb:iV (nZ bs)++[V.int ((wd z).length:Nat)]=iV (nZ (bs++[z.length])):=by unfold nZ;rw[GO,lg,ay];rfl
   rw[eb];have D5:=setB (o:=.lst (iV (nZ (bs++[z.length])))) D4;have hk5:=keepB (o:=.lst (iV (nZ (bs++[z.length])))) hk4;have gb5:upd H4 bl (.lst (iV (nZ (bs++[z.length])))) bl=_:=aa;have rb:ra≠bl:=λz=>by rw[z,gb4] at hra;cases hra
   have hra5:upd H4 bl (.lst (iV (nZ (bs++[z.length])))) ra=_:=(ae rb).trans hra;generalize upd H4 bl (.lst (iV (nZ (bs++[z.length]))))=H5 at *;have hbl':(bs++[z.length]).length=i+1:=by rw[Gr,hbs];rfl
   generalize bs++[z.length]=bg at *;clear gb4 hra D4 hk4 k4 eb gb hbs;rw[hM];clear hM M;refine ao λM hM=>?_;walk_at "rz";refine⟨ra,ca,r,60,cd,rfl,hra5,keepC hk5,hr,hC,λH6 k6=>?_⟩;have hb2:=hbz.app (wR hCb r);have h136:=uM hC hr;have hl2:(z++gH cd r).length<=154*i+136:=by rw[Gr];lia
   walk_at "rz";rw[ay,ay,eB];refine⟨Gw (show _<=10000 by lia) (by decide),?_⟩
   generalize z++gH cd r=x at *;have D6:=D5.kb k6;have hk6:=hk5.trans k6.all;have gb6:=k6 _ _ gb5 (by simp)
   have hra6:=k6 _ _ hra5 (by simp)
   rw[hM];clear hM M;dsimp only;refine jU λM hM=>?_;have step:∀(y:List Nat) (G:Hp) (o8 o9 o10 o11:Option V),dy y->y.length<=x.length+18->b7 G p dq (n+1+10*i+10)->KB [p,dq] H1 G->G bl=some (.lst (iV (nZ bg)))->M [some (.ref p),some (.ref b),some (.int (most:Nat)),some (.ref ca),some (.str (wd y)),some (.ref bl),some (.int kI),some (.ref ra),o8,o9,o10,o11] G:=λy G o8 o9 o10 o11 h1 h2 h3 h4 h5=>by
    rw[hM];exact⟨y,bg,some _,some _,o8,o9,o10,o11,h1,by lia,hbl',h3.mono (by lia),h4,h5,rfl⟩
   clear hM;refine la λA B hA hB=>?_;rw[Row.Aa] at hra6;exists aG hra6;refine⟨by decide,λt0 ht0=>⟨rfl,rfl,?_⟩⟩
   have k7:KB [] H6 (upd H6 t0 (.tup [.str (Str.ofString "jump"),.str (Str.ofString "zero")])):=KB.new ht0;generalize upd H6 t0 (.tup [.str (Str.ofString "jump"),.str (Str.ofString "zero")])=H7 at *;have D7:=D6.kb k7;have hk7:=hk6.trans k7.all;have gb7:=k7 _ _ gb6 (by simp)
   clear k7 gb6 hk6 D6 k6 D5 hk5 gb5 hra5
   cases n1:jV (.str r.wd) [.str (Str.ofString "jump"),.str (Str.ofString "zero")] with
   |false =>
    rw[Gn Gz,hB];exact step x H7 o8 o9 o10 o11 hb2 (by lia) (D7.mono (by lia)) hk7 gb7
   |true =>
    rw[Gp rfl,hA];clear hA hB A B n1;refine ao λM' hM=>?_;walk_at "rz";refine⟨by decide,λw1 hw1=>?_⟩
    have k8:KB [] H7 (upd H7 w1 (.lst [.int 0,.int 0,.int 1,.int 1,.int 2])):=KB.new hw1;have s8:upd H7 w1 (.lst [.int 0,.int 0,.int 1,.int 1,.int 2]) w1=_:=aa;generalize upd H7 w1 (.lst [.int 0,.int 0,.int 1,.int 1,.int 2])=H8 at *;have nw1:=D7.new hw1;refine⟨p,dq,5,n+1+10*i+5,rfl,D7.kb k8,by lia,by decide,by decide,λv2 H9 hv2 D9 k9=>?_⟩
    obtain⟨w,hw,aw⟩:∃w:Nat,w<3/\bX [V.int 0,.int 0,.int 1,.int 1,.int 2] (v2:Int)=some (.int (w:Nat)):=by
     have:v2=0\/v2=1\/v2=2\/v2=3\/v2=4:=by lia
     rcases this with rfl|rfl|rfl|rfl|rfl
     ·exact⟨0,by decide,rfl⟩
     ·exact⟨0,by decide,rfl⟩
     ·exact⟨1,by decide,rfl⟩
     ·exact⟨1,by decide,rfl⟩
     ·exact⟨2,by decide,rfl⟩
    exists aF (k9 _ _ s8 nw1),aw;have hk9:=hk7.trans (k8.all.trans k9);have gb9:=k9 _ _ (k8 _ _ gb7 (by simp)) bl0
    clear aw hw1 nw1 s8 k8 k9 D7 hk7 gb7 hv2;rw[hM];clear hM M';have p2:=nv hw;have p3:bX [V.int 4,.int 8,.int 16] (w:Int)=some (.int (ba w:Nat)):=by rcases kE hw with rfl|rfl|rfl<;>rfl
    have p4:ba w<=16/\(bT w).length<=2/\0<dO w/\dO w<=32768:=by rcases kE hw with rfl|rfl|rfl<;>decide
    have pb:dy (bT w):=by rcases kE hw with rfl|rfl|rfl<;>exactλc hc=>by revert c;decide
    have p5:bX [V.int 8,.int 128,.int 32768] (w:Int)=some (.int (dO w)):=by rcases kE hw with rfl|rfl|rfl<;>rfl
    obtain⟨a5,p6⟩:∃a:Int,bX [V.int 5,.int 10,.int 18] (w:Int)=some (.int a):=by rcases kE hw with rfl|rfl|rfl<;>exact⟨_,rfl⟩
    refine ao λM' hM=>?_;exists p5;refine⟨by decide,λt1 ht1=>?_⟩
    have k10:KB [] H9 (upd H9 t1 (.lst [.int 8,.int 128,.int 32768])):=KB.new ht1;generalize upd H9 t1 (.lst [.int 8,.int 128,.int 32768])=H10 at *;generalize dO w=hf at *;rw[hM];clear hM M';refine ao λM' hM=>?_;walk_at "rz";have cmul:sd 2 hf:=.inl ⟨by decide,by decide⟩
    refine⟨cmul,p,dq,2*hf,n+1+10*i+6,rfl,D9.kb k10,by lia,by lia,by lia,λv3 H11 _ D11 k11=>?_⟩
    have hk11:=hk9.trans (k10.all.trans k11);have gb11:=k11 _ _ (k10 _ _ gb9 (by simp)) bl0
    walk_at "rz";rw[hM];clear hM M';clear k10 k11 hk9 gb9 D9 ht1;have hxs:(wd x).length<=sizeLine:=by rw[ay];exact Gw (show _<=10000 by lia) (by decide)
    refine ao λM' hM=>?_;exists aF gb11,bR,iy;refine⟨p,dq,(bg.length:Nat),n+1+10*i+7,rfl,D11,by lia,by lia,by lia,λj H12 hj D12 k12=>?_⟩
    have gb12:=k12 _ _ gb11 bl0;have ab:bX (iV (nZ bg)) (j:Int)=some (.int (bg.getD j 0:Nat)):=bI (by
     have hj:j<bg.length:=by lia
     unfold iV nZ;rw[G8,G8,Gy,Gm hj]
     rfl)
    exists aF gb12,ab,p6;refine⟨hxs,by decide,λt2 ht2=>?_⟩
    have k13:KB [] H12 (upd H12 t2 (.lst [.int 5,.int 10,.int 18])):=KB.new ht2;generalize upd H12 t2 (.lst [.int 5,.int 10,.int 18])=H13 at *;have hk13:=hk11.trans (k12.trans k13.all);have gb13:=k13 _ _ gb12 (by simp)
    generalize ((bg.getD j 0:Nat):Int)-((wd x).length:Nat)-a5=goal at *;rw[hM];clear hM M';refine ao λM' hM=>?_;refine la λA B hA hB=>?_;walk_at "rz";refine⟨p,dq,2,n+1+10*i+8,rfl,D12.kb k13,by lia,by decide,by decide,λv5 H14 _ D14 k14=>?_⟩
    have hk14:=hk13.trans k14;have gb14:=k14 _ _ gb13 bl0;clear hk13 gb13 hk11 gb11 gb12 k12 k13 k14 ht2 D11 D12 ab;have tail:∀far:Int,M' [some (.ref p),some (.ref b),some (.int (most:Nat)),some (.ref ca),some (.str (wd x)),some (.ref bl),some (.int kI),some (.ref ra),some (.int (w:Nat)),some (.int hf),some (.int far),some (.int goal)] H14:=λfar=>by
     rw[hM];clear hM M' hA hB;have hll:(d7 (far % (2*hf)) (ba w) []).length=ba w:=fW _ _ _;have hlb:dy (d7 (far % (2*hf)) (ba w) []):=gw _ _ _ λc hc=>by cases hc
     have hl3:((x++bT w)++d7 (far % (2*hf)) (ba w) []).length<=x.length+18:=by rw[Gr,Gr];lia
     have hs3:(x++bT w).length+(d7 (far % (2*hf)) (ba w) []).length<=sizeLine:=by rw[<- Gr];exact Gw (show _<=10000 by lia) (by decide)
     exists p2;refine⟨by decide,λt3 ht3=>?_⟩
     have k15:KB [] H14 (upd H14 t3 (.lst [.str (Str.ofString "0"),.str (Str.ofString "10"),.str (Str.ofString "11")])):=KB.new ht3;generalize upd H14 t3 (.lst [.str (Str.ofString "0"),.str (Str.ofString "10"),.str (Str.ofString "11")])=H15 at *;rw[ay,ay,eB];refine⟨Gw (show _<=10000 by lia) (by decide),cmul,by lia,?_⟩
     exists p3;refine⟨by decide,λt4 ht4=>⟨_,ba w,rfl,by lia,?_⟩⟩
     have k16:KB [] H15 (upd H15 t4 (.lst [.int 4,.int 8,.int 16])):=KB.new ht4;generalize upd H15 t4 (.lst [.int 4,.int 8,.int 16])=H16 at *;have k17:=k15.trans k16;walk_at "rz";rw[ay,ay,eB];exact⟨hs3,step _ H16 (some _) (some _) (some _) (some _) ((hb2.app pb).app hlb) hl3 ((D14.kb k17).mono (by lia)) (hk14.trans k17.all) (k17 _ _ gb14 (by simp))⟩
    have other:B [some (.ref p),some (.ref b),some (.int (most:Nat)),some (.ref ca),some (.str (wd x)),some (.ref bl),some (.int kI),some (.ref ra),some (.int (w:Nat)),some (.int hf),some (.int ((v3:Int)-hf)),some (.int goal)] H14:=by rw[hB];exact tail _
    walk_at "rz";by_cases c1:(v5:Int)=0
    ·rw[Gp c1];by_cases c2:0-hf<=goal
     ·rw[Gp c2,hA];walk_at "rz";exact tail goal
     ·rw[Gn c2];exact other
    ·rw[Gn c1];exact other
  ·rintro σ H' ⟨z,bs,o6,o7,o8,o9,o10,o11,hbz,hz,hbs,hD,hk,gb,rfl⟩;show N _ _;rw[hN];clear hN N;walk_at "rz";exact q z H' hbz (by lia) (hD.mono (by lia)) (g2.all.trans hk)
theorem oX:200000<=sizeLine:=by decide
noncomputable def As:List Key:=[.inr "a",.inr "b",.inr "c",.inr "d",.inr "e",.inr "f",.inr "g",.inr "h"]
structure ip where
 given:List Int
 heard:Nat
 told:List Int
 bs:List Int
structure MA where
 m:Addr
 dx:Addr
 gv:Addr
 tl:Addr
 bx:Addr
noncomputable def wQ(a:MA)(h:Nat):List (Str×V):=[("given",.ref a.gv),("heard",.int (h:Nat)),("told",.ref a.tl),("boxes",.ref a.bx)]
structure MS (K:LA) (C:Addr) (H:Hp) (a:MA) (st:ip):Prop where
 om:H a.m=some (.ins C a.dx (wQ a st.heard))
 od:H a.dx=some (.own a.m)
 og:H a.gv=some (.tup (iV st.given))
 ot:H a.tl=some (.lst (iV st.told))
 ob:H a.bx=some (.dK (As.zip (iV st.bs)))
 l8:st.bs.length=8
 hh:st.heard<=st.given.length
noncomputable def MF(a:MA):List Addr:=[a.m,a.tl,a.bx]
theorem ni(a:MA)(h:Nat):(wQ a h).lookup ("given":Str)=some (.ref a.gv):=rfl
theorem jC(a:MA)(h:Nat):(wQ a h).lookup ("heard":Str)=some (.int (h:Nat)):=rfl
theorem qr(a:MA)(h:Nat):(wQ a h).lookup ("told":Str)=some (.ref a.tl):=rfl
theorem eO(a:MA)(h:Nat):(wQ a h).lookup ("boxes":Str)=some (.ref a.bx):=rfl
theorem sM(a:MA)(h k:Nat):d6 "heard" (.int (k:Nat)) (wQ a h)=wQ a k:=rfl
theorem MS.ne1{a:MA}{st:ip}(M:MS K C H a st):a.tl≠a.m/\a.bx≠a.m/\a.gv≠a.m/\a.dx≠a.m/\a.bx≠a.tl/\a.gv≠a.tl/\a.dx≠a.tl/\a.gv≠a.bx/\a.dx≠a.bx:=by
 have h1:=M.om;have h2:=M.od;have h3:=M.og;have h4:=M.ot;have h5:=M.ob;have ap:∀{x y:Addr} {o o':HO},H x=some o->H y=some o'->o≠o'->x≠y:=λh h' n e=>n (by rw[e] at h;exact Option.some.inj (h.symm.trans h'))
 exact⟨ap h4 h1 (by simp),ap h5 h1 (by simp),ap h3 h1 (by simp),ap h2 h1 (by simp),ap h5 h4 (by simp),ap h3 h4 (by simp),ap h2 h4 (by simp),ap h3 h5 (by simp),ap h2 h5 (by simp)⟩
noncomputable def qu(K:LA)(C:Addr):Sp:=λvs H Q _=>∃(a:MA) (st:ip),vs=[.ref a.m]/\MS K C H a st /\
 (st.given.length<=st.heard->Q (.int 0) H)/\∀x,st.given[st.heard]?=some x->∀H',MS K C H' a {st with heard:=st.heard+1}->KB (MF a) H H'->Q (.int x) H'
theorem xl(T:Txt K mg)(cM:jK K C)(na_given:b9 K C "given")(na_heard:b9 K C "heard")(F:jz K "heard_number" "Machine.heard_number" aC f fd):cC P w K mg base bf 1 f fd ["self"] (qu K C):=by
 refine F.ok eM (λvs H Q E h=>?_) (λcdv A outer s H vs Q E hr h=>?_)
 ·obtain⟨a,st,rfl,_⟩:=h;rfl
 ·obtain⟨a,st,rfl,M,q1,q2⟩:=h;have hu:=aZ hr;have key:∃t,QB (fC bf P w K mg base ["self"] "Machine.heard_number" (af aC) f cdv A outer s H E).oJ (aS aC) t/\t {nx:=λ_ H'=>Q .aQ H',rt:=Q} (start ["self"] [.ref a.m]) H:=by
   refine⟨_,(Z.ag (Z.cu (Z.aR rh (Z.fld K rfl (Z.v 0)) (Z.cb (Z.bK K rfl) rfl T.bB (by decide +kernel) (Z.cons (Z.fld K rfl (Z.v 0)) Z.nil))) (Z.ar (Z.ret Z.int)) Z.bj)
   (Z.ag (Z.xq K rfl (Z.v 0) (Z.op (Z.aP K rfl) (Z.fld K rfl (Z.v 0)) Z.int))
   (Z.ar (Z.ret (Z.ix (Z.ax K rfl hu) (Z.fld K rfl (Z.v 0)) (Z.op bO (Z.fld K rfl (Z.v 0)) Z.int)))))),?_⟩
   have e1:sq H a.gv=some (false,iV st.given):=aG M.og;have hl:(iV st.given).length=st.given.length:=Gx ..;refine ao λN hN=>?_;walk_at "rz";refine⟨a.m,C,a.dx,_,_,rfl,M.om,cM,na_heard,jC a _,a.m,C,a.dx,_,_,rfl,M.om,cM,na_given,ni a _,?_⟩;simp only[L2.Ap.xx,e1,hl];walk_at "rz";by_cases h1:st.given.length<=st.heard
   ·rw[Gp (by omega)]
    exact q1 h1
   ·rw[Gn (by omega),hN];clear hN N
    have h2:st.heard<st.given.length:=by omega
    obtain⟨n1,n2,n3,n4,n5,n6,n7,n8,n9⟩:=M.ne1;have M':MS K C (upd H a.m (.ins C a.dx (wQ a (st.heard+1)))) a {st with heard:=st.heard+1}:=⟨aa,by rw[ae n4];exact M.od,by rw[ae n3];exact M.og,by rw[ae n1];exact M.ot,by rw[ae n2];exact M.ob,M.l8,h2⟩
    refine ao λN hN=>?_;walk_at "rz";refine⟨a.m,C,a.dx,_,_,rfl,M.om,cM,na_heard,jC a _,?_⟩;walk_at "rz";refine⟨a.m,C,a.dx,_,rfl,M.om,cM,na_heard,(show 4<1000 by decide),?_⟩
    rw[show ((st.heard:Nat):Int)+1=((st.heard+1:Nat):Int) from rfl,sM,hN];clear hN N;walk_at "rz";refine⟨a.m,C,a.dx,_,_,rfl,M'.om,cM,na_given,ni a _,a.m,C,a.dx,_,_,rfl,M'.om,cM,na_heard,jC a _,?_⟩;have e2:sq (upd H a.m (.ins C a.dx (wQ a (st.heard+1)))) a.gv=some (false,iV st.given):=aG M'.og;have e3:bX (iV st.given) (((st.heard+1:Nat):Int)-1)=some (V.int st.given[st.heard]):=by
     rw[show ((st.heard+1:Nat):Int)-1=((st.heard:Nat):Int) by omega]
     exact bI (by unfold iV;rw[G8,Gm h2];rfl)
    simp only[L2.Ap.sZ,L2.Ap.fu,e2,e3];exact q2 _ (Gm h2) _ M' (KB.set (by unfold MF;simp))
  obtain⟨t,hb,ht⟩:=key;exact⟨t,hb.h,ht⟩
noncomputable def d5(bs:List Int)(b:Nat):Int:=bs[b]?.getD 0
theorem pY:∀(b:Nat),b<8->∀bs:List Int,bs.length=8->cR (As.zip (iV bs)) (.inr (bW b))=some (.int (d5 bs b)):=by
 intro b hb bs hl;obtain⟨x0,x1,x2,x3,x4,x5,x6,x7,rfl⟩:=Df hl;rcases Bp hb with rfl|rfl|rfl|rfl|rfl|rfl|rfl|rfl<;>rfl
theorem AW:∀(b:Nat),b<8->∀(bs:List Int) (x:Int),bs.length=8->putK (As.zip (iV bs)) (.inr (bW b)) (.int x)=As.zip (iV (bs.set b x)):=by
 intro b hb bs x hl;obtain⟨x0,x1,x2,x3,x4,x5,x6,x7,rfl⟩:=Df hl;rcases Bp hb with rfl|rfl|rfl|rfl|rfl|rfl|rfl|rfl<;>rfl
noncomputable def cA(st:ip):Int×ip:=match st.given[st.heard]? with
 |some x=>(x,{st with heard:=st.heard+1})
 |none=>(0,st)
noncomputable def bQ(st:ip):bD->Int×ip
 |.put _ n=>((n:Nat),st)
 |.two w a b=>((match w with
  |0=>(d5 st.bs a+d5 st.bs b) % 65536
  |1=>(d5 st.bs a-d5 st.bs b) % 65536
  |2=>d5 st.bs b % 65536),st)
 |.one _ _=>((cA st).1 % 65536,(cA st).2)
 |_=>(0,st)
noncomputable def isNum:bD->Bool
 |.put _ _=>true
 |.two _ _ _=>true
 |.one 1 _=>true
 |_=>false
noncomputable def Ad(K:LA)(C:Addr):Sp:=λvs H Q _=>∃(a:MA) (st:ip) (p:Addr) (r:bD),vs=[.ref a.m,.ref p]/\MS K C H a st/\H p=some (.tup r.vs)/\r.Ok/\isNum r=true /\
 ∀H',MS K C H' a (bQ st r).2->KB (MF a) H H'->Q (.int (bQ st r).1) H'
theorem AO{fh:Addr}{d_heard_number:FuncData}(T:Txt K mg)(cM:jK K C)(na_boxes:b9 K C "boxes")(mm_heard_number:Meth K C "heard_number" fh)(bm_heard_number:Binds K d_heard_number ["self"] [])(FO_heard_number:cC P w K mg base bf 1 fh d_heard_number ["self"] (qu K C))(F:jz K "number_for" "Machine.number_for" aI f fd):cC P w K mg base bf 2 f fd ["self","row"] (Ad K C):=by
 obtain⟨u_WHOLE,hg_WHOLE,hr_WHOLE⟩:=T.zI;refine F.ok bA (λvs H Q E h=>?_) (λcdv A outer s H vs Q E hr h=>?_)
 ·obtain⟨a,st,p,r,rfl,_⟩:=h;rfl
 ·obtain⟨a,st,p,r,rfl,M,hp,aX,hi,q⟩:=h;have hu:=aZ hr;have key:∃t,QB (fC bf P w K mg base ["self","row","word","old","other"] "Machine.number_for" (af aI) f cdv A outer s H E).oJ (aS aI) t/\t {nx:=λ_ H'=>Q .aQ H',rt:=Q} (start ["self","row","word","old","other"] [.ref a.m,.ref p]) H:=by
   refine⟨_,(Z.ag (Z.set (i:=2) bA.nd rfl (by right) (Z.ix (Z.ax K rfl hu) (Z.v 1) Z.int))
   (Z.ag (Z.cu (Z.aR aO (Z.v 2) Z.str) (Z.ar (Z.ret (Z.ix (Z.ax K rfl hu) (Z.v 1) Z.int))) Z.bj)
   (Z.ag (Z.cu (Z.aR aO (Z.v 2) Z.str) (Z.ar (Z.ret (Z.op bY (Z.vS K rfl (Z.v 0) cM mm_heard_number FO_heard_number (hr.mono (by decide)) bm_heard_number au) (Z.glob rfl hg_WHOLE hr_WHOLE)))) Z.bj)
   (Z.ag (Z.set (i:=3) bA.nd rfl (by right) (Z.oM hu (Z.fld K rfl (Z.v 0)) (Z.ix (Z.ax K rfl hu) (Z.v 1) Z.int)))
   (Z.ag (Z.set (i:=4) bA.nd rfl (by right) (Z.oM hu (Z.fld K rfl (Z.v 0)) (Z.ix (Z.ax K rfl hu) (Z.v 1) Z.int)))
   (Z.ag (Z.cu (Z.aR aO (Z.v 2) Z.str) (Z.ar (Z.ret (Z.op bY (Z.op (Z.aP K rfl) (Z.v 3) (Z.v 4)) (Z.glob rfl hg_WHOLE hr_WHOLE)))) Z.bj)
   (Z.ag (Z.cu (Z.aR aO (Z.v 2) Z.str) (Z.ar (Z.ret (Z.op bY (Z.op bO (Z.v 3) (Z.v 4)) (Z.glob rfl hg_WHOLE hr_WHOLE)))) Z.bj)
   (Z.ar (Z.ret (Z.op bY (Z.v 4) (Z.glob rfl hg_WHOLE hr_WHOLE))))))))))),?_⟩
   have e1:sq H p=some (false,r.vs):=aG hp;refine ao λN hN=>?_;walk_at "rz";simp only[L2.Ap.fu,e1];have dg:∀b,b<8->fZ H a.bx (.str (bW b)) (some (.int (d5 st.bs b))):=λb hb=>.inl ⟨_,.inr (bW b),.inl M.ob,rfl,(pY b hb st.bs M.l8).symm⟩;have sD:∀{x y:Str} {P1 P2:Prop},x≠y->P2->(if x=y then P1 else P2):=λh h2=>by rw[Gn h];exact h2
   cases r with
   |put b n =>
    show N [some (.ref a.m),some (.ref p),some (.str "put"),none,none] H;rw[hN];clear hN N;refine ao λN hN=>?_;walk_at "rz";simp only[L2.Ap.fu,e1];exact q H M (KB.refl _ _)
   |two u b c =>
    show N [some (.ref a.m),some (.ref p),some (.str (w2 u)),none,none] H;have hput:w2 u≠"put":=(show ∀u,w2 u≠"put" by decide +kernel) u
    have hhear:w2 u≠"hear":=(show ∀u,w2 u≠"hear" by decide +kernel) u
    rw[hN];clear hN N;refine ao λN hN=>?_;walk_at "rz";refine sD hput ?_;rw[hN];clear hN N;refine ao λN hN=>?_;walk_at "rz";refine sD hhear ?_;rw[hN];clear hN N;refine ao λN hN=>?_;walk_at "rz";refine⟨a.m,C,a.dx,_,_,rfl,M.om,cM,na_boxes,eO a _,?_⟩;simp only[L2.Ap.fu,e1];refine⟨a.bx,_,rfl,dg b aX.1,?_⟩;rw[hN];clear hN N;refine ao λN hN=>?_;walk_at "rz";refine⟨a.m,C,a.dx,_,_,rfl,M.om,cM,na_boxes,eO a _,?_⟩;simp only[L2.Ap.fu,e1];refine⟨a.bx,_,rfl,dg c aX.2,?_⟩;rw[hN];clear hN N;have fin:=q H M (KB.refl _ _);have hs:w2 1="sub":=rfl;refine ao λN hN=>?_;walk_at "rz";rcases yu u with rfl|rfl|rfl
    ·rw[Gp (show w2 0="add" from rfl)];exact⟨by decide,fin⟩
    ·refine sD (by decide +kernel) ?_
     rw[hN];clear hN N;refine ao λN hN=>?_;walk_at "rz";rw[Gp (show w2 1="sub" from rfl)];exact⟨by decide,fin⟩
    ·refine sD (by decide +kernel) ?_
     rw[hN];clear hN N;refine ao λN hN=>?_;walk_at "rz";refine sD (by decide +kernel) ?_
     rw[hN];clear hN N;walk_at "rz";exact⟨by decide,fin⟩
   |one u b =>
    have hu1:u=1:=by
     rcases mM u with h|h
     ·rw[h] at hi;cases hi
     ·exact h
    subst hu1;show N [some (.ref a.m),some (.ref p),some (.str "hear"),none,none] H;rw[hN];clear hN N;refine ao λN hN=>?_;walk_at "rz";refine sD (by decide +kernel) ?_
    rw[hN];clear hN N;refine ao λN hN=>?_;walk_at "rz";refine⟨a.m,a.dx,_,rfl,M.om,rfl,a,st,rfl,M,λh=>?_,λx hx H' M' kb=>?_⟩
    ·have e0:cA st=(0,st):=by unfold cA;rw[GU.mpr h]
     have e2:bQ st (.one 1 b)=(0 % 65536,st):=by unfold bQ;rw[e0]
     rw[e2] at q;walk_at "rz";exact⟨by decide,q H M (KB.refl _ _)⟩
    ·have e0:cA st=(x,{st with heard:=st.heard+1}):=by unfold cA;rw[hx]
     have e2:bQ st (.one 1 b)=(x % 65536,{st with heard:=st.heard+1}):=by unfold bQ;rw[e0]
     rw[e2] at q;walk_at "rz";exact⟨by decide,q H' M' kb⟩
   |jump g=>cases hi
   |zero b g=>cases hi
   |halt=>cases hi
  obtain⟨t,hb,ht⟩:=key;exact⟨t,hb.h,ht⟩
noncomputable def carry(st:ip):bD->Bool×ip
 |.jump _=>(true,st)
 |.zero b _=>(decide (d5 st.bs b=0),st)
 |.one 0 b=>(false,{st with told:=st.told++[d5 st.bs b]})
 |.halt=>(false,st)
 |.put b n=>(false,{(bQ st (.put b n)).2 with bs:=(bQ st (.put b n)).2.bs.set b (bQ st (.put b n)).1})
 |.two w a b=>(false,{(bQ st (.two w a b)).2 with bs:=(bQ st (.two w a b)).2.bs.set a (bQ st (.two w a b)).1})
 |.one 1 b=>(false,{(bQ st (.one 1 b)).2 with bs:=(bQ st (.one 1 b)).2.bs.set b (bQ st (.one 1 b)).1})
noncomputable def qA(K:LA)(C:Addr):Sp:=λvs H Q _=>∃(a:MA) (st:ip) (p:Addr) (r:bD),vs=[.ref a.m,.ref p]/\MS K C H a st/\H p=some (.tup r.vs)/\r.Ok/\st.told.length<100000 /\
 ∀H',MS K C H' a (carry st r).2->KB (MF a) H H'->Q (.bl (carry st r).1) H'
theorem uE{fn:Addr}{d_number_for:FuncData}(T:Txt K mg)(cM:jK K C)(na_boxes:b9 K C "boxes")(na_told:b9 K C "told")(mm_number_for:Meth K C "number_for" fn)(bm_number_for:Binds K d_number_for ["self","row"] [])(FO_number_for:cC P w K mg base bf 2 fn d_number_for ["self","row"] (Ad K C))(F:jz K "carry_out" "Machine.carry_out" aM f fd):cC P w K mg base bf 3 f fd ["self","row"] (qA K C):=by
 refine F.ok dm (λvs H Q E h=>?_) (λcdv A outer s H vs Q E hr h=>?_)
 ·obtain⟨a,st,p,r,rfl,_⟩:=h;rfl
 ·obtain⟨a,st,p,r,rfl,M,hp,aX,htl,q⟩:=h;have hu:=aZ hr;have key:∃t,QB (fC bf P w K mg base ["self","row","word"] "Machine.carry_out" (af aM) f cdv A outer s H E).oJ (aS aM) t/\t {nx:=λ_ H'=>Q .aQ H',rt:=Q} (start ["self","row","word"] [.ref a.m,.ref p]) H:=by
   refine⟨_,(Z.ag (Z.set (i:=2) dm.nd rfl (by right) (Z.ix (Z.ax K rfl hu) (Z.v 1) Z.int))
   (Z.ag (Z.cu (Z.aR aO (Z.v 2) Z.str) (Z.ar (Z.ret Z.bl)) Z.bj)
   (Z.ag (Z.cu (Z.aR aO (Z.v 2) Z.str) (Z.ar (Z.ret (Z.cmp aO (Z.oM hu (Z.fld K rfl (Z.v 0)) (Z.ix (Z.ax K rfl hu) (Z.v 1) Z.int)) Z.int))) Z.bj)
   (Z.ag (Z.cu (Z.aR aO (Z.v 2) Z.str) (Z.ar (Z.expr (Z.bm K rfl PySem.F.plainAttrs_list PySem.F.slot_list_append PySem.F.type_list_append cK (Z.fld K rfl (Z.v 0)) (Z.cons (Z.oM hu (Z.fld K rfl (Z.v 0)) (Z.ix (Z.ax K rfl hu) (Z.v 1) Z.int)) Z.nil)))) (Z.ar (Z.cu (Z.aR jG (Z.v 2) Z.str) (Z.ar (Z.dput hu (Z.fld K rfl (Z.v 0)) (Z.ix (Z.ax K rfl hu) (Z.v 1) Z.int) (Z.Cz K rfl (Z.v 0) cM mm_number_for FO_number_for (hr.mono (by decide)) bm_number_for au (Z.cons (Z.v 1) Z.nil)))) Z.bj)))
   (Z.ar (Z.ret Z.bl)))))),?_⟩
   have e1:sq H p=some (false,r.vs):=aG hp;obtain⟨n1,n2,n3,n4,n5,n6,n7,n8,n9⟩:=M.ne1;refine ao λN hN=>?_;walk_at "rz";simp only[L2.Ap.fu,e1];have dg:∀b,b<8->fZ H a.bx (.str (bW b)) (some (.int (d5 st.bs b))):=λb hb=>.inl ⟨_,.inr (bW b),.inl M.ob,rfl,(pY b hb st.bs M.l8).symm⟩;have sD:∀{x y:Str} {P1 P2:Prop},x≠y->P2->(if x=y then P1 else P2):=λh h2=>by rw[Gn h];exact h2
   have go:∀(r':bD) (wd:Str) (b:Nat),r.vs=.str wd::.str (bW b)::(r.vs.drop 2)->b<8->isNum r=true->wd≠"jump"->wd≠"zero"->wd≠"tell"->wd≠"halt"->carry st r=(false,{(bQ st r).2 with bs:=(bQ st r).2.bs.set b (bQ st r).1})->N [some (.ref a.m),some (.ref p),some (.str wd)] H:=by
    intro r' wd b ev hb hi w1 w2 w3 w4 ec;rw[hN];clear hN N;refine ao λN hN=>?_;walk_at "rz";refine sD w1 ?_;rw[hN];clear hN N;refine ao λN hN=>?_;walk_at "rz";refine sD w2 ?_;rw[hN];clear hN N;refine ao λN hN=>?_;walk_at "rz";refine sD w3 ?_;rw[Gp (show ¬ wd="halt" from w4)];refine⟨a.m,a.dx,_,rfl,M.om,rfl,a,st,p,r,rfl,M,hp,aX,hi,λH1 M1 kb=>?_⟩;have hp1:H1 p=some (.tup r.vs):=kb _ _ hp (by
     unfold MF;simp only[Gv,GG,Hj,not_or];exact⟨λe=>(by rw[e,M.om] at hp;cases hp),λe=>(by rw[e,M.ot] at hp;cases hp),λe=>(by rw[e,M.ob] at hp;cases hp)⟩)
    have e2:sq H1 p=some (false,r.vs):=aG hp1;refine⟨a.m,C,a.dx,_,_,rfl,M1.om,cM,na_boxes,eO a _,?_⟩;rw[e2,ev];simp only[yb];obtain⟨k1,k2,k3,k4,k5,k6,k7,k8,k9⟩:=M1.ne1;refine⟨a.bx,_,rfl,.inl ⟨_,.inr (bW b),M1.ob,rfl,?_,rfl⟩,?_⟩
    ·have l8:=M1.l8;rw[JR];exact HU (Nat.min_le_left _ _) (by decide)
    rw[AW b hb _ _ M1.l8,hN];clear hN N;walk_at "rz";rw[ec] at q;refine q _ ⟨by rw[ae k2.symm];exact M1.om,by rw[ae k9];exact M1.od,by rw[ae k8];exact M1.og,by rw[ae k5.symm];exact M1.ot,aa,by rw[HB];exact M1.l8,M1.hh⟩ (kb.trans (KB.set (by unfold MF;simp)))
   cases r with
   |put b n=>exact go (.put b n) "put" b rfl aX rfl (by decide +kernel) (by decide +kernel) (by decide +kernel) (by decide +kernel) rfl
   |two u b c=>exact go (.two u b c) (w2 u) b rfl aX.1 rfl ((show ∀u,w2 u≠"jump" by decide +kernel) u) ((show ∀u,w2 u≠"zero" by decide +kernel) u) ((show ∀u,w2 u≠"tell" by decide +kernel) u) ((show ∀u,w2 u≠"halt" by decide +kernel) u) rfl
   |one u b =>
    rcases mM u with rfl|rfl
    rotate_left
    ·exact go (.one 1 b) "hear" b rfl aX rfl (by decide +kernel) (by decide +kernel) (by decide +kernel) (by decide +kernel) rfl
    ·show N [some (.ref a.m),some (.ref p),some (.str "tell")] H;rw[hN];clear go hN N;refine ao λN hN=>?_;walk_at "rz";refine sD (by decide +kernel) ?_
     rw[hN];clear hN N;refine ao λN hN=>?_;walk_at "rz";refine sD (by decide +kernel) ?_
     rw[hN];clear hN N;refine ao λN hN=>?_;walk_at "rz";refine⟨a.m,C,a.dx,_,_,rfl,M.om,cM,na_told,qr a _,Or.inl ⟨rfl,_,bZ.of M.ot⟩,a.m,C,a.dx,_,_,rfl,M.om,cM,na_boxes,eO a _,?_⟩;simp only[L2.Ap.fu,e1];refine⟨a.bx,_,rfl,dg b aX,?_⟩;refine⟨a.tl,_,_,rfl,rfl,M.ot,?_,?_⟩
     ·unfold iV;rw[Gx];exact JL htl (GI (by decide) oX)
     rw[hN];clear hN N;walk_at "rz";refine q _ ⟨by rw[ae n1.symm];exact M.om,by rw[ae n7];exact M.od,by rw[ae n6];exact M.og,?_,by rw[ae n5];exact M.ob,M.l8,M.hh⟩ (KB.set (by unfold MF;simp))
     rw[aa];show some (HO.lst (iV st.told++[V.int (d5 st.bs b)]))=some (.lst (iV (st.told++[d5 st.bs b])));unfold iV;rw[GO];rfl
   |jump g =>
    show N [some (.ref a.m),some (.ref p),some (.str "jump")] H;rw[hN];clear go hN N;refine ao λN hN=>?_;walk_at "rz";exact q H M (KB.refl _ _)
   |zero b g =>
    show N [some (.ref a.m),some (.ref p),some (.str "zero")] H;rw[hN];clear go hN N;refine ao λN hN=>?_;walk_at "rz";refine sD (by decide +kernel) ?_
    rw[hN];clear hN N;refine ao λN hN=>?_;walk_at "rz";refine⟨a.m,C,a.dx,_,_,rfl,M.om,cM,na_boxes,eO a _,?_⟩;simp only[L2.Ap.fu,e1];refine⟨a.bx,_,rfl,dg b aX,?_⟩;walk_at "rz";exact q H M (KB.refl _ _)
   |halt =>
    show N [some (.ref a.m),some (.ref p),some (.str "halt")] H;rw[hN];clear go hN N;refine ao λN hN=>?_;walk_at "rz";refine sD (by decide +kernel) ?_
    rw[hN];clear hN N;refine ao λN hN=>?_;walk_at "rz";refine sD (by decide +kernel) ?_
    rw[hN];clear hN N;refine ao λN hN=>?_;walk_at "rz";refine sD (by decide +kernel) ?_
    rw[Gn (by simp),hN];clear hN N
    walk_at "rz";exact q H M (KB.refl _ _)
  obtain⟨t,hb,ht⟩:=key;exact⟨t,hb.h,ht⟩
noncomputable def rA:bD->Option Int
 |.jump g=>some g
 |.zero _ g=>some g
 |_=>none
noncomputable def j7(r:bD):V:=match rA r with
 |some g=>.int g
 |none=>.aQ
noncomputable def lN:Sp:=λvs H Q _=>∃(p:Addr) (r:bD),vs=[.ref p]/\H p=some (.tup r.vs)/\Q (j7 r) H
theorem vT(T:Txt K mg)(F:HasFn K mg "goal_of" fN ["row"]):aq P w K mg base bf 1 "goal_of" ["row"] lN:=by
 obtain⟨dS,hg_SHAPES,hd0⟩:=T.oz;have hd_SHAPES:jP K dS de:=hd0;refine F.fQ pX (λvs H Q E h=>?_) (λf cdv A outer s H vs Q E hr h=>?_)
 ·obtain⟨p,r,rfl,_⟩:=h;rfl
 ·have hu:=aZ hr;obtain⟨p,r,rfl,hp,q⟩:=h;refine⟨_,(Z.ar (Z.ret (Z.Ek (Z.aR (Z.DZ K rfl) Z.str (Z.FJ K rfl rfl hg_SHAPES hd_SHAPES (Z.ix (Z.ax K rfl hu) (Z.v 0) Z.int))) (Z.ix (Z.ax K rfl hu) (Z.v 0) (Z.un k_ Z.int)) Z.aQ))),?_⟩;have sp:=aG hp;have kt1:∀{pk:Addr} {xs:List V},EN K pk xs->bZ K H pk xs\/b8 K H pk xs:=λh=>.inr (.inr h);obtain⟨w,ws,e0,ed,ef,h⟩:∃(w:Str) (ws:List Str),bX r.vs 0=some (.str w)/\KTD.datumAt w de=some ws/\(ws.map V.str).all dw=true/\(jV (.str "goal") (ws.map V.str)=true/\bX r.vs (-1)=some (j7 r)\/jV (.str "goal") (ws.map V.str)=false/\j7 r=.aQ):=by
   cases r with
   |jump g=>exact⟨_,_,rfl,(by decide +kernel:KTD.datumAt ("jump":Str) de=some [("goal":Str)]),rfl,.inl ⟨by decide +kernel,rfl⟩⟩
   |zero b g=>exact⟨_,_,rfl,(by decide +kernel:KTD.datumAt ("zero":Str) de=some [("box":Str),"goal"]),rfl,.inl ⟨by decide +kernel,rfl⟩⟩
   |put b n=>exact⟨_,_,rfl,(by decide +kernel:KTD.datumAt ("put":Str) de=some [("box":Str),"number"]),rfl,.inr ⟨by decide +kernel,rfl⟩⟩
   |two u b c=>exact⟨_,_,rfl,(by decide +kernel:∀u:_root_.Fin 3,KTD.datumAt (w2 u) de=some [("box":Str),"box"]) u,rfl,.inr ⟨by decide +kernel,rfl⟩⟩
   |one u b=>exact⟨_,_,rfl,(by decide +kernel:∀u:_root_.Fin 2,KTD.datumAt (w1 u) de=some [("box":Str)]) u,rfl,.inr ⟨by decide +kernel,rfl⟩⟩
   |halt=>exact⟨_,_,rfl,(by decide +kernel:KTD.datumAt ("halt":Str) de=some ([]:List Str)),rfl,.inr ⟨by decide +kernel,rfl⟩⟩
  exists sp,e0;refine⟨_,_,rfl,ed,λpk kt=>⟨pk,_,rfl,kt1 kt,rfl,ef,?_⟩⟩;refine⟨_,rfl,?_⟩;rcases h with ⟨h1,h2⟩|⟨h1,h2⟩
  ·rw[Gn Gz,h1,Gp rfl];simp only[sp,h2];exact q
  ·rw[Gn Gz,h1,Gn Gz];rw[h2] at q;exact q
noncomputable def place(st:ip)(r:bD)(bh en:Int):Int:=match r with
 |.halt=>en
 |r=>if (carry st r).1=true then ((rA r).getD 0) else bh
noncomputable def yD(K:LA)(C:Addr):Sp:=λvs H Q _=>∃(a:MA) (st:ip) (p:Addr) (r:bD) (bh en:Int),vs=[.ref a.m,.ref p,.int bh,.int en]/\MS K C H a st/\H p=some (.tup r.vs)/\r.Ok/\st.told.length<100000 /\
 ∀H',MS K C H' a (carry st r).2->KB (MF a) H H'->Q (.int (place st r bh en)) H'
theorem uC{fc:Addr}{d_carry_out:FuncData}(T:Txt K mg)(hgoal_of:aq P w K mg base bf 1 "goal_of" ["row"] lN)(cM:jK K C)(mm_carry_out:Meth K C "carry_out" fc)(bm_carry_out:Binds K d_carry_out ["self","row"] [])(FO_carry_out:cC P w K mg base bf 3 fc d_carry_out ["self","row"] (qA K C))(F:jz K "place_next" "Machine.place_next" aJ f fd):cC P w K mg base bf 4 f fd ["self","row","behind","end"] (yD K C):=by
 refine F.ok cT (λvs H Q E h=>?_) (λcdv A outer s H vs Q E hr h=>?_)
 ·obtain⟨a,st,p,r,bh,en,rfl,_⟩:=h;rfl
 ·obtain⟨a,st,p,r,bh,en,rfl,M,hp,aX,htl,q⟩:=h;have hu:=aZ hr;have key:∃t,QB (fC bf P w K mg base ["self","row","behind","end","goes"] "Machine.place_next" (af aJ) f cdv A outer s H E).oJ (aS aJ) t/\t {nx:=λ_ H'=>Q .aQ H',rt:=Q} (start ["self","row","behind","end","goes"] [.ref a.m,.ref p,.int bh,.int en]) H:=by
   refine⟨_,(Z.ag (Z.set (i:=4) cT.nd rfl (by right) (Z.Cz K rfl (Z.v 0) cM mm_carry_out FO_carry_out (hr.mono (by decide)) bm_carry_out au (Z.cons (Z.v 1) Z.nil)))
   (Z.ag (Z.cu (Z.aR aO (Z.ix (Z.ax K rfl hu) (Z.v 1) Z.int) Z.str) (Z.ar (Z.ret (Z.v 3))) Z.bj)
   (Z.ar (Z.ret (Z.Ek (Z.ll K rfl (Z.v 4)) (Z.fn hgoal_of (hr.mono (by decide)) rfl au (Z.cons (Z.v 1) Z.nil)) (Z.v 2)))))),?_⟩
   refine ao λN hN=>?_;walk_at "rz";refine⟨a.m,a.dx,_,rfl,M.om,rfl,a,st,p,r,rfl,M,hp,aX,htl,λH1 M1 kb=>?_⟩;have hp1:H1 p=some (.tup r.vs):=kb _ _ hp (by
    unfold MF;simp only[Gv,GG,Hj,not_or];exact⟨λe=>(by rw[e,M.om] at hp;cases hp),λe=>(by rw[e,M.ot] at hp;cases hp),λe=>(by rw[e,M.ob] at hp;cases hp)⟩)
   have e2:sq H1 p=some (false,r.vs):=aG hp1;walk_at "rz";rw[hN];clear hN N;refine ao λN hN=>?_;walk_at "rz";simp only[L2.Ap.fu,e2];have fin:=q H1 M1 kb;by_cases hh:r=.halt
   ·subst hh;show A0 (.str "halt") (.str "halt") H1 _;simp only[L2.Ap.xO];exact⟨_,rfl,by rw[Gp (by simp)];exact fin⟩
   ·obtain⟨wd,hw,hne⟩:∃wd,bX r.vs 0=some (.str wd)/\wd≠"halt":=by
     cases r with
     |put b n=>exact⟨_,rfl,by decide +kernel⟩
     |two u b c=>exact⟨_,rfl,(show ∀u,w2 u≠"halt" by decide +kernel) u⟩
     |one u b=>exact⟨_,rfl,(show ∀u,w1 u≠"halt" by decide +kernel) u⟩
     |jump g=>exact⟨_,rfl,by decide +kernel⟩
     |zero b g=>exact⟨_,rfl,by decide +kernel⟩
     |halt=>exact absurd rfl hh
    have ep:place st r bh en=if (carry st r).1=true then ((rA r).getD 0) else bh:=by
     cases r<;>first|rfl|exact absurd rfl hh
    rw[hw];simp only[L2.Ap.xO];refine⟨_,rfl,?_⟩;rw[Gn (by simpa using hne),hN];clear hN N
    walk_at "rz"
    cases hc:(carry st r).1 with
    |false =>
     rw[Gn (by decide)]
     rw[ep,hc] at fin;exact fin
    |true =>
     rw[Gp rfl];obtain⟨g,hg⟩:∃g,rA r=some g:=by
      cases r with
      |put b n=>cases hc
      |two u b c=>cases hc
      |one u b =>
       rcases mM u with rfl|rfl<;>cases hc
      |jump g=>exact⟨g,rfl⟩
      |zero b g=>exact⟨g,rfl⟩
      |halt=>cases hc
     refine⟨p,r,rfl,hp1,?_⟩;have hT:j7 r=.int g:=by unfold j7;rw[hg]
     have:=q H1 M1 kb;rw[ep,hc,hg] at this;rw[hT];exact this
  obtain⟨t,hb,ht⟩:=key;exact⟨t,hb.h,ht⟩
noncomputable def BX(K:LA)(C:Addr):Sp:=λvs H Q _=>∃(a:MA) (st:ip),vs=[.ref a.m]/\MS K C H a st/\∀p,H p=none->Q (.ref p) (upd H p (.tup (iV st.told)))
theorem xQ(T:Txt K mg)(cM:jK K C)(na_told:b9 K C "told")(F:jz K "told_numbers" "Machine.told_numbers" aA f fd):cC P w K mg base bf 1 f fd ["self"] (BX K C):=by
 refine F.ok eK (λvs H Q E h=>?_) (λcdv A outer s H vs Q E hr h=>?_)
 ·obtain⟨a,st,rfl,_⟩:=h;rfl
 ·obtain⟨a,st,rfl,M,q⟩:=h;have hu:=aZ hr;have key:∃t,QB (fC bf P w K mg base ["self"] "Machine.told_numbers" (af aA) f cdv A outer s H E).oJ (aS aA) t/\t {nx:=λ_ H'=>Q .aQ H',rt:=Q} (start ["self"] [.ref a.m]) H:=by
   refine⟨_,(Z.ar (Z.ret (Z.ct (Z.cX K rfl) rfl T.cF (by decide +kernel) (Z.cons (Z.fld K rfl (Z.v 0)) Z.nil)))),?_⟩
   have e1:sq H a.tl=some (true,iV st.told):=aF M.ot;walk_at "rz";refine⟨a.m,C,a.dx,_,_,rfl,M.om,cM,na_told,qr a _,?_⟩;simp only[L2.Ap.oN,e1];exactλp hp=>q p hp
  obtain⟨t,hb,ht⟩:=key;exact⟨t,hb.h,ht⟩
noncomputable def CT:List Str:=["a","b","c","d","e","f","g","h"]
noncomputable def zG(K:LA)(C:Addr):Sp:=λvs H Q _=>∃(a:MA) (st:ip),vs=[.ref a.m]/\MS K C H a st/\∀p H',H p=none->H' p=some (.tup (iV st.bs))->KB [] H H'->Q (.ref p) H'
theorem xr(T:Txt K mg)(cM:jK K C)(na_boxes:b9 K C "boxes")(F:jz K "box_numbers" "Machine.box_numbers" az f fd):cC P w K mg base bf 1 f fd ["self"] (zG K C):=by
 obtain⟨b,hg_BOXES,kt0⟩:=T.lE;have hr_BOXES:RelV (.ref b) (.ref b):=rfl;have kt:∀H,b8 K H b (CT.map V.str):=kt0;refine F.ok ff (λvs H Q E h=>?_) (λcdv A outer s H vs Q E hr h=>?_)
 ·obtain⟨a,st,rfl,_⟩:=h;rfl
 ·obtain⟨a,st,rfl,M,q⟩:=h;have hu:=aZ hr;have key:∃t,QB (fC bf P w K mg base ["self"] "Machine.box_numbers" (af az) f cdv A outer s H E).oJ (aS az) t/\t {nx:=λ_ H'=>Q .aQ H',rt:=Q} (start ["self"] [.ref a.m]) H:=by
   refine⟨_,(Z.ar (Z.ret (Z.ct (Z.cX K rfl) rfl T.cF (by decide +kernel) (Z.cons (Z.comp (osc:=af az) (ON:=["self"]) (own:=["box"]) (N:=["box","self"]) ⟨rfl,by decide +kernel,rfl,by decide +kernel,by decide +kernel,by decide +kernel,by decide +kernel,by decide +kernel⟩ rfl rfl rfl (Z.seq K rfl (Z.glob rfl hg_BOXES hr_BOXES)) (λ_ _ _ _=>(Z.bo (i:=0) (show List.Nodup (["box","self"]:List Str) by decide +kernel) rfl (by right))) (λ_ _ _ _=>Z.xX) (λ_ _ _ _=>(Z.oM hu (Z.fld K rfl (Z.v 1)) (Z.v 0)))) Z.nil)))),?_⟩
   walk_at "rz";refine .inr ⟨⟨_,kt _⟩,?_⟩;have l8:=M.l8;refine dD (xs:=CT.map V.str) (by decide) (λD i ys H'=>H D=none/\KB [] H H'/\H' D=some (.lst ys)/\ys=iV (st.bs.take i)/\i<=8) (λD hD=>⟨hD,KB.new hD,aa,by simp[iV],by decide⟩) (λD i ys H' ⟨h1,h2,h3,h4,h5⟩=>⟨h3,by rw[h4];unfold iV;rw[Gx,GP];omega⟩) (λD i ys H' _=>kt _) ?_ ?_
   ·rintro D i ys H' x R hx ⟨h1,h2,h3,h4,h5⟩ k;have hi:i<8:=by
     rcases Ho i 8 with c|c
     ·exact c
     ·rw[GU.mpr (by exact c)] at hx;cases hx
    have ex:x=.str (bW i):=by
     rcases Bp hi with rfl|rfl|rfl|rfl|rfl|rfl|rfl|rfl<;>exact (Option.some.inj hx).symm
    subst ex;have om':=h2 _ _ M.om (by simp)
    have ob':=h2 _ _ M.ob (by simp)
    walk_at "rz";refine⟨a.m,C,a.dx,_,_,rfl,om',cM,na_boxes,eO a _,a.bx,_,rfl,.inl ⟨_,.inr (bW i),.inl ob',rfl,(pY i hi st.bs l8).symm⟩,?_⟩;refine k _ H' h3 ⟨h1,λb o e _=>?_,aa,?_,by omega⟩
    ·rw[ae (ai e h1)];exact h2 b o e (by simp)
    ·have hb:i<st.bs.length:=by omega
     rw[h4,JA hb];unfold iV d5;rw[GO,Gm hb];rfl
   ·rintro D ys H' ⟨h1,h2,h3,h4,h5⟩;have e1:sq H' D=some (true,ys):=aF h3;simp only[L2.Ap.oN,e1];refineλp hp=>q p _ (h2.free (by simp) hp) ?_ (h2.trans (KB.new hp))
    rw[aa,h4];have:st.bs.take (CT.map V.str).length=st.bs:=Hq (by rw[l8];decide)
    rw[this]
  obtain⟨t,hb,ht⟩:=key;exact⟨t,hb.h,ht⟩
noncomputable def Ao(g:List Int):ip:=⟨g,0,[],[0,0,0,0,0,0,0,0]⟩
noncomputable def Ca(K:LA)(C:Addr):Sp:=λvs H Q _=>∃(x dx gv:Addr) (g:List Int),vs=[.ref x,.ref gv]/\H x=some (.ins C dx [])/\H dx=some (.own x)/\H gv=some (.tup (iV g)) /\
 ∀H' tl bx,H tl=none->H bx=none->MS K C H' ⟨x,dx,gv,tl,bx⟩ (Ao g)->KB [x] H H'->Q .aQ H'
theorem zt(T:Txt K mg)(cM:jK K C)(na_given:b9 K C "given")(na_heard:b9 K C "heard")(na_told:b9 K C "told")(na_boxes:b9 K C "boxes")(F:jz K "__init__" "Machine.__init__" aL f fd):cC P w K mg base bf 1 f fd ["self","given"] (Ca K C):=by
 obtain⟨b,hg_BOXES,kt0⟩:=T.lE;have hr_BOXES:RelV (.ref b) (.ref b):=rfl;have kt:∀H,b8 K H b (CT.map V.str):=kt0;refine F.ok gh (λvs H Q E h=>?_) (λcdv A outer s H vs Q E hr h=>?_)
 ·obtain⟨x,dx,gv,g,rfl,_⟩:=h;rfl
 ·obtain⟨x,dx,gv,g,rfl,ox,od,og,q⟩:=h;have hu:=aZ hr;have key:∃t,QB (fC bf P w K mg base ["self","given"] "Machine.__init__" (af aL) f cdv A outer s H E).oJ (aS aL) t/\t {nx:=λ_ H'=>Q .aQ H',rt:=Q} (start ["self","given"] [.ref x,.ref gv]) H:=by
   refine⟨_,(Z.ag (Z.xq K rfl (Z.v 0) (Z.v 1))
   (Z.ag (Z.xq K rfl (Z.v 0) Z.int)
   (Z.ag (Z.xq K rfl (Z.v 0) (Z.lst Z.nil))
   (Z.ar (Z.xq K rfl (Z.v 0) (Z.ct (nM K rfl) rfl T.BN (by decide +kernel) (Z.cons (Z.comp (osc:=af aL) (ON:=["self","given"]) (own:=["box"]) (N:=["box","self","given"]) ⟨rfl,by decide +kernel,rfl,by decide +kernel,by decide +kernel,by decide +kernel,by decide +kernel,by decide +kernel⟩ rfl rfl rfl (Z.seq K rfl (Z.glob rfl hg_BOXES hr_BOXES)) (λ_ _ _ _=>(Z.bo (i:=0) (show List.Nodup (["box","self","given"]:List Str) by decide +kernel) rfl (by right))) (λ_ _ _ _=>Z.xX) (λ_ _ _ _=>(Z.tup (Z.cons (Z.v 0) (Z.cons Z.int Z.nil))))) Z.nil))))))),?_⟩
   have ndx:dx≠x:=by rintro rfl;rw[ox] at od;cases od
   have ngx:gv≠x:=by rintro rfl;rw[ox] at og;cases og
   refine ao λN hN=>?_;walk_at "rz";refine⟨x,C,dx,_,rfl,ox,cM,na_given,by decide,?_⟩
   rw[hN];clear hN N;refine ao λN hN=>?_;walk_at "rz";refine⟨x,C,dx,_,rfl,aa,cM,na_heard,(show 1<1000 by decide),?_⟩
   rw[hN];clear hN N;rw[my];refine ao λN hN=>?_;walk_at "rz";refine⟨by decide,λtl htl=>?_⟩
   have ntl:tl≠x:=by rintro rfl;rw[aa] at htl;cases htl
   have htl0:H tl=none:=by rw[ae ntl] at htl;exact htl
   refine⟨x,C,dx,d6 "heard" (.int 0) (d6 "given" (.ref gv) []),rfl,by rw[ae ntl.symm];exact aa,cM,na_told,(show 2<1000 by decide),?_⟩
   rw[hN];clear hN N;have ntd:tl≠dx:=λe=>by rw[e,od] at htl0;cases htl0
   have ntg:tl≠gv:=λe=>by rw[e,og] at htl0;cases htl0
   obtain⟨H3,e3⟩:∃H3,H3=upd (upd (upd H x (.ins C dx (d6 "heard" (.int 0) (d6 "given" (.ref gv) [])))) tl (.lst [])) x (.ins C dx (d6 "told" (.ref tl) (d6 "heard" (.int 0) (d6 "given" (.ref gv) [])))):=⟨_,rfl⟩;rw[<- e3];have x3:H3 x=some (.ins C dx [("given",.ref gv),("heard",.int 0),("told",.ref tl)]):=by rw[e3];exact aa
   have t3:H3 tl=some (.lst []):=by rw[e3,ae ntl];exact aa
   have d3:H3 dx=some (.own x):=by rw[e3,ae ndx,ae ntd.symm,ae ndx];exact od
   have g3:H3 gv=some (.tup (iV g)):=by rw[e3,ae ngx,ae ntg.symm,ae ngx];exact og
   have k3:KB [x] H H3:=by
    rw[e3];exact ((KB.set (by simp)).trans (KB.new htl)).trans (KB.set (by simp))
   clear e3;walk_at "rz";refine .inr ⟨⟨_,kt _⟩,?_⟩;refine dD (xs:=CT.map V.str) (by decide) (λD i ys H'=>H3 D=none/\KB [] H3 H'/\H' D=some (.lst ys)/\ys.length=i/\i<=8/\∀j,j<i->∃p,ys[j]?=some (.ref p)/\H' p=some (.tup [.str (bW j),.int 0])) (λD hD=>⟨hD,KB.new hD,aa,rfl,by decide,λj hj=>absurd hj (JQ _)⟩) (λD i ys H' ⟨h1,h2,h3,h4,h5⟩=>⟨h3,h4⟩) (λD i ys H' _=>kt _) ?_ ?_
   ·rintro D i ys H' z R hx ⟨h1,h2,h3,h4,h5,h6⟩ k;have hi:i<8:=by
     rcases Ho i 8 with c|c
     ·exact c
     ·rw[GU.mpr (by exact c)] at hx;cases hx
    have ex:z=.str (bW i):=by
     rcases Bp hi with rfl|rfl|rfl|rfl|rfl|rfl|rfl|rfl<;>exact (Option.some.inj hx).symm
    subst ex;walk_at "rz";refine⟨by decide,λp hp=>?_⟩
    have npD:p≠D:=by rintro rfl;rw[h3] at hp;cases hp
    refine k _ _ (by rw[ae npD.symm];exact h3) ⟨h1,λc o e _=>?_,aa,by rw[Gr,h4];rfl,by omega,λj hj=>?_⟩
    ·have hc:=h2 c o e (by simp)
     rw[ae (ai e h1),ae (ai hc hp)];exact hc
    ·rcases Ho j i with c|c
     ·obtain⟨p',e1,e2⟩:=h6 j c;have n1:p'≠D:=by rintro rfl;rw[h3] at e2;cases e2
      exact⟨p',by rw[Hg (by omega)];exact e1,by rw[ae n1,ae (ai e2 hp)];exact e2⟩
     ·have:j=i:=by omega
      subst this;exact⟨p,by rw[GZ (by omega),h4];simp,by rw[ae npD];exact aa⟩
   ·rintro D ys H' ⟨h1,h2,h3,h4,h5,h6⟩;have hl:(CT.map V.str).length=8:=rfl;rw[hl] at h4 h6;refine⟨D,ys,As.zip (iV (Ao g).bs),rfl,h3,⟨h4,λj k z e=>?_⟩,(show 8<=20000 by decide),λp hp=>?_⟩
    ·have hj:j<8:=by
      rcases Ho j 8 with c|c
      ·exact c
      ·rw[GU.mpr (by exact c)] at e;cases e
     obtain⟨p,e1,e2⟩:=h6 j hj;refine⟨p,e1,?_⟩;rw[e2];rcases Bp hj with rfl|rfl|rfl|rfl|rfl|rfl|rfl|rfl<;>(cases e;rfl)
    ·have hm:cB [] (As.zip (iV (Ao g).bs))=As.zip (iV (Ao g).bs):=by
      rw[Y.ig _ [] ?_,HC];show (As.map λk=>k).Nodup
      decide +kernel
     rw[hm];have x4:=h2 _ _ x3 (by simp)
     have t4:=h2 _ _ t3 (by simp)
     have d4:=h2 _ _ d3 (by simp)
     have g4:=h2 _ _ g3 (by simp)
     have px:p≠x:=λe=>by rw[e,x4] at hp;cases hp
     have pt:p≠tl:=λe=>by rw[e,t4] at hp;cases hp
     have pd:p≠dx:=λe=>by rw[e,d4] at hp;cases hp
     have pg:p≠gv:=λe=>by rw[e,g4] at hp;cases hp
     have hp3:H3 p=none:=h2.free (by simp) hp
     have hp0:H p=none:=k3.free (by simpa using px) hp3
     refine⟨x,C,dx,[("given",.ref gv),("heard",.int 0),("told",.ref tl)],rfl,by rw[ae px.symm];exact x4,cM,na_boxes,(show 3<1000 by decide),?_⟩
     refine q _ tl p htl0 hp0 ⟨aa,by rw[ae ndx,ae pd.symm];exact d4,by rw[ae ngx,ae pg.symm];exact g4,by rw[ae ntl,ae pt.symm];exact t4,by rw[ae px];exact aa,rfl,GF _⟩ ?_
     exact ((k3.trans h2.all).trans (KB.new hp)).trans (KB.set (by simp))
  obtain⟨t,hb,ht⟩:=key;exact⟨t,hb.h,ht⟩
structure BS where
 st:ip
 at_:Int
 rd:Int
noncomputable def BC(cd:List (List (List Nat)))(z:List Nat)(p:Int):Option (bD×Nat):=(jh cd z p).map λx=>(tX x,x.2)
noncomputable def dj(z:List Nat)(c:BS)(x:bD×Nat):BS:=⟨(carry c.st x.1).2,place c.st x.1 (x.2:Nat) (z.length:Nat),c.rd+(x.2:Nat)-c.at_⟩
noncomputable def dv(cd:List (List (List Nat)))(z:List Nat):Nat->BS->BS
 |0,c=>c
 |n+1,c=>match BC cd z c.at_ with
  |none=>c
  |some x=>dv cd z n (dj z c x)
noncomputable def jR(cd:List (List (List Nat)))(z:List Nat)(c:BS):Str:=if c.at_=(z.length:Nat) then "halt" else match BC cd z c.at_ with
 |none=>"bad"
 |some _=>"more"
noncomputable def CO(g:List Int):BS:=⟨Ao g,0,0⟩
noncomputable def p_(H:Hp)(v:V)(cd:List (List (List Nat)))(z:List Nat)(c:BS):Prop:=∃t p1 p2,v=.ref t/\H t=some (.tup [.str (jR cd z c),.ref p1,.int c.rd,.ref p2])/\H p1=some (.tup (iV c.st.told))/\H p2=some (.tup (iV c.st.bs))
theorem qJ(st:ip)(r:bD):(carry st r).2.told.length<=st.told.length+1:=by
 have hh:(cA st).2.told=st.told:=by unfold cA;split<;>rfl
 cases r with
 |put b n=>exact HA _
 |two u a b=>exact HA _
 |one u b =>
  rcases mM u with rfl|rfl
  ·show (st.told++[d5 st.bs b]).length<=_;rw[Gr];exact Gs _
  ·show (cA st).2.told.length<=_;rw[hh];exact HA _
 |jump g=>exact HA _
 |zero b g=>exact HA _
 |halt=>exact HA _
theorem fo{cd:List (List (List Nat))}{n:Nat}{c:BS}(h:jh cd z c.at_=none):dv cd z n c=c:=by
 cases n with
 |zero=>rfl
 |succ k=>rw[dv];unfold BC;rw[h];rfl
theorem jx{cd:List (List (List Nat))}{n:Nat}{c:BS}{y:RW×Nat}(h:jh cd z c.at_=some y):dv cd z (n+1) c=dv cd z n (dj z c (tX y,y.2)):=by
 rw[dv];unfold BC;rw[h];rfl
theorem Cu{m:Str}{a:MA}{h:Nat}(h1:m≠"given")(h2:m≠"heard")(h3:m≠"told")(h4:m≠"boxes"):(wQ a h).lookup m=none:=by
 unfold wQ;rw[Hi,G_.mpr h1,Hi,G_.mpr h2,Hi,G_.mpr h3,Hi,G_.mpr h4];rfl
theorem MS.kb{a:MA}{st:ip}(M:MS K C H a st)(k:KB [] H H'):MS K C H' a st:=⟨k _ _ M.om (by simp),k _ _ M.od (by simp),k _ _ M.og (by simp),k _ _ M.ot (by simp),k _ _ M.ob (by simp),M.l8,M.hh⟩
noncomputable def uU(K:LA):Sp:=λvs H Q _=>∃(b gv:Addr) (bk:List (List Int)) (z:List Nat) (g:List Int) (most:Nat),vs=[.str (wd z),.ref b,.ref gv,.int (most:Nat)]/\qY H b bk/\H gv=some (.tup (iV g))/\Bk bk/\xD (fI bk)/\dy z/\z.length<=1000000/\most<=10000/\∀v H',KB [] H H'->p_ H' v (fI bk) z (dv (fI bk) z most (CO g))->Q v H'
theorem zE(T:Txt K mg)(hgoal_of:aq P w K mg base bf 1 "goal_of" ["row"] lN)(hcodes_of:aq P w K mg base bf 6 "codes_of" ["book"] (q_ K))(hrow_at:aq P w K mg base bf 5 "row_at" ["codes","bits","place"] (rC K))(F:HasFn K mg "run_bits" fk ["bits","book","given","most"]):aq P w K mg base bf 7 "run_bits" ["bits","book","given","most"] (uU K):=by
 obtain⟨C_Machine,f___init__,f_place_next,f_carry_out,f_number_for,f_heard_number,f_told_numbers,f_box_numbers,d___init__,d_place_next,d_carry_out,d_number_for,d_heard_number,d_told_numbers,d_box_numbers,hC_Machine,cM,na_given,na_heard,na_told,na_boxes,mm___init__,FM___init__,bm___init__,mm_place_next,FM_place_next,bm_place_next,mm_carry_out,FM_carry_out,bm_carry_out,mm_number_for,FM_number_for,bm_number_for,mm_heard_number,FM_heard_number,bm_heard_number,mm_told_numbers,FM_told_numbers,bm_told_numbers,mm_box_numbers,FM_box_numbers,bm_box_numbers⟩:=T.mc;have FO_heard_number:=xl (P:=P) (w:=w) (mg:=mg) (base:=base) T cM na_given na_heard FM_heard_number;have FO_number_for:=AO (P:=P) (w:=w) (mg:=mg) (base:=base) T cM na_boxes mm_heard_number bm_heard_number FO_heard_number FM_number_for;have FO_carry_out:=uE (P:=P) (w:=w) (mg:=mg) (base:=base) T cM na_boxes na_told mm_number_for bm_number_for FO_number_for FM_carry_out;have FO_place_next:=uC T hgoal_of cM mm_carry_out bm_carry_out FO_carry_out FM_place_next;have FO_told_numbers:=xQ (P:=P) (w:=w) (mg:=mg) (base:=base) T cM na_told FM_told_numbers;have FO_box_numbers:=xr (P:=P) (w:=w) (mg:=mg) (base:=base) T cM na_boxes FM_box_numbers;have FO___init__:=zt (P:=P) (w:=w) (mg:=mg) (base:=base) T cM na_given na_heard na_told na_boxes FM___init__;refine F.fQ aY (λvs H Q E h=>?_) (λf cdv A outer s H vs Q E hr h=>?_)
 ·obtain⟨b,gv,bk,z,g,most,rfl,_⟩:=h;rfl
 ·obtain⟨bb,gv,bk,z,g,most,rfl,hbk,og,hBk,hR,hb,hz,hmo,q⟩:=h;have hu:=aZ hr;refine⟨_,(Z.ag (Z.set (i:=4) aY.nd rfl (by right) (Z.fn hcodes_of (hr.mono (by decide)) rfl au (Z.cons (Z.v 1) Z.nil)))
   (Z.ag (Z.set (i:=5) aY.nd rfl (by right) (Z.make K rfl mm___init__ FO___init__ (hr.mono (by decide)) rfl hC_Machine bm___init__ au (Z.cons (Z.v 2) Z.nil)))
   (Z.ag (Z.set (i:=6) aY.nd rfl (by right) Z.int)
   (Z.ag (Z.set (i:=7) aY.nd rfl (by right) Z.int)
   (Z.ag (Z.set (i:=8) aY.nd rfl (by right) Z.int)
   (Z.ag (Z.set (i:=9) aY.nd rfl (by right) (Z.fn hrow_at (hr.mono (by decide)) rfl au (Z.cons (Z.v 4) (Z.cons (Z.v 0) (Z.cons (Z.v 8) Z.nil)))))
   (Z.ag (Z.oK GQ (Z.tw (Z.tV (Z.aR yV (Z.v 9) Z.aQ) (Z.kP (Z.aR i3 (Z.v 7) (Z.v 3))))) (Z.ag (Z.set (i:=6) aY.nd rfl (by right) (Z.op bO (Z.op (Z.aP K rfl) (Z.v 6) (Z.ix (Z.ax K rfl hu) (Z.v 9) Z.int)) (Z.v 8)))
   (Z.ag (Z.set (i:=7) aY.nd rfl (by right) (Z.op (Z.aP K rfl) (Z.v 7) Z.int))
   (Z.ag (Z.set (i:=8) aY.nd rfl (by right) (Z.Cz K rfl (Z.v 5) cM mm_place_next FO_place_next (hr.mono (by decide)) bm_place_next au (Z.cons (Z.ix (Z.ax K rfl hu) (Z.v 9) Z.int) (Z.cons (Z.ix (Z.ax K rfl hu) (Z.v 9) Z.int) (Z.cons (Z.cb (Z.bK K rfl) rfl T.bB (by decide +kernel) (Z.cons (Z.v 0) Z.nil)) Z.nil)))))
   (Z.ar (Z.set (i:=9) aY.nd rfl (by right) (Z.fn hrow_at (hr.mono (by decide)) rfl au (Z.cons (Z.v 4) (Z.cons (Z.v 0) (Z.cons (Z.v 8) Z.nil))))))))))
   (Z.ag (Z.cu (Z.aR aO (Z.v 8) (Z.cb (Z.bK K rfl) rfl T.bB (by decide +kernel) (Z.cons (Z.v 0) Z.nil))) (Z.ar (Z.set (i:=10) aY.nd rfl (by right) Z.str)) (Z.ar (Z.set (i:=10) aY.nd rfl (by right) (Z.Ek (Z.aR cG (Z.v 9) Z.aQ) Z.str Z.str))))
   (Z.ar (Z.ret (Z.tup (Z.cons (Z.v 10) (Z.cons (Z.vS K rfl (Z.v 5) cM mm_told_numbers FO_told_numbers (hr.mono (by decide)) bm_told_numbers au) (Z.cons (Z.v 6) (Z.cons (Z.vS K rfl (Z.v 5) cM mm_box_numbers FO_box_numbers (hr.mono (by decide)) bm_box_numbers au) Z.nil))))))))))))))),?_⟩
  refine ao λN hN=>?_;walk_at "rz";refine⟨bb,bk,rfl,hbk,hBk,λca H1 hca k1 rc=>?_⟩;rw[hN];clear hN N;generalize gz:fI bk=cd at *;have og1:=k1 _ _ og (by simp)
  refine ao λN hN=>?_;walk_at "rz";intro x dx hx0 hdx0 hxd;have gx:gv≠x:=λzz=>by rw[zz,hx0] at og1;cases og1
  have gd:gv≠dx:=λzz=>by rw[zz,hdx0] at og1;cases og1
  refine⟨x,dx,gv,g,rfl,aa,by rw[ae hxd];exact aa,by rw[ae gx,ae gd];exact og1,λH2 tl bx htl hbx M2 kb2=>⟨rfl,?_⟩⟩
  have k12:KB [] H1 H2:=λc o e _=>kb2 c o (by rw[ae (ai e hx0),ae (ai e hdx0)];exact e) (by simpa using ai e hx0)
  obtain⟨a,ea⟩:∃a:MA,a=⟨x,dx,gv,tl,bx⟩:=⟨_,rfl⟩;have em:x=a.m:=by rw[ea]
  rw[<- ea] at M2;rw[em];have new:∀b,b∈MF a->H1 b=none:=λb hb=>by
   have un:∀{c:Addr},upd (upd H1 dx (HO.own x)) x (HO.ins C_Machine dx []) c=none->H1 c=none:=λ{c} e=>by
    by_cases c1:c=x
    ·rw[c1];exact hx0
    ·rw[ae c1] at e;by_cases c2:c=dx
     ·rw[c2];exact hdx0
     ·rw[ae c2] at e;exact e
   rw[ea] at hb;simp only[MF,Gv,GG,Hj] at hb;rcases hb with rfl|rfl|rfl
   ·exact hx0
   ·exact un htl
   ·exact un hbx
  have Dt:∀{G:Hp} {st:ip},MS K C_Machine G a st->∀b,b∈MF a->∃o,G b=some o:=λM b hb=>by
   simp only[MF,Gv,GG,Hj] at hb;rcases hb with rfl|rfl|rfl
   ·exact⟨_,M.om⟩
   ·exact⟨_,M.ot⟩
   ·exact⟨_,M.ob⟩
  have ntp:∀{G:Hp} {st:ip},MS K C_Machine G a st->∀b∈MF a,∀xs,G b≠some (.tup xs):=λM b hb xs e=>by
   simp only[MF,Gv,GG,Hj] at hb;rcases hb with rfl|rfl|rfl
   ·rw[M.om] at e;cases e
   ·rw[M.ot] at e;cases e
   ·rw[M.ob] at e;cases e
  have nca:ca∉MF a:=λz=>by
   obtain⟨_,_,_,e,_⟩:=rc;rw[new ca z] at e;cases e
  have rc2:tY H2 ca cd:=rc.kb k12;have old2:KB [] H H2:=k1.trans k12;have keepH:∀{G G':Hp},KB [] H G->KB (MF a) G G'->KB [] H G':=λo k c u e _=>k _ _ (o _ _ e (by simp)) λzz=>by
   have:=k1 _ _ e (by simp)
   rw[new c zz] at this;cases this
  clear hx0 hdx0 hxd gx gd htl hbx kb2 rc k12 og1 hca em;rw[hN];clear hN N;refine ao λN hN=>?_;walk_at "rz";rw[hN];clear hN N;refine ao λN hN=>?_;walk_at "rz";rw[hN];clear hN N;refine ao λN hN=>?_;walk_at "rz";rw[hN];clear hN N;refine ao λN hN=>?_;walk_at "rz";refine⟨ca,cd,z,0,rfl,rc2,hR,hb,hz,λv H3 k3 r3=>?_⟩;rw[hN];clear hN N;obtain⟨R,eR⟩:∃R,R=dv cd z most (CO g):=⟨_,rfl⟩;rw[<- eR] at q;refine ao λN hN=>?_;refine⟨λm σ H'=>∃(n:Nat) (c:BS) (v:V),n<=most/\m=most-n/\R=dv cd z (most-n) c/\c.st.told.length<=n/\MS K C_Machine H' a c.st/\KB [] H H'/\tY H' ca cd/\Dg H' v (jh cd z c.at_)/\σ=[some (V.str (wd z)),some (.ref bb),some (V.ref gv),some (V.int (most:Nat)),some (V.ref ca),some (V.ref a.m),some (V.int c.rd),some (V.int (n:Nat)),some (V.int c.at_),some v,none],⟨most,0,CO g,v,GF _,rfl,eR,GF _,M2.kb k3,old2.trans k3,rc2.kb k3,r3,rfl⟩,?_⟩;clear M2 rc2 r3 k3 old2 v;rintro m σ H4 ⟨n,c,v,hn,rfl,hrun,htl,M4,old4,rc4,r4,rfl⟩;have lz:(wd z).length<=sizeLine:=by rw[ay];exact Gw hz (by decide)
  have fin:R=c->N [some (V.str (wd z)),some (.ref bb),some (V.ref gv),some (V.int (most:Nat)),some (V.ref ca),some (V.ref a.m),some (V.int c.rd),some (V.int (n:Nat)),some (V.int c.at_),some v,none] H4:=λhc=>by
   rw[hN];clear hN N;subst hc;refine ao λN hN=>?_;have ret:N [some (V.str (wd z)),some (.ref bb),some (V.ref gv),some (V.int (most:Nat)),some (V.ref ca),some (V.ref a.m),some (V.int R.rd),some (V.int (n:Nat)),some (V.int R.at_),some v,some (V.str (jR cd z R))] H4:=by
    rw[hN];clear hN N;walk_at "rz";refine⟨a.m,a.dx,_,rfl,M4.om,Cu (by decide +kernel) (by decide +kernel) (by decide +kernel) (by decide +kernel),a,R.st,rfl,M4,λp1 hp1=>?_⟩
    have k5:KB [] H4 (upd H4 p1 (.tup (iV R.st.told))):=KB.new hp1;have t5:upd H4 p1 (.tup (iV R.st.told)) p1=some (.tup (iV R.st.told)):=aa;generalize upd H4 p1 (.tup (iV R.st.told))=H5 at *;have M5:=M4.kb k5;refine⟨a.m,a.dx,_,rfl,M5.om,Cu (by decide +kernel) (by decide +kernel) (by decide +kernel) (by decide +kernel),a,R.st,rfl,M5,λp2 H6 hp2 t6 k6=>?_⟩
    refine⟨by decide,λp3 hp3=>?_⟩
    have o6:KB [] H H6:=old4.trans (k5.trans k6);have up:∀{b:Addr} {o:HO},H6 b=some o->upd H6 p3 (.tup [V.str (jR cd z R),V.ref p1,V.int R.rd,V.ref p2]) b=some o:=λe=>by rw[ae (ai e hp3)];exact e
    exact q _ _ (o6.trans (KB.new hp3)) ⟨p3,p1,p2,rfl,aa,up (k6 _ _ t5 (by simp)),up t6⟩
   walk_at "rz";refine⟨lz,?_⟩;rw[ay];unfold jR BC at ret;by_cases c1:R.at_=(z.length:Nat)
   ·rw[Gp c1] at ret ⊢;exact ret
   ·rw[Gn c1] at ret ⊢
    cases hx:jh cd z R.at_ with
    |none =>
     rw[hx] at r4 ret;obtain rfl:v=.aQ:=r4;rw[Gp rfl];exact ret
    |some y =>
     rw[hx] at r4 ret;obtain⟨fa,_,rfl,_⟩:=r4;rw[Gn (show ¬ V.ref fa=V.aQ from λzz=>nomatch zz)];exact ret
  walk_at "rz"
  cases hx:jh cd z c.at_ with
  |none =>
   rw[hx] at r4;obtain rfl:v=.aQ:=r4;rw[Gn (by simp)]
   exact fin (by rw[hrun];exact fo hx)
  |some y =>
   rw[hx] at r4;obtain⟨fa,ra,rfl,o4,ora⟩:=r4;rw[Gp (show ¬ V.ref fa=V.aQ from λzz=>nomatch zz)];by_cases c2:((n:Nat):Int)<(most:Nat)
   ·rw[Gp c2];obtain⟨p,hp,hpx⟩:∃p:Nat,c.at_=p/\AX cd z p=some y:=by
     unfold jh at hx;by_cases c3:c.at_<0
     ·rw[Gp c3] at hx;cases hx
     ·rw[Gn c3] at hx;exact⟨c.at_.toNat,by lia,hx⟩
    obtain⟨mok,mt,_,_,_⟩:=C3 hR hpx;rw[mt] at ora;have s4:=aG o4;have nx:dv cd z (most-n) c=dv cd z (most-(n+1)) (dj z c (tX y,y.2)):=by
     rw[show most-n=(most-(n+1))+1 by lia]
     exact jx hx
    refine⟨λσ' H'=>∃m',m'<most-n/\∃n c v,n<=most/\m'=most-n/\R=dv cd z (most-n) c/\c.st.told.length<=n/\MS K C_Machine H' a c.st/\KB [] H H'/\tY H' ca cd/\Dg H' v (jh cd z c.at_)/\σ'=[some (V.str (wd z)),some (.ref bb),some (V.ref gv),some (V.int (most:Nat)),some (V.ref ca),some (V.ref a.m),some (V.int c.rd),some (V.int (n:Nat)),some (V.int c.at_),some v,none],λ_ _ h=>h,?_⟩;simp only[L2.Ap.fu,s4,yb,L2.Ap.An,L2.Ap.sZ];refine⟨a.m,a.dx,_,rfl,M4.om,Cu (by decide +kernel) (by decide +kernel) (by decide +kernel) (by decide +kernel),?_⟩
    simp only[L2.Ap.fu,s4,Bg,yb];refine⟨lz,a,c.st,ra,tX y,(y.2:Nat),_,rfl,M4,ora,mok,by lia,λH5 M5 k5=>?_⟩
    have rc5:=rc4.keep k5 nca (ntp M4);have old5:=keepH old4 k5;refine⟨ca,cd,z,_,rfl,rc5,hR,hb,hz,λv6 H6 k6 r6=>?_⟩;have tle:=qJ c.st (tX y);rw[ay] at r6;refine⟨most-(n+1),by lia,n+1,dj z c (tX y,y.2),v6,by lia,rfl,hrun.trans nx,?_,M5.kb k6,old5.trans k6,rc5.kb k6,r6,?_⟩
    ·show (carry c.st (tX y)).2.told.length<=n+1;lia
    ·rw[ay];rfl
   ·rw[Gn c2];refine fin ?_;rw[hrun,show most-n=0 by lia];rfl
noncomputable def Fl:bD->Bool
 |.put _ _=>true
 |.two _ _ _=>true
 |.one _ _=>true
 |_=>false
structure LS (H:Hp) (s b g t:Addr) (st:ip):Prop where
 os:H s=some (.lst [.ref b,.ref g,.ref t])
 ob:H b=some (.lst (iV st.bs))
 og:H g=some (.lst (iV (st.given.drop st.heard)))
 ot:H t=some (.lst (iV st.told))
 bs:b≠s
 gs:g≠s
 ts:t≠s
 bg:b≠g
 bt:b≠t
 gt:g≠t
theorem LS.kb{s b g t:Addr}{st:ip}(h:LS H s b g t st)(k:KB [] H H'):LS H' s b g t st:=⟨k _ _ h.os (by simp),k _ _ h.ob (by simp),k _ _ h.og (by simp),k _ _ h.ot (by simp),h.bs,h.gs,h.ts,h.bg,h.bt,h.gt⟩
noncomputable def wH:Sp:=λvs H Q _=>∃(s b g t ra:Addr) (r:bD) (st:ip),vs=[.ref s,.ref ra]/\LS H s b g t st/\H ra=some (.tup r.vs)/\r.Ok/\Fl r=true/\st.bs.length=8/\st.told.length<100000/\st.given.length<=100000/\st.heard<=st.given.length /\
 ∀H',LS H' s b g t (carry st r).2->KB [b,g,t] H H'->Q .aQ H'
theorem qy{bs:List Int}{b:Nat}(h8:bs.length=8)(hb:b<8):bX (iV bs) ((b:Nat):Int)=some (.int (d5 bs b)):=by
 refine bI ?_;unfold iV d5;rw[G8,Gm (show b<bs.length by lia)]
 rfl
theorem wm{bs:List Int}{b:Nat}(h8:bs.length=8)(hb:b<8):lM (iV bs).length ((b:Nat):Int)=some b:=by
 rw[bR,jc (by lia) (by lia)];simp
theorem Fm{a b:Str}(h:a≠b):(Sum.inr a:Key)≠Sum.inr b:=λe=>h (Sum.inr.inj e)
theorem zx(u:_root_.Fin 3)(x y z:V):cR (cB [] [(.inr (Str.ofString "add"),x),(.inr (Str.ofString "sub"),y),(.inr (Str.ofString "copy"),z)]) (.inr (w2 u))=some (match u with|0=>x|1=>y|2=>z):=by
 have e:cB [] [((.inr (Str.ofString "add"):Key),x),(.inr (Str.ofString "sub"),y),(.inr (Str.ofString "copy"),z)]=[(.inr (Str.ofString "add"),x),(.inr (Str.ofString "sub"),y),(.inr (Str.ofString "copy"),z)]:=by
  rw[Y.ig _ [] ?_,HC];show ([(.inr (Str.ofString "add"):Key),.inr (Str.ofString "sub"),.inr (Str.ofString "copy")]).Nodup
  decide +kernel
 rw[e];rcases yu u with rfl|rfl|rfl
 ·exact bH rfl
 ·exact (bF (Fm (by decide +kernel))).trans (bH rfl)
 ·exact (bF (Fm (by decide +kernel))).trans ((bF (Fm (by decide +kernel))).trans (bH rfl))
theorem ym(T:Txt K mg)(F:HasFn K mg "_law_done" dY ["state","row"]):aq P w K mg base bf 1 "_law_done" ["state","row"] wH:=by
 refine F.fQ cw (λvs H Q E h=>?_) (λf cdv A outer s0 H vs Q E hr h=>?_)
 ·obtain⟨s,b,g,t,ra,r,st,rfl,_⟩:=h;rfl
 ·have hu:=aZ hr;obtain⟨s,b,g,t,ra,r,st,rfl,L,hra,aX,hdo,h8,htl,hgl,hhl,q⟩:=h;refine⟨_,(Z.ag (Z.asg (Z.v 0) ⟨Y.zA (n:=3) rfl (Z.cH (Z.bo (i:=2) cw.nd rfl (by right)) (Z.cH (Z.bo (i:=3) cw.nd rfl (by right)) (Z.cH (Z.bo (i:=4) cw.nd rfl (by right)) Z.jn))).h⟩)
   (Z.ag (Z.set (i:=5) cw.nd rfl (by right) (Z.bm K rfl PySem.F.plainAttrs_str PySem.F.slot_str_index PySem.F.type_str_index Y.fJ Z.str (Z.cons (Z.ix (Z.ax K rfl hu) (Z.v 1) Z.int) Z.nil)))
   (Z.ag (Z.cu (Z.aR aO (Z.ix (Z.ax K rfl hu) (Z.v 1) Z.int) Z.str) (Z.ar (Z.asg (Z.ix (Z.ax K rfl hu) (Z.v 1) Z.int) (Z.lH (Z.v 2) (Z.v 5)))) Z.bj)
   (Z.ag (Z.cu (Z.aR (Z.yH K rfl hu) (Z.ix (Z.ax K rfl hu) (Z.v 1) Z.int) (Z.tup (Z.consts rfl))) (Z.ag (Z.set (i:=6) cw.nd rfl (by right) (Z.ix (Z.ax K rfl hu) (Z.v 2) (Z.bm K rfl PySem.F.plainAttrs_str PySem.F.slot_str_index PySem.F.type_str_index Y.fJ Z.str (Z.cons (Z.ix (Z.ax K rfl hu) (Z.v 1) Z.int) Z.nil))))
   (Z.ar (Z.asg (Z.op bY (Z.oM hu (Z.Fy (Z.wu (Z.op (Z.aP K rfl) (Z.ix (Z.ax K rfl hu) (Z.v 2) (Z.v 5)) (Z.v 6)) (Z.wu (Z.op bO (Z.ix (Z.ax K rfl hu) (Z.v 2) (Z.v 5)) (Z.v 6)) (Z.wu (Z.v 6) Z.Fs)))) (Z.ix (Z.ax K rfl hu) (Z.v 1) Z.int)) Z.int) (Z.lH (Z.v 2) (Z.v 5))))) Z.bj)
   (Z.ag (Z.cu (Z.aR aO (Z.ix (Z.ax K rfl hu) (Z.v 1) Z.int) Z.str) (Z.ar (Z.expr (Z.bm K rfl PySem.F.plainAttrs_list PySem.F.slot_list_append PySem.F.type_list_append cK (Z.v 4) (Z.cons (Z.ix (Z.ax K rfl hu) (Z.v 2) (Z.v 5)) Z.nil)))) Z.bj)
   (Z.ar (Z.cu (Z.aR aO (Z.ix (Z.ax K rfl hu) (Z.v 1) Z.int) Z.str) (Z.ag (Z.asg (Z.op bY (Z.ix (Z.ax K rfl hu) (Z.op (Z.aP K rfl) (Z.v 3) (Z.lst (Z.cons Z.int Z.nil))) Z.int) Z.int) (Z.lH (Z.v 2) (Z.v 5)))
   (Z.ar (Z.cu (Z.aR (Y.B3 K rfl (Nat.lt_of_succ_lt hu)) (Z.v 3) (Z.lst Z.nil)) (Z.ar (Z.expr (Z.bm K rfl PySem.F.plainAttrs_list PySem.F.slot_list_pop PySem.F.type_list_pop nR (Z.v 3) (Z.cons Z.int Z.nil)))) Z.bj))) Z.bj))))))),?_⟩
  refine ao λN hN=>?_;refine⟨_,rfl,s,_,rfl,.inr (bZ.of L.os),rfl,_,_,rfl,_,_,rfl,_,_,rfl,rfl,?_⟩;show N [some (.ref s),some (.ref ra),some (.ref b),some (.ref g),some (.ref t),none,none] H;rw[hN];clear hN N;have sr:=aG hra;have setb:∀(x:Int) (i:Nat),LS (upd H b (.lst (iV (st.bs.set i x)))) s b g t {st with bs:=st.bs.set i x}:=λx i=>⟨by rw[ae L.bs.symm];exact L.os,aa,by rw[ae L.bg.symm];exact L.og,by rw[ae L.bt.symm];exact L.ot,L.bs,L.gs,L.ts,L.bg,L.bt,L.gt⟩
  have kb:∀(o:HO),KB [b,g,t] H (upd H b o):=λo=>KB.set (by simp)
  have rne:∀{x:Addr} {xs:List V},H x=some (.lst xs)->ra≠x:=λe z=>by rw[z,e] at hra;cases hra
  cases r with
  |jump g=>cases hdo
  |zero b g=>cases hdo
  |halt=>cases hdo
  |put i n =>
   have hi:i<8:=aX;have a0:bX (bD.put i n).vs 0=some (.str "put"):=rfl;have a1:bX (bD.put i n).vs 1=some (.str (bW i)):=rfl;have a2:bX (bD.put i n).vs 2=some (.int (n:Nat)):=rfl;refine ao λN hN=>?_;exists sr,a1;refine⟨rfl,_,_,i,[],rfl,rfl,rX hi,?_⟩;rw[hN];clear hN N;refine ao λN hN=>?_;exists sr,a0,a2,L.ob,wm h8 hi,lA;have L1:=setb (n:Nat) i;have k1:=kb (.lst (iV (st.bs.set i (n:Nat))));have hr1:upd H b (.lst (iV (st.bs.set i (n:Nat)))) ra=_:=(ae (rne L.ob)).trans hra;generalize upd H b (.lst (iV (st.bs.set i (n:Nat))))=H1 at *;have s1:=aG hr1;rw[hN];clear hN N;refine ao λN hN=>?_;exists s1,a0,(by decide +kernel:jV (.str "put") [.str "add",.str "sub",.str "copy"]=false)
   refine⟨by decide,λt0 ht0=>⟨rfl,rfl,?_⟩⟩
   have k2:KB [] H1 (upd H1 t0 (.tup [.str "add",.str "sub",.str "copy"])):=KB.new ht0;generalize upd H1 t0 (.tup [.str "add",.str "sub",.str "copy"])=H2 at *;have s2:=aG (k2 _ _ hr1 (by simp))
   rw[hN];clear hN N;refine ao λN hN=>?_;exists s2,a0,Gn (by decide +kernel:¬ ("put":Str)="tell")
   rw[hN];clear hN N;exists s2,a0,Gn (by decide +kernel:¬ ("put":Str)="hear")
   exact q H2 (L1.kb k2) (k1.trans k2.all)
  |two u i j =>
   obtain⟨hi,hj⟩:=aX;have a0:bX (bD.two u i j).vs 0=some (.str (w2 u)):=rfl;have a1:bX (bD.two u i j).vs 1=some (.str (bW i)):=rfl;have a2:bX (bD.two u i j).vs 2=some (.str (bW j)):=rfl;refine ao λN hN=>?_;exists sr,a1;refine⟨rfl,_,_,i,[],rfl,rfl,rX hi,?_⟩;rw[hN];clear hN N;refine ao λN hN=>?_;exists sr,a0,Gn ((show ∀u,w2 u≠"put" by decide +kernel) u)
   rw[hN];clear hN N;refine ao λN hN=>?_;refine la λA B hA hB=>?_;exists sr,a0,((show ∀u,jV (.str (w2 u)) [.str "add",.str "sub",.str "copy"]=true by decide +kernel) u)
   refine⟨by decide,λt0 ht0=>⟨rfl,rfl,?_⟩⟩
   have k2:KB [] H (upd H t0 (.tup [.str "add",.str "sub",.str "copy"])):=KB.new ht0;generalize upd H t0 (.tup [.str "add",.str "sub",.str "copy"])=H2 at *;have L2':=L.kb k2;have hr2:=k2 _ _ hra (by simp)
   rw[hA];clear hA hB A B;refine ao λM hM=>?_;exists aG hr2,a2;refine⟨rfl,_,_,j,[],rfl,rfl,rX hj,?_⟩;exists aF L2'.ob,qy h8 hj;rw[hM];clear hM M;walk_at "rz";intro d hd;have k3:KB [] H2 (upd H2 d (.dK [])):=KB.new hd;have s3:upd H2 d (.dK []) d=_:=aa;generalize upd H2 d (.dK [])=H3 at *;have L3:=L2'.kb k3;exists aF L3.ob,qy h8 hi;refine⟨s3,[(.inr (Str.ofString "add"),.int (d5 st.bs i+d5 st.bs j)),(.inr (Str.ofString "sub"),.int (d5 st.bs i-d5 st.bs j)),(.inr (Str.ofString "copy"),.int (d5 st.bs j))],rfl,(show 3<=15 by decide),?_⟩
   have d3:∀{x:Addr} {o:HO},H2 x=some o->x≠d:=λe z=>by rw[z,hd] at e;cases e
   have kd:KB [] H2 (upd H3 d (.dK (cB [] [(.inr (Str.ofString "add"),.int (d5 st.bs i+d5 st.bs j)),(.inr (Str.ofString "sub"),.int (d5 st.bs i-d5 st.bs j)),(.inr (Str.ofString "copy"),.int (d5 st.bs j))]))):=λc o e _=>by rw[ae (d3 e)];exact k3 _ _ e (by simp)
   have s4:upd H3 d (.dK (cB [] [(.inr (Str.ofString "add"),.int (d5 st.bs i+d5 st.bs j)),(.inr (Str.ofString "sub"),.int (d5 st.bs i-d5 st.bs j)),(.inr (Str.ofString "copy"),.int (d5 st.bs j))])) d=_:=aa;generalize upd H3 d (.dK (cB [] [(.inr (Str.ofString "add"),.int (d5 st.bs i+d5 st.bs j)),(.inr (Str.ofString "sub"),.int (d5 st.bs i-d5 st.bs j)),(.inr (Str.ofString "copy"),.int (d5 st.bs j))]))=H4 at *;have k4:=k2.trans kd;have L4:=L.kb k4;have hr4:=k4 _ _ hra (by simp)
   exists aG hr4,a0;generalize hv:(match u with|0=>d5 st.bs i+d5 st.bs j|1=>d5 st.bs i-d5 st.bs j|2=>d5 st.bs j)=v
   have hlk:fZ H4 d (.str (w2 u)) (some (.int v)):=by
    have:=fZ.k (k:=.inr (w2 u)) s4;rw[zx] at this;rw[<- hv];rcases yu u with rfl|rfl|rfl<;>exact this
   refine⟨d,_,rfl,hlk,?_⟩;exists L4.ob,wm h8 hi,lA;refine⟨by decide,?_⟩
   have L5:LS (upd H4 b (.lst (iV (st.bs.set i (v % 65536))))) s b g t {st with bs:=st.bs.set i (v % 65536)}:=⟨by rw[ae L.bs.symm];exact L4.os,aa,by rw[ae L.bg.symm];exact L4.og,by rw[ae L.bt.symm];exact L4.ot,L.bs,L.gs,L.ts,L.bg,L.bt,L.gt⟩
   have k5:KB [b,g,t] H (upd H4 b (.lst (iV (st.bs.set i (v % 65536))))):=k4.all.trans (KB.set (by simp))
   have hr5:upd H4 b (.lst (iV (st.bs.set i (v % 65536)))) ra=_:=(ae (rne L.ob)).trans hr4;generalize upd H4 b (.lst (iV (st.bs.set i (v % 65536))))=H5 at *;rw[hN];clear hN N;refine ao λN hN=>?_;exists aG hr5,a0,Gn ((show ∀u,¬ w2 u="tell" by decide +kernel) u)
   rw[hN];clear hN N;exists aG hr5,a0,Gn ((show ∀u,¬ w2 u="hear" by decide +kernel) u)
   refine q H5 ?_ k5;have e:(carry st (.two u i j)).2={st with bs:=st.bs.set i (v % 65536)}:=by
    rw[<- hv];rcases yu u with rfl|rfl|rfl<;>rfl
   rw[e];exact L5
  |one u i =>
   have hi:i<8:=aX;have a0:bX (bD.one u i).vs 0=some (.str (w1 u)):=rfl;have a1:bX (bD.one u i).vs 1=some (.str (bW i)):=rfl;refine ao λN hN=>?_;exists sr,a1;refine⟨rfl,_,_,i,[],rfl,rfl,rX hi,?_⟩;rw[hN];clear hN N;refine ao λN hN=>?_;exists sr,a0,Gn ((show ∀u,w1 u≠"put" by decide +kernel) u)
   rw[hN];clear hN N;refine ao λN hN=>?_;exists sr,a0,((show ∀u,jV (.str (w1 u)) [.str "add",.str "sub",.str "copy"]=false by decide +kernel) u)
   refine⟨by decide,λt0 ht0=>⟨rfl,rfl,?_⟩⟩
   have k2:KB [] H (upd H t0 (.tup [.str "add",.str "sub",.str "copy"])):=KB.new ht0;generalize upd H t0 (.tup [.str "add",.str "sub",.str "copy"])=H2 at *;have L2':=L.kb k2;have hr2:=k2 _ _ hra (by simp)
   rw[hN];clear hN N;refine ao λN hN=>?_;rcases mM u with rfl|rfl
   ·exists aG hr2,a0,Gp (show w1 0="tell" from rfl),aF L2'.ob,qy h8 hi;refine⟨.inl ⟨rfl,_,bZ.of L2'.ot⟩,t,_,_,rfl,rfl,L2'.ot,GI (show _<200000 by rw[bR];lia) oX,?_⟩
    have e9:iV st.told++[V.int (d5 st.bs i)]=iV (st.told++[d5 st.bs i]):=(lg st.told [_]).symm;rw[e9];have L3:LS (upd H2 t (.lst (iV (st.told++[d5 st.bs i])))) s b g t {st with told:=st.told++[d5 st.bs i]}:=⟨by rw[ae L.ts.symm];exact L2'.os,by rw[ae L.bt];exact L2'.ob,by rw[ae L.gt];exact L2'.og,aa,L.bs,L.gs,L.ts,L.bg,L.bt,L.gt⟩
    have k3:KB [b,g,t] H (upd H2 t (.lst (iV (st.told++[d5 st.bs i])))):=k2.all.trans (KB.set (by simp))
    have hr3:upd H2 t (.lst (iV (st.told++[d5 st.bs i]))) ra=_:=(ae (rne L.ot)).trans hr2;generalize upd H2 t (.lst (iV (st.told++[d5 st.bs i])))=H3 at *;rw[hN];clear hN N;exists aG hr3,a0,Gn (by decide +kernel:¬ w1 0="hear")
    exact q H3 L3 k3
   ·exists aG hr2,a0,Gn (by decide +kernel:¬ w1 1="tell")
    rw[hN];clear hN N;refine la λA B hA hB=>?_;exists aG hr2,a0,Gp (show w1 1="hear" from rfl);rw[hA];clear hA hB A B;refine ao λN hN=>?_;have hr8:(st.given.drop st.heard).length<=100000:=by rw[Hd];lia
    walk_at "rz";refine⟨by decide,λz0 hz0=>?_⟩
    have k3:KB [] H2 (upd H2 z0 (.lst [.int 0])):=KB.new hz0;have s3:upd H2 z0 (.lst [.int 0]) z0=_:=aa;generalize upd H2 z0 (.lst [.int 0])=H3 at *;have L3:=L2'.kb k3;exists L3.og,s3;refine⟨Gw (show _<=200000 by rw[bR];show _+1<=_;lia) oX,λc0 hc0=>?_⟩
    have k4:KB [] H3 (upd H3 c0 (.lst (iV (st.given.drop st.heard)++[.int 0]))):=KB.new hc0;generalize upd H3 c0 (.lst (iV (st.given.drop st.heard)++[.int 0]))=H4 at *;have L4:=L3.kb k4;have k04:=k2.trans (k3.trans k4);have hr4:=k04 _ _ hra (by simp)
    obtain⟨x,ex,e2⟩:∃x:Int,bX (iV (st.given.drop st.heard)++[.int 0]) 0=some (.int x)/\((carry st (.one 1 i)).2={(cA st).2 with bs:=st.bs.set i (x % 65536)}/\((st.given.drop st.heard=[]/\(cA st).2=st)\/∃rest,st.given.drop st.heard=x::rest/\(cA st).2={st with heard:=st.heard+1}/\st.given.drop (st.heard+1)=rest)):=by
     cases er:st.given.drop st.heard with
     |nil =>
      have h9:st.given[st.heard]?=none:=GU.mpr (List.drop_eq_nil_iff.mp er);have e3:cA st=(0,st):=by unfold cA;rw[h9]
      refine⟨0,rfl,?_,.inl ⟨rfl,by rw[e3]⟩⟩
      unfold carry bQ;rw[e3]
     |cons x rest =>
      have h9:st.given[st.heard]?=some x:=by
       have:=Hm (λl:List Int=>l[0]?) er
       simpa using this
      have e3:cA st=(x,{st with heard:=st.heard+1}):=by unfold cA;rw[h9]
      refine⟨x,Bg (V.int x) (iV rest++[V.int 0]),?_,.inr ⟨rest,rfl,by rw[e3],by rw[<- List.drop_drop,er];rfl⟩⟩
      unfold carry bQ;rw[e3]
    obtain⟨e2,e3⟩:=e2;exists ex,L4.ob,wm h8 hi,lA;refine⟨by decide,?_⟩
    have L5:LS (upd H4 b (.lst (iV (st.bs.set i (x % 65536))))) s b g t {st with bs:=st.bs.set i (x % 65536)}:=⟨by rw[ae L.bs.symm];exact L4.os,aa,by rw[ae L.bg.symm];exact L4.og,by rw[ae L.bt.symm];exact L4.ot,L.bs,L.gs,L.ts,L.bg,L.bt,L.gt⟩
    have k5:KB [b,g,t] H (upd H4 b (.lst (iV (st.bs.set i (x % 65536))))):=k04.all.trans (KB.set (by simp))
    generalize upd H4 b (.lst (iV (st.bs.set i (x % 65536))))=H5 at *;rw[hN];clear hN N;refine jU λN hN=>?_;refine la λA B hA hB=>?_;walk_at "rz";refine⟨by decide,λe0 he0=>?_⟩
    have k6:KB [] H5 (upd H5 e0 (.lst [])):=KB.new he0;have s6:upd H5 e0 (.lst []) e0=_:=aa;generalize upd H5 e0 (.lst [])=H6 at *;have L6:=L5.kb k6;have L6g:H6 g=some (.lst (iV (st.given.drop st.heard))):=L6.og;refine⟨g,e0,_,rfl,rfl,bZ.of L6g,bZ.of s6,_,rfl,?_⟩;rcases e3 with ⟨er,eh⟩|⟨rest,er,eh,ed⟩
    ·rw[Gn (by rw[er];decide),hB]
     show N _ _;rw[hN];refine q H6 ?_ (k5.trans k6.all);rw[e2,eh];exact L6
    ·rw[Gp (by rw[er];rfl),hA]
     walk_at "rz";rw[er] at L6g;refine⟨.inl ⟨rfl,_,bZ.of L6g⟩,g,_,0,0,.int x,rfl,rfl,L6g,by decide,by decide,by unfold seqIndex?;rw[Gp (by simp[iV])];rfl,rfl,?_⟩
     rw[hN];refine q _ ?_ ((k5.trans k6.all).trans (KB.set (by simp)))
     rw[e2,eh];refine⟨by rw[ae L.gs.symm];exact L6.os,by rw[ae L.bg];exact L6.ob,?_,by rw[ae L.gt.symm];exact L6.ot,L.bs,L.gs,L.ts,L.bg,L.bt,L.gt⟩
     rw[aa,ed];rfl
noncomputable def rn:Sp:=λvs H Q _=>∃(p dq:Addr) (n:Nat),vs=[.ref p]/\b7 H p dq n/\n<2^38/\∀(g:List Int) (a:Addr) H',g.length<=40->H' a=some (.tup (iV g))->b7 H' p dq (n+100)->KB [p,dq] H H'->Q (.ref a) H'
theorem wF(T:Txt K mg)(F:HasFn K mg "_law_given" d8 ["deck"])(h_law_draw:aq P w K mg base bf 2 "_law_draw" ["deck","most"] eC):aq P w K mg base bf 3 "_law_given" ["deck"] rn:=by
 refine F.fQ dh (λvs H Q E h=>?_) (λf cdv A outer s H vs Q E hr h=>?_)
 ·obtain⟨p,dq,n,rfl,_⟩:=h;rfl
 ·have hu:=aZ hr;obtain⟨p,dq,n,rfl,hd,hn,q⟩:=h;refine⟨_,(Z.ag (Z.set (i:=1) dh.nd rfl (by right) (Z.lst Z.nil))
   (Z.ag (Z.eS GQ rfl (Z.nF rfl T.cY (Z.cons (Z.fn h_law_draw (hr.mono (by decide)) rfl au (Z.cons (Z.v 0) (Z.cons (Z.ix (Z.ax K rfl hu) (Z.lst (Z.consts rfl)) (Z.ct iw rfl T.ki (by decide +kernel) (Z.cons (Z.cmp aO (Z.fn h_law_draw (hr.mono (by decide)) rfl au (Z.cons (Z.v 0) (Z.cons Z.int Z.nil))) Z.int) Z.nil))) Z.nil))) Z.nil)) (Z.bo (i:=2) dh.nd rfl (by right)) (Z.ag (Z.set (i:=3) dh.nd rfl (by right) (Z.fn h_law_draw (hr.mono (by decide)) rfl au (Z.cons (Z.v 0) (Z.cons (Z.op pB Z.int Z.int) Z.nil))))
   (Z.ar (Z.expr (Z.bm K rfl PySem.F.plainAttrs_list PySem.F.slot_list_append PySem.F.type_list_append cK (Z.v 1) (Z.cons (Z.ix (Z.ax K rfl hu) (Z.lst (Z.cons (Z.op bY (Z.v 3) Z.int) (Z.cons (Z.op bY (Z.v 3) Z.int) (Z.cons (Z.v 3) (Z.cons (Z.op bO Z.int (Z.v 3)) (Z.cons (Z.op (Z.aP K rfl) (Z.op bN (Z.v 3) (Z.op pB Z.int Z.int)) Z.int) Z.nil)))))) (Z.fn h_law_draw (hr.mono (by decide)) rfl au (Z.cons (Z.v 0) (Z.cons Z.int Z.nil)))) Z.nil))))))
   (Z.ar (Z.ret (Z.ct (Z.cX K rfl) rfl T.cF (by decide +kernel) (Z.cons (Z.v 1) Z.nil)))))),?_⟩
  refine ao λN hN=>?_;walk_at "rz";refine⟨by decide,λfd hfd=>?_⟩
  have k1:KB [] H (upd H fd (.lst [])):=KB.new hfd;have s1:upd H fd (.lst []) fd=some (.lst (iV [])):=aa;generalize upd H fd (.lst [])=H1 at *;have nf:=hd.new hfd;have fp:p≠fd:=λz=>nf (by simp[z])
  have fq:dq≠fd:=λz=>nf (by simp[z])
  rw[hN];clear hN N;refine ao λN hN=>?_;walk_at "rz";refine⟨by decide,λl hl=>?_⟩
  have k2:KB [] H1 (upd H1 l (.lst [.int 4,.int 41])):=KB.new hl;have s2:upd H1 l (.lst [.int 4,.int 41]) l=_:=aa;generalize upd H1 l (.lst [.int 4,.int 41])=H2 at *;have D2:=hd.kb (k1.trans k2);have nl:=(hd.kb k1).new hl;refine⟨p,dq,6,n,rfl,D2,by lia,by decide,by decide,λv1 H3 hv1 D3 k3=>?_⟩
  obtain⟨m,hm,em⟩:∃m:Int,(0<m/\m<=41)/\bX [V.int 4,.int 41] (if (v1:Int)=0 then 1 else 0)=some (.int m):=by
   by_cases c:(v1:Int)=0
   ·rw[Gp c];exact⟨41,by decide,rfl⟩
   ·rw[Gn c];exact⟨4,by decide,rfl⟩
  exists aF (k3 _ _ s2 nl),em;refine⟨p,dq,m,_,rfl,D3,by lia,hm.1,by lia,λv2 H4 hv2 D4 k4=>?_⟩
  have hk4:KB [p,dq] H H4:=k1.all.trans (k2.all.trans (k3.trans k4));have g4:=k4 _ _ (k3 _ _ (k2 _ _ s1 (by simp)) nf) nf
  walk_at "rz";refine⟨by lia,by lia,?_⟩
  rw[Hb];refine cm (λi σ H'=>∃(g:List Int) (o2 o3:Option V),g.length=i/\b7 H' p dq (n+2+2*i)/\KB [p,dq] H H'/\H' fd=some (.lst (iV g))/\σ=[some (.ref p),some (.ref fd),o2,o3]) ⟨[],none,none,rfl,D4,hk4,g4,rfl⟩ ?_ ?_
  ·rintro i σ H' hi ⟨g,o2,o3,hg,hD,hk,gf,rfl⟩;generalize (0:Int)+((i:Nat):Int)=kI;unfold bq;refine ao λM hM=>?_;walk_at "rz";have cp:sO 10 7:=by unfold sO;decide
   have cp9:sO 10 9:=by unfold sO;decide
   refine⟨cp,p,dq,10000000,_,rfl,hD,by lia,by decide,by decide,λu1 H5 hu1 D5 k5=>?_⟩
   have hk5:=hk.trans k5;have gf5:=k5 _ _ gf nf;rw[hM];clear hM M;dsimp only;refine jU λM hM=>?_;walk_at "rz";refine⟨.inl ⟨rfl,_,bZ.of gf5⟩,by decide,by decide,cp9,.inl ⟨by lia,by lia⟩,by decide,λl6 hl6=>?_⟩
   have D6:=D5.kb (KB.new (o:=.lst [.int ((u1:Int) % 3),.int ((u1:Int) % 65537),.int (u1:Int),.int (0-(u1:Int)),.int ((u1:Int)*10^(9:Int).toNat+7)]) hl6);have k6:KB [] H5 (upd H5 l6 (.lst [.int ((u1:Int) % 3),.int ((u1:Int) % 65537),.int (u1:Int),.int (0-(u1:Int)),.int ((u1:Int)*10^(9:Int).toNat+7)])):=KB.new hl6;have s6:upd H5 l6 (.lst [.int ((u1:Int) % 3),.int ((u1:Int) % 65537),.int (u1:Int),.int (0-(u1:Int)),.int ((u1:Int)*10^(9:Int).toNat+7)]) l6=_:=aa;generalize upd H5 l6 (.lst [.int ((u1:Int) % 3),.int ((u1:Int) % 65537),.int (u1:Int),.int (0-(u1:Int)),.int ((u1:Int)*10^(9:Int).toNat+7)])=H6 at *;refine⟨p,dq,5,_,rfl,D6,by lia,by decide,by decide,λu2 H7 hu2 D7 k7=>?_⟩
   obtain⟨x,ex⟩:∃x:Int,bX [V.int ((u1:Int) % 3),.int ((u1:Int) % 65537),.int (u1:Int),.int (0-(u1:Int)),.int ((u1:Int)*10^(9:Int).toNat+7)] (u2:Int)=some (.int x):=by
    rcases (show u2=0\/u2=1\/u2=2\/u2=3\/u2=4 by lia) with rfl|rfl|rfl|rfl|rfl<;>exact⟨_,rfl⟩
   have n6:=D5.new hl6;have gf7:=k7 _ _ (k6 _ _ gf5 (by simp)) nf
   exists aF (k7 _ _ s6 n6),ex;refine⟨fd,_,_,rfl,rfl,gf7,HU (show _<=1000 by rw[bR];lia) (by decide),?_⟩
   rw[hM];exact⟨g++[x],some _,some _,by rw[Gr,hg];rfl,(D7.keep (KB.set (ex:=[fd]) (by simp)) (by simpa using fp) (by simpa using fq)).mono (by lia),λb o e z=>by rw[ae (ai e hfd)];exact (hk5.trans (k6.all.trans k7)) b o e z,by rw[aa,lg];rfl,rfl⟩
  ·rintro σ H' ⟨g,o2,o3,hg,hD,hk,gf,rfl⟩;show N _ _;rw[hN];clear hN N;exists aF gf;exactλa ha=>q g a _ (by lia) aa ((hD.kb (KB.new ha)).mono (by lia)) (hk.trans (KB.new ha))
theorem kY{cd:List (List (List Nat))}{p:Int}{y:RW×Nat}(hR:xD cd)(h:jh cd z p=some y):∃n:Nat,p=n/\n<z.length/\AX cd z n=some y:=by
 unfold jh at h;by_cases c:p<0
 ·rw[Gp c] at h;cases h
 ·rw[Gn c] at h;obtain⟨_,_,_,h1,h2⟩:=C3 hR h;exact⟨p.toNat,by lia,by lia,h⟩
theorem y4{x y:Str}{σ:L2.St}{Q:Bool->Hp->Prop}(h:σ[i]?=some (some (.str x)))(q:Q (decide (x=y)) H):iF (tZ A0 (pO i) (tC (.str y))) σ H Q:=⟨_,h,(L2.Ap.xO x y H λx H'=>∃k,x=V.bl k/\Q k H').mpr ⟨_,rfl,q⟩⟩
theorem xN{st:ip}(h:st.bs.length=8)(r:bD):(carry st r).2.bs.length=8:=by
 have hh:(cA st).2.bs=st.bs:=by unfold cA;split<;>rfl
 cases r with
 |put b n=>exact (HB ..).trans h
 |two u a b=>exact (HB ..).trans h
 |one u b =>
  rcases mM u with rfl|rfl
  ·exact h
  ·show ((cA st).2.bs.set b _).length=8;rw[HB,hh];exact h
 |jump g=>exact h
 |zero b g=>exact h
 |halt=>exact h
theorem za{st:ip}{g:List Int}(h1:st.given=g)(h2:st.heard<=g.length)(r:bD):(carry st r).2.given=g/\(carry st r).2.heard<=g.length:=by
 have hh:(cA st).2.given=g/\(cA st).2.heard<=g.length:=by
  unfold cA;split
  ·rename_i x e;have:=(Gq.mp e).1;exact⟨h1,by show st.heard+1<=_;rw[<- h1];exact this⟩
  ·exact⟨h1,h2⟩
 cases r with
 |put b n=>exact⟨h1,h2⟩
 |two u a b=>exact⟨h1,h2⟩
 |one u b =>
  rcases mM u with rfl|rfl
  ·exact⟨h1,h2⟩
  ·exact hh
 |jump g=>exact⟨h1,h2⟩
 |zero b g=>exact⟨h1,h2⟩
 |halt=>exact⟨h1,h2⟩
noncomputable def uH(K:LA):Sp:=λvs H Q _=>∃(b gv:Addr) (bk:List (List Int)) (z:List Nat) (g:List Int) (most:Nat),vs=[.str (wd z),.ref b,.ref gv,.int (most:Nat)]/\qY H b bk/\H gv=some (.tup (iV g))/\Bk bk/\FA (fI bk)/\dy z/\z.length<=1000000/\most<=10000/\g.length<=10000/\∀l v (k:Nat) H',KB [] H H'->H' l=some (.lst [v,.int (k:Nat)])->k<=most->p_ H' v (fI bk) z (dv (fI bk) z most (CO g))->Q (.ref l) H'
theorem zT(T:Txt K mg)(h_law_tables:aq P w K mg base bf 3 "_law_tables" ["book"] (nA K))(h_law_row_at:aq P w K mg base bf 3 "_law_row_at" ["tables","bits","at"] (wX K))(h_law_done:aq P w K mg base bf 1 "_law_done" ["state","row"] wH)(F:HasFn K mg "_law_run" fb ["bits","book","given","most"]):aq P w K mg base bf 4 "_law_run" ["bits","book","given","most"] (uH K):=by
 refine F.fQ aN (λvs H Q E h=>?_) (λf cdv A outer s0 H vs Q E hr h=>?_)
 ·obtain⟨b,gv,bk,z,g,most,rfl,_⟩:=h;rfl
 ·have hu:=aZ hr;obtain⟨bb,gv,bk,z,g,most,rfl,hbk,hgv,hBk,hR,hb,hz,hmo,hgl,q⟩:=h;refine⟨_,(Z.ag (Z.set (i:=4) aN.nd rfl (by right) (Z.fn h_law_tables (hr.mono (by decide)) rfl au (Z.cons (Z.v 1) Z.nil)))
   (Z.ag (Z.set (i:=5) aN.nd rfl (by right) (Z.lst (Z.cons (Z.op bN (Z.lst (Z.cons Z.int Z.nil)) Z.int) (Z.cons (Z.ct (Z.Bl K rfl) rfl T.vw (by decide +kernel) (Z.cons (Z.v 2) Z.nil)) (Z.cons (Z.lst Z.nil) Z.nil)))))
   (Z.ag (Z.set (i:=6) aN.nd rfl (by right) Z.int)
   (Z.ag (Z.set (i:=7) aN.nd rfl (by right) Z.int)
   (Z.ag (Z.set (i:=8) aN.nd rfl (by right) Z.int)
   (Z.ag (Z.set (i:=9) aN.nd rfl (by right) Z.str)
   (Z.ag (Z.oK GQ (Z.aR aO (Z.v 9) Z.str) (Z.ag (Z.set (i:=10) aN.nd rfl (by right) Z.aQ)
   (Z.ag (Z.cu (Z.BP (Aq) (i3) Z.int (Z.v 6) (Z.cb (Z.bK K rfl) rfl T.bB (by decide +kernel) (Z.cons (Z.v 0) Z.nil))) (Z.ar (Z.set (i:=10) aN.nd rfl (by right) (Z.fn h_law_row_at (hr.mono (by decide)) rfl au (Z.cons (Z.v 4) (Z.cons (Z.v 0) (Z.cons (Z.v 6) Z.nil)))))) Z.bj)
   (Z.ar (Z.cu (Z.aR aO (Z.v 6) (Z.cb (Z.bK K rfl) rfl T.bB (by decide +kernel) (Z.cons (Z.v 0) Z.nil))) (Z.ar (Z.set (i:=9) aN.nd rfl (by right) Z.str)) (Z.ar (Z.cu (Z.aR cG (Z.v 10) Z.aQ) (Z.ar (Z.set (i:=9) aN.nd rfl (by right) Z.str)) (Z.ar (Z.cu (Z.aR aO (Z.v 8) (Z.v 3)) (Z.ar (Z.set (i:=9) aN.nd rfl (by right) Z.str)) (Z.ag (Z.asg (Z.v 10) (Z.tm (n:=2) K rfl rfl (Z.cH (Z.bo (i:=11) aN.nd rfl (by right)) (Z.cH (Z.bo (i:=12) aN.nd rfl (by right)) Z.jn))))
   (Z.ag (Z.set (i:=8) aN.nd rfl (by right) (Z.op (Z.aP K rfl) (Z.v 8) Z.int))
   (Z.ag (Z.set (i:=7) aN.nd rfl (by right) (Z.op bO (Z.op (Z.aP K rfl) (Z.v 7) (Z.v 12)) (Z.v 6)))
   (Z.ag (Z.set (i:=6) aN.nd rfl (by right) (Z.v 12))
   (Z.ar (Z.cu (Z.aR aO (Z.ix (Z.ax K rfl hu) (Z.v 11) Z.int) Z.str) (Z.ar (Z.set (i:=9) aN.nd rfl (by right) Z.str)) (Z.ar (Z.cu (Z.tw (Z.ER (Z.aR aO (Z.ix (Z.ax K rfl hu) (Z.v 11) Z.int) Z.str) (Z.yN (Z.tw (Z.tV (Z.aR aO (Z.ix (Z.ax K rfl hu) (Z.v 11) Z.int) Z.str) (Z.kP (Z.aR aO (Z.ix (Z.ax K rfl hu) (Z.ix (Z.ax K rfl hu) (Z.v 5) Z.int) (Z.bm K rfl PySem.F.plainAttrs_str PySem.F.slot_str_index PySem.F.type_str_index Y.fJ Z.str (Z.cons (Z.ix (Z.ax K rfl hu) (Z.v 11) Z.int) Z.nil))) Z.int))))))) (Z.ar (Z.set (i:=6) aN.nd rfl (by right) (Z.op (Z.aP K rfl) (Z.v 12) (Z.ix (Z.ax K rfl hu) (Z.v 11) (Z.un k_ Z.int))))) (Z.ar (Z.cu (Z.aR jG (Z.ix (Z.ax K rfl hu) (Z.v 11) Z.int) Z.str) (Z.ar (Z.expr (Z.fn h_law_done (hr.mono (by decide)) rfl au (Z.cons (Z.v 5) (Z.cons (Z.v 11) Z.nil))))) Z.bj)))))))))))))))))))
   (Z.ar (Z.ret (Z.lst (Z.cons (Z.tup (Z.cons (Z.v 9) (Z.cons (Z.ct (Z.cX K rfl) rfl T.cF (by decide +kernel) (Z.cons (Z.ix (Z.ax K rfl hu) (Z.v 5) Z.int) Z.nil)) (Z.cons (Z.v 7) (Z.cons (Z.ct (Z.cX K rfl) rfl T.cF (by decide +kernel) (Z.cons (Z.ix (Z.ax K rfl hu) (Z.v 5) Z.int) Z.nil)) Z.nil))))) (Z.cons (Z.v 8) Z.nil)))))))))))),?_⟩
  refine ao λN hN=>?_;walk_at "rz";refine⟨bb,bk,rfl,hbk,hBk,hR.pf,λta H1 ta0 k1 T1=>?_⟩;rw[hN];clear hN N;generalize fI bk=cd at *;refine ao λN hN=>?_;walk_at "rz";refine⟨by decide,λz0 hz0=>?_⟩
  refine⟨z0,8,_,rfl,rfl,aa,by decide,by decide,by decide,λb hb0=>?_⟩
  have k2:KB [] H1 (upd (upd H1 z0 (.lst [.int 0])) b (.lst (List.replicate (8:Int).toNat [V.int 0]).flatten)):=(KB.new hz0).trans (KB.new hb0);have s2:upd (upd H1 z0 (.lst [.int 0])) b (.lst (List.replicate (8:Int).toNat [V.int 0]).flatten) b=some (.lst (iV (Ao g).bs)):=aa;have b1:H1 b=none:=(KB.new (ex:=[]) hz0).free (by simp) hb0
  generalize upd (upd H1 z0 (.lst [.int 0])) b (.lst (List.replicate (8:Int).toNat [V.int 0]).flatten)=H2 at *;have hgv2:=(k1.trans k2) _ _ hgv (by simp)
  refine⟨gv,_,rfl,.inr (b8.of hgv2),λgl hgl0=>?_⟩;have k3:KB [] H2 (upd H2 gl (.lst (iV g))):=KB.new hgl0;have s3:upd H2 gl (.lst (iV g)) gl=some (.lst (iV g)):=aa;generalize upd H2 gl (.lst (iV g))=H3 at *;refine⟨by decide,λtl htl=>?_⟩
  have k4:KB [] H3 (upd H3 tl (.lst [])):=KB.new htl;have s4:upd H3 tl (.lst []) tl=some (.lst (iV (Ao g).told)):=aa;generalize upd H3 tl (.lst [])=H4 at *;refine⟨by decide,λs hs=>?_⟩
  have k5:KB [] H4 (upd H4 s (.lst [.ref b,.ref gl,.ref tl])):=KB.new hs;have s5:upd H4 s (.lst [.ref b,.ref gl,.ref tl]) s=_:=aa;generalize upd H4 s (.lst [.ref b,.ref gl,.ref tl])=H5 at *;have ob4:=(k3.trans k4) _ _ s2 (by simp)
  have og4:=k4 _ _ s3 (by simp)
  have L5:LS H5 s b gl tl (Ao g):=⟨s5,k5 _ _ ob4 (by simp),k5 _ _ og4 (by simp),k5 _ _ s4 (by simp),ai ob4 hs,ai og4 hs,ai s4 hs,ai s2 hgl0,ai (k3 _ _ s2 (by simp)) htl,ai s3 htl⟩
  have k15:KB [] H1 H5:=k2.trans (k3.trans (k4.trans k5));have T5:=T1.keep k15 (by simp) (by simp)
  have n0:∀x∈[b,gl,tl],H1 x=none:=λx hx=>by
   simp only[Gv,GG,Hj] at hx;rcases hx with rfl|rfl|rfl
   ·exact b1
   ·exact k2.free (by simp) hgl0
   ·exact (k2.trans k3).free (by simp) htl
  have nta:ta∉[b,gl,tl]:=λzz=>by
   obtain⟨_,_,_,e,_⟩:=T1;rw[n0 _ zz] at e;cases e
  have keepH:∀{G G':Hp},KB [] H G->KB [b,gl,tl] G G'->KB [] H G':=λo k c u e _=>k _ _ (o _ _ e (by simp)) λzz=>by
   have:=k1 _ _ e (by simp)
   rw[n0 _ zz] at this;cases this
  have keepT:∀{G G':Hp} {st:ip},LS G s b gl tl st->xC G ta cd->KB [b,gl,tl] G G'->xC G' ta cd:=λL t k=>t.keep k nta λx hx kvs e=>by
   simp only[Gv,GG,Hj] at hx;rcases hx with rfl|rfl|rfl
   ·rw[L.ob] at e;cases e
   ·rw[L.og] at e;cases e
   ·rw[L.ot] at e;cases e
  have h05:=k1.trans k15;clear k2 k3 k4 k5 k15 s2 s3 s4 s5 ob4 og4 hs htl hgl0 hz0 hb0 b1 hgv2 T1;rw[hN];clear hN N;refine ao λN hN=>?_;walk_at "rz";rw[hN];clear hN N;refine ao λN hN=>?_;walk_at "rz";rw[hN];clear hN N;refine ao λN hN=>?_;walk_at "rz";rw[hN];clear hN N;refine ao λN hN=>?_;walk_at "rz";rw[hN];clear hN N;have hR':=hR.1;obtain⟨R,eR⟩:∃R,R=dv cd z most (CO g):=⟨_,rfl⟩;rw[<- eR] at q;have lz:(wd z).length<=sizeLine:=by rw[ay];exact Gw hz (by decide)
  refine ao λN hN=>?_;refine⟨λm σ H'=>∃(k:Nat) (c:BS) (how:Str) (o10 o11 o12:Option V),k<=most/\c.st.told.length<=k/\c.st.bs.length=8/\c.st.given=g/\c.st.heard<=g.length/\((how=""/\m=most-k+1/\R=dv cd z (most-k) c)\/(how≠""/\m=0/\how=jR cd z R/\c.st=R.st/\c.rd=R.rd))/\LS H' s b gl tl c.st/\KB [] H H'/\xC H' ta cd/\σ=[some (.str (wd z)),some (.ref bb),some (.ref gv),some (.int (most:Nat)),some (.ref ta),some (.ref s),some (.int c.at_),some (.int c.rd),some (.int (k:Nat)),some (.str how),o10,o11,o12],⟨most+1,0,CO g,"",none,none,none,GF _,GF _,rfl,rfl,GF _,.inl ⟨rfl,rfl,eR⟩,L5,h05,T5,rfl⟩,?_⟩;clear L5 h05 T5;rintro m σ H6 ⟨k,c,how,o10,o11,o12,hk,hto,h8,hgvn,hhd,hW,L6,h06,T6,rfl⟩;rcases hW with ⟨rfl,rfl,hrun⟩|⟨hne,rfl,eh,est,erd⟩
  rotate_left
  ·exists Gn hne;rw[hN];clear hN N;exists aF L6.os,aF L6.ot;intro p1 hp1;have k7:KB [] H6 (upd H6 p1 (.tup (iV c.st.told))):=KB.new hp1;have t7:upd H6 p1 (.tup (iV c.st.told)) p1=_:=aa;generalize upd H6 p1 (.tup (iV c.st.told))=H7 at *;have L7:=L6.kb k7;exists aF L7.os,aF L7.ob;intro p2 hp2;have k8:KB [] H7 (upd H7 p2 (.tup (iV c.st.bs))):=KB.new hp2;have t8:upd H7 p2 (.tup (iV c.st.bs)) p2=_:=aa;generalize upd H7 p2 (.tup (iV c.st.bs))=H8 at *;refine⟨by decide,λp3 hp3=>?_⟩
   have k9:KB [] H8 (upd H8 p3 (.tup [.str how,.ref p1,.int c.rd,.ref p2])):=KB.new hp3;have t9:upd H8 p3 (.tup [.str how,.ref p1,.int c.rd,.ref p2]) p3=_:=aa;generalize upd H8 p3 (.tup [.str how,.ref p1,.int c.rd,.ref p2])=H9 at *;refine⟨by decide,λl hl=>?_⟩
   have kx:KB [] H9 (upd H9 l (.lst [.ref p3,.int (k:Nat)])):=KB.new hl;refine q l _ k _ (h06.trans (k7.trans (k8.trans (k9.trans kx)))) aa hk ⟨p3,p1,p2,rfl,?_,?_,?_⟩
   ·rw[<- eh,<- erd];exact kx _ _ t9 (by simp)
   ·rw[<- est];exact (k8.trans (k9.trans kx)) _ _ t7 (by simp)
   ·rw[<- est];exact (k9.trans kx) _ _ t8 (by simp)
  refine y4 (x:=Str.ofString "") rfl ?_;rw[Gp (GX rfl)];refine⟨_,λ_ _ h=>h,?_⟩;refine jU λM hM=>?_;have stop:∀(how:Str) (k':Nat) (c':BS) (G:Hp) (o10 o11 o12:Option V),k'<=most->how≠""->how=jR cd z R->c'.st=R.st->c'.rd=R.rd->c'.st.told.length<=k'->c'.st.bs.length=8->c'.st.given=g->c'.st.heard<=g.length->LS G s b gl tl c'.st->KB [] H G->xC G ta cd->M [some (.str (wd z)),some (.ref bb),some (.ref gv),some (.int (most:Nat)),some (.ref ta),some (.ref s),some (.int c'.at_),some (.int c'.rd),some (.int (k':Nat)),some (.str how),o10,o11,o12] G:=λhow k' c' G o10 o11 o12 h1 h2 h3 h4 h5 h6 h7 h8 h9 h10 h11 h12=>by
   rw[hM];exact⟨0,Nat.succ_pos _,k',c',how,o10,o11,o12,h1,h6,h7,h8,h9,.inr ⟨h2,rfl,h3,h4,h5⟩,h10,h11,h12,rfl⟩
  have go:∀(c':BS) (G:Hp) (o10 o11 o12:Option V),k<most->R=dv cd z (most-(k+1)) c'->c'.st.told.length<=k+1->c'.st.bs.length=8->c'.st.given=g->c'.st.heard<=g.length->LS G s b gl tl c'.st->KB [] H G->xC G ta cd->M [some (.str (wd z)),some (.ref bb),some (.ref gv),some (.int (most:Nat)),some (.ref ta),some (.ref s),some (.int c'.at_),some (.int c'.rd),some (.int ((k+1:Nat):Int)),some (.str ""),o10,o11,o12] G:=λc' G o10 o11 o12 h1 h2 h6 h7 h8 h9 h10 h11 h12=>by
   rw[hM];exact⟨most-(k+1)+1,by lia,k+1,c',"",o10,o11,o12,h1,h6,h7,h8,h9,.inl ⟨rfl,rfl,h2⟩,h10,h11,h12,rfl⟩
  clear hM hN;refine ao λN1 hN1=>?_;walk_at "rz";rw[hN1];clear hN1 N1;refine ao λN2 hN2=>?_;have next:∀(v:V) (G:Hp),KB [] H6 G->zh G v (jh cd z c.at_)->N2 [some (.str (wd z)),some (.ref bb),some (.ref gv),some (.int (most:Nat)),some (.ref ta),some (.ref s),some (.int c.at_),some (.int c.rd),some (.int (k:Nat)),some (.str ""),some v,o11,o12] G:=λv G kG o=>by
   rw[hN2];clear hN2 N2;have LG:=L6.kb kG;have h0G:=h06.trans kG;have TG:=T6.keep kG (by simp) (by simp)
   dsimp only;refine la λA B hA hB=>?_;walk_at "rz";refine⟨lz,?_⟩;rw[ay];by_cases c1:c.at_=(z.length:Nat)
   ·have hx:jh cd z c.at_=none:=by
     cases hx:jh cd z c.at_ with
     |none=>rfl
     |some y=>obtain⟨n,e,hn,_⟩:=kY hR' hx;lia
    have hc:R=c:=by rw[hrun];exact fo hx
    rw[Gp c1,hA];clear hA hB;walk_at "rz";refine stop "halt" k c G _ _ _ hk (by decide +kernel) ?_ (by rw[hc]) (by rw[hc]) hto h8 hgvn hhd LG h0G TG
    rw[hc];unfold jR;rw[Gp c1]
   rw[Gn c1,hB];clear hA hB A B;refine la λA B hA hB=>?_;walk_at "rz"
   cases hx:jh cd z c.at_ with
   |none =>
    rw[hx] at o;obtain rfl:v=.aQ:=o;have hc:R=c:=by rw[hrun];exact fo hx
    rw[Gp rfl,hA];clear hA hB;walk_at "rz";refine stop "bad" k c G _ _ _ hk (by decide +kernel) ?_ (by rw[hc]) (by rw[hc]) hto h8 hgvn hhd LG h0G TG
    rw[hc];unfold jR BC;rw[Gn c1,hx];rfl
   |some y =>
    rw[hx] at o;obtain⟨fa,ra,rfl,ofa,ora⟩:=o;rw[Gn (show ¬ V.ref fa=V.aQ from V.noConfusion),hB];clear hA hB A B;refine la λA B hA hB=>?_;walk_at "rz";by_cases c2:((k:Nat):Int)=(most:Nat)
    ·have hc:R=c:=by rw[hrun,show most-k=0 by lia];rfl
     rw[Gp c2,hA];clear hA hB;walk_at "rz";refine stop "more" k c G _ _ _ hk (by decide +kernel) ?_ (by rw[hc]) (by rw[hc]) hto h8 hgvn hhd LG h0G TG
     rw[hc];unfold jR BC;rw[Gn c1,hx];rfl
    have hkm:k<most:=by lia
    rw[Gn c2,hB];clear hA hB A B;obtain⟨p,hp,hpl,hpx⟩:=kY hR' hx;obtain⟨mok,_,ml,_,_⟩:=C3 hR' hpx;rw[ml] at ora;have nx:R=dv cd z (most-(k+1)) (dj z c (tX y,y.2)):=by
     rw[hrun,show most-k=(most-(k+1))+1 by lia]
     exact jx hx
    clear hx ml hpx hrun;generalize tX y=r at *;generalize y.2=e at *;refine ao λN3 hN3=>?_;refine⟨_,rfl,fa,_,rfl,b8.of ofa,rfl,_,_,rfl,_,_,rfl,rfl,?_⟩;show N3 [some (.str (wd z)),some (.ref bb),some (.ref gv),some (.int (most:Nat)),some (.ref ta),some (.ref s),some (.int c.at_),some (.int c.rd),some (.int (k:Nat)),some (.str ""),some (.ref fa),some (.ref ra),some (.int (e:Nat))] G;rw[hN3];clear hN3 N3;refine ao λN3 hN3=>?_;walk_at "rz";rw[hN3];clear hN3 N3;refine ao λN3 hN3=>?_;walk_at "rz";rw[hN3];clear hN3 N3;refine ao λN3 hN3=>?_;walk_at "rz";rw[hN3];clear hN3 N3;rw[show ((k:Nat):Int)+1=((k+1:Nat):Int) from rfl];have sr:=aG ora;have rdE:c.rd+(e:Nat)-c.at_=(dj z c (r,e)).rd:=rfl;rw[rdE];have tle:=qJ c.st r;have B8:(carry c.st r).2.bs.length=8:=xN h8 r;have BG:(carry c.st r).2.given=g/\(carry c.st r).2.heard<=g.length:=za hgvn hhd r;refine la λA B hA hB=>?_
    cases r with
    |halt =>
     have a0:bX ((bD.halt).rel e).vs 0=some (.str "halt"):=rfl;exists sr,a0;rw[hA];walk_at "rz";have hc:R=dj z c (.halt,e):=by
      rw[nx];refine fo ?_;show jh cd z (z.length:Nat)=none
      cases hx:jh cd z (z.length:Nat) with
      |none=>rfl
      |some y=>obtain⟨n,e,hn,_⟩:=kY hR' hx;lia
     refine stop "halt" (k+1) {dj z c (.halt,e) with at_:=(e:Nat)} G _ _ _ hkm (by decide +kernel) ?_ (by rw[hc]) (by rw[hc]) (by show c.st.told.length<=_;lia) h8 hgvn hhd LG h0G TG
     rw[hc];unfold jR;exact (Gp rfl).symm
    |jump gg =>
     have a0:bX ((bD.jump gg).rel e).vs 0=some (.str "jump"):=rfl;have a9:bX ((bD.jump gg).rel e).vs (-1)=some (.int (gg-e)):=rfl;exists sr,a0,Gn (by decide +kernel:¬ ("jump":Str)="halt")
     rw[hB];clear hA hB A B;refine la λA B hA hB=>?_;exists sr,a0;rw[hA];exists sr,a9;rw[show (e:Int)+(gg-e)=gg by lia]
     exact go (dj z c (.jump gg,e)) G _ _ _ hkm nx (by show c.st.told.length<=_;lia) h8 hgvn hhd LG h0G TG
    |zero bx gg =>
     have hb8:bx<8:=mok;have a0:bX ((bD.zero bx gg).rel e).vs 0=some (.str "zero"):=rfl;have a1:bX ((bD.zero bx gg).rel e).vs 1=some (.str (bW bx)):=rfl;have a9:bX ((bD.zero bx gg).rel e).vs (-1)=some (.int (gg-e)):=rfl;exists sr,a0,Gn (by decide +kernel:¬ ("zero":Str)="halt")
     rw[hB];clear hA hB A B;refine la λA B hA hB=>?_;exists sr,a0,a1,Gn (by decide +kernel:¬ ("zero":Str)="jump"),aF LG.os
     refine⟨rfl,_,_,bx,[],rfl,rfl,rX hb8,?_⟩;exists aF LG.ob,qy h8 hb8;by_cases c3:d5 c.st.bs bx=0
     ·rw[Gp c3,hA];exists sr,a9;rw[show (e:Int)+(gg-e)=gg by lia]
      have ep:(dj z c (.zero bx gg,e)).at_=gg:=by
       show (if (decide (d5 c.st.bs bx=0))=true then gg else _)=gg
       rw[Gp (GX c3)]
      have:=go (dj z c (.zero bx gg,e)) G (some (.ref fa)) (some (.ref ra)) (some (.int (e:Nat))) hkm nx (by show c.st.told.length<=_;lia) h8 hgvn hhd LG h0G TG
      rw[ep] at this;exact this
     ·rw[Gn c3,hB];exists sr,a0;have ep:(dj z c (.zero bx gg,e)).at_=(e:Nat):=by
       show (if (decide (d5 c.st.bs bx=0))=true then gg else _)=_
       rw[Gn (by rw[GH c3];exact Gz)]
      have:=go (dj z c (.zero bx gg,e)) G (some (.ref fa)) (some (.ref ra)) (some (.int (e:Nat))) hkm nx (by show c.st.told.length<=_;lia) h8 hgvn hhd LG h0G TG
      rw[ep] at this;exact this
    |put bx n =>
     have a0:bX ((bD.put bx n).rel e).vs 0=some (.str "put"):=rfl;exists sr,a0,Gn (by decide +kernel:¬ ("put":Str)="halt")
     rw[hB];clear hA hB A B;exists sr,a0,Gn (by decide +kernel:¬ ("put":Str)="jump"),Gn (by decide +kernel:¬ ("put":Str)="zero")
     refine⟨s,b,gl,tl,ra,.put bx n,c.st,rfl,LG,ora,mok,rfl,h8,by lia,by lia,by lia,λH9 L9 k9=>?_⟩
     exact go (dj z c (.put bx n,e)) H9 _ _ _ hkm nx (by show (carry c.st _).2.told.length<=_;lia) B8 BG.1 BG.2 L9 (keepH h0G k9) (keepT LG TG k9)
    |two u bx by' =>
     have a0:bX ((bD.two u bx by').rel e).vs 0=some (.str (w2 u)):=rfl
     exists sr,a0,Gn ((show ∀u,¬ w2 u="halt" by decide +kernel) u)
     rw[hB];clear hA hB A B;exists sr,a0,Gn ((show ∀u,¬ w2 u="jump" by decide +kernel) u),Gn ((show ∀u,¬ w2 u="zero" by decide +kernel) u)
     rw[Gp ((show ∀u,¬ w2 u="zero" by decide +kernel) u)]
     refine⟨s,b,gl,tl,ra,.two u bx by',c.st,rfl,LG,ora,mok,rfl,h8,by lia,by lia,by lia,λH9 L9 k9=>?_⟩
     exact go (dj z c (.two u bx by',e)) H9 _ _ _ hkm nx (by show (carry c.st _).2.told.length<=_;lia) B8 BG.1 BG.2 L9 (keepH h0G k9) (keepT LG TG k9)
    |one u bx =>
     have a0:bX ((bD.one u bx).rel e).vs 0=some (.str (w1 u)):=rfl;exists sr,a0,Gn ((show ∀u,¬ w1 u="halt" by decide +kernel) u)
     rw[hB];clear hA hB A B;exists sr,a0,Gn ((show ∀u,¬ w1 u="jump" by decide +kernel) u),Gn ((show ∀u,¬ w1 u="zero" by decide +kernel) u)
     rw[Gp ((show ∀u,¬ w1 u="zero" by decide +kernel) u)]
     refine⟨s,b,gl,tl,ra,.one u bx,c.st,rfl,LG,ora,mok,rfl,h8,by lia,by lia,by lia,λH9 L9 k9=>?_⟩
     have ep:(dj z c (.one u bx,e)).at_=(e:Nat):=by
      show (if (carry c.st (.one u bx)).1=true then _ else _)=_
      rcases mM u with rfl|rfl<;>rfl
     have:=go (dj z c (.one u bx,e)) H9 (some (.ref fa)) (some (.ref ra)) (some (.int (e:Nat))) hkm nx (by show (carry c.st _).2.told.length<=_;lia) B8 BG.1 BG.2 L9 (keepH h0G k9) (keepT LG TG k9)
     rw[ep] at this;exact this
  clear hN2;refine la λA B hA hB=>?_;walk_at "rz";have no:(jh cd z c.at_=none)->B [some (.str (wd z)),some (.ref bb),some (.ref gv),some (.int (most:Nat)),some (.ref ta),some (.ref s),some (.int c.at_),some (.int c.rd),some (.int (k:Nat)),some (.str ""),some .aQ,o11,o12] H6:=λhx=>by
   rw[hB];exact next .aQ H6 (KB.refl _ _) (by rw[hx];rfl)
  have out:∀{P1:Prop},¬ (0<=c.at_/\c.at_<((wd z).length:Nat))->(jh cd z c.at_=none->P1)->P1:=λh f=>f (by
   cases hx:jh cd z c.at_ with
   |none=>rfl
   |some y=>obtain⟨n,e,hn,_⟩:=kY hR' hx;exact absurd ⟨by lia,by rw[ay];lia⟩ h)
  by_cases d1:0<=c.at_
  ·rw[Gp d1];refine⟨lz,?_⟩;by_cases d2:c.at_<((wd z).length:Nat)
   ·rw[Gp d2,hA];rw[ay] at d2;obtain⟨p,hp⟩:∃p:Nat,c.at_=p:=⟨c.at_.toNat,by lia⟩
    rw[hp] at next d2 ⊢
    walk_at "rz";refine⟨ta,cd,z,p,rfl,T6,hR,hb,hz,by lia,λv G kG o=>?_⟩
    exact next v G kG (by rw[qF];exact o)
   ·rw[Gn d2];exact out (λh=>d2 h.2) no
  ·rw[Gn d1];exact out (λh=>d1 h.1) no
theorem r8{n:Nat}{a b:Addr}(ha:H a=some (.tup (iV xs)))(hb:H b=some (.tup (iV xs))):Sm H (n+1) (.ref a) (.ref b):=.inr ⟨a,b,_,_,rfl,rfl,ha,hb,rfl,λi u v h1 h2=>by
 rw[h1] at h2;cases h2;obtain⟨_,rfl⟩:=j8 h1
 cases n with
 |zero=>exact⟨rfl,.inl ⟨_,rfl⟩⟩
 |succ n=>exact .inl ⟨rfl,.inl ⟨_,rfl⟩⟩⟩
theorem AJ{v w':V}{cd:List (List (List Nat))}{c:BS}(h1:p_ H v cd z c)(h2:p_ H w' cd z c):Sm H 3 v w':=by
 obtain⟨t,p1,p2,rfl,a1,a2,a3⟩:=h1;obtain⟨t',p1',p2',rfl,b1,b2,b3⟩:=h2;refine .inr ⟨t,t',_,_,rfl,rfl,a1,b1,rfl,λi u v e1 e2=>?_⟩;have hi:i<4:=(Gq.mp e1).1;have:i=0\/i=1\/i=2\/i=3:=by lia
 rcases this with rfl|rfl|rfl|rfl
 ·cases e1;cases e2;exact .inl ⟨rfl,.inr ⟨_,rfl⟩⟩
 ·cases e1;cases e2;exact r8 a2 b2
 ·cases e1;cases e2;exact .inl ⟨rfl,.inl ⟨_,rfl⟩⟩
 ·cases e1;cases e2;exact r8 a3 b3
theorem p_.kb{v:V}{cd:List (List (List Nat))}{c:BS}(h:p_ H v cd z c)(k:KB [] H H'):p_ H' v cd z c:=by
 obtain⟨t,p1,p2,e,a1,a2,a3⟩:=h;exact⟨t,p1,p2,e,k _ _ a1 (by simp),k _ _ a2 (by simp),k _ _ a3 (by simp)⟩
theorem Bt(T:Txt K mg)(F:jz K "law" "law" fF f fd)(h_law_deck:aq P w K mg base bf 1 "_law_deck" ["script"] (uz K))(h_law_book:aq P w K mg base bf 4 "_law_book" ["deck"] (uV K))(h_law_raw_rows:aq P w K mg base bf 5 "_law_raw_rows" ["deck","book","most"] (Ab K))(h_law_draw:aq P w K mg base bf 2 "_law_draw" ["deck","most"] eC)(h_law_given:aq P w K mg base bf 3 "_law_given" ["deck"] rn)(hrun_bits:aq P w K mg base bf 7 "run_bits" ["bits","book","given","most"] (uU K))(h_law_run:aq P w K mg base bf 4 "_law_run" ["bits","book","given","most"] (uH K))(h_law_same:aq P w K mg base bf 5 "_law_same" ["found","due"] (ph 3)):cC P w K mg base bf 8 f fd ["script"] (ow K):=by
 refine zC F eV (λvs H Q E h=>?_) (λcdv A outer s H vs Q E hr h=>?_)
 ·obtain⟨a,ns,rfl,_⟩:=h;rfl
 ·obtain⟨a,ns,rfl,hS,hl,q⟩:=h;have hu:=aZ hr;refine⟨_,(Z.ag (Z.set (i:=1) eV.nd rfl (by right) (Z.fn h_law_deck (hr.mono (by decide)) rfl au (Z.cons (Z.v 0) Z.nil)))
   (Z.ag (Z.eS GQ rfl (Z.nF rfl T.cY (Z.cons Z.int Z.nil)) (Z.bo (i:=2) eV.nd rfl (by right)) (Z.ag (Z.set (i:=3) eV.nd rfl (by right) (Z.fn h_law_book (hr.mono (by decide)) rfl au (Z.cons (Z.v 1) Z.nil)))
   (Z.ag (Z.set (i:=4) eV.nd rfl (by right) (Z.fn h_law_raw_rows (hr.mono (by decide)) rfl au (Z.cons (Z.v 1) (Z.cons (Z.v 3) (Z.cons (Z.ix (Z.ax K rfl hu) (Z.lst (Z.consts rfl)) (Z.fn h_law_draw (hr.mono (by decide)) rfl au (Z.cons (Z.v 1) (Z.cons Z.int Z.nil)))) Z.nil)))))
   (Z.ag (Z.cu (Z.aR aO (Z.fn h_law_draw (hr.mono (by decide)) rfl au (Z.cons (Z.v 1) (Z.cons Z.int Z.nil))) Z.int) (Z.ar (Z.set (i:=4) eV.nd rfl (by right) (Z.bm K rfl PySem.F.plainAttrs_str PySem.F.slot_str_join PySem.F.type_str_join (Z.AV K rfl) Z.str (Z.cons (Z.comp (osc:=af fF) (ON:=["script","deck","turn","book","bits","given","most","some"]) (own:=["k"]) (N:=["k","script","deck","turn","book","bits","given","most","some"]) ⟨rfl,by decide +kernel,rfl,by decide +kernel,by decide +kernel,by decide +kernel,by decide +kernel,by decide +kernel⟩ rfl rfl rfl (Z.nF rfl T.cY (Z.cons (Z.fn h_law_draw (hr.mono (by decide)) rfl au (Z.cons (Z.v 1) (Z.cons Z.int Z.nil))) Z.nil)) (λ_ _ _ _=>(Z.bo (i:=0) (show List.Nodup (["k","script","deck","turn","book","bits","given","most","some"]:List Str) by decide +kernel) rfl (by right))) (λ_ _ _ _=>Z.xX) (λ_ _ _ _=>(Z.ix (Z.ax K rfl hu) Z.str (Z.fn h_law_draw (hr.mono (by decide)) rfl au (Z.cons (Z.v 2) (Z.cons Z.int Z.nil)))))) Z.nil)))) Z.bj)
   (Z.ag (Z.set (i:=5) eV.nd rfl (by right) (Z.fn h_law_given (hr.mono (by decide)) rfl au (Z.cons (Z.v 1) Z.nil)))
   (Z.ag (Z.set (i:=6) eV.nd rfl (by right) (Z.fn h_law_draw (hr.mono (by decide)) rfl au (Z.cons (Z.v 1) (Z.cons (Z.ix (Z.ax K rfl hu) (Z.lst (Z.consts rfl)) (Z.ct iw rfl T.ki (by decide +kernel) (Z.cons (Z.cmp aO (Z.fn h_law_draw (hr.mono (by decide)) rfl au (Z.cons (Z.v 1) (Z.cons Z.int Z.nil))) Z.int) Z.nil))) Z.nil))))
   (Z.ar (Z.eS GQ rfl (Z.any K rfl (Z.lst (Z.cons (Z.v 3) (Z.cons (Z.fn h_law_book (hr.mono (by decide)) rfl au (Z.cons (Z.v 1) Z.nil)) (Z.cons (Z.v 3) Z.nil))))) (Z.bo (i:=7) eV.nd rfl (by right)) (Z.ar (Z.cu (Z.yB (Z.ll K rfl (Z.fn h_law_same (hr.mono (by decide)) rfl au (Z.cons (Z.fn hrun_bits (hr.mono (by decide)) rfl au (Z.cons (Z.v 4) (Z.cons (Z.v 7) (Z.cons (Z.v 5) (Z.cons (Z.v 6) Z.nil))))) (Z.cons (Z.ix (Z.ax K rfl hu) (Z.fn h_law_run (hr.mono (by decide)) rfl au (Z.cons (Z.v 4) (Z.cons (Z.v 7) (Z.cons (Z.v 5) (Z.cons (Z.v 6) Z.nil))))) Z.int) Z.nil))))) (Z.ar (Z.ret Z.bl)) Z.bj))))))))))
   (Z.ar (Z.ret Z.bl)))),?_⟩
  refine ao λN hN=>?_;walk_at "rz";refine⟨a,ns,rfl,hS,λp dq H1 D1 k1=>?_⟩;rw[hN];clear hN N;refine ao λN hN=>?_;walk_at "rz";refine⟨by decide,by decide,?_⟩
  refine cm (n:=4) (λi σ H'=>∃s2 s3 s4 s5 s6 s7:Option V,b7 H' p dq (2000*i)/\σ=[some (.ref a),some (.ref p),s2,s3,s4,s5,s6,s7]) ⟨none,none,none,none,none,none,D1,rfl⟩ ?_ ?_
  ·rintro i σ H' hi ⟨s2,s3,s4,s5,s6,s7,hD,rfl⟩;generalize (0:Int)+((i:Nat):Int)=kI;unfold bq;refine ao λM hM=>?_;walk_at "rz";refine⟨p,dq,_,rfl,hD,by lia,λbk b H2 D2 k2 hb hB=>?_⟩
   rw[hM];clear hM M;refine ao λM hM=>?_;walk_at "rz";refine⟨by decide,λl hl=>?_⟩
   have k3:KB [] H2 (upd H2 l (.lst [.int 10,.int 10,.int 10,.int 40])):=KB.new hl;have s3':upd H2 l (.lst [.int 10,.int 10,.int 10,.int 40]) l=_:=aa;generalize upd H2 l (.lst [.int 10,.int 10,.int 10,.int 40])=H3 at *;have nl:=D2.new hl;refine⟨p,dq,4,_,rfl,D2.kb k3,by lia,by decide,by decide,λv1 H4 hv1 D4 k4=>?_⟩
   obtain⟨m,hm,em⟩:∃m:Nat,(0<m/\m<=40)/\bX [V.int 10,.int 10,.int 10,.int 40] (v1:Int)=some (.int (m:Nat)):=by
    rcases (show v1=0\/v1=1\/v1=2\/v1=3 by lia) with rfl|rfl|rfl|rfl
    ·exact⟨10,by decide,rfl⟩
    ·exact⟨10,by decide,rfl⟩
    ·exact⟨10,by decide,rfl⟩
    ·exact⟨40,by decide,rfl⟩
   exists aF (k4 _ _ s3' nl),em;have hb4:=(hb.kb k3).keep k4 (D2.kb k3).nt;refine⟨p,dq,b,bk,m,_,rfl,D4,by lia,hb4,hB,hm.1,hm.2,λz H5 hbz hz D5 k5=>?_⟩
   have hb5:=hb4.keep k5 D4.nt;rw[hM];clear hM M;clear k3 k4 k5 s3' nl hl hb hb4 D2 D4 em k2;refine ao λM hM=>?_;have fin:∀(y:List Nat) (G:Hp),dy y->y.length<=7000->b7 G p dq (2000*i+900)->qY G b bk->M [some (.ref a),some (.ref p),some (.int kI),some (.ref b),some (.str (wd y)),s5,s6,s7] G:=λy G hy hl hd hbG=>by
    rw[hM];clear hM M;refine ao λM hM=>?_;walk_at "rz";refine⟨p,dq,_,rfl,hd,by lia,λg ga H6 hg hga D6 k6=>?_⟩
    have hb6:=hbG.keep k6 hd.nt;rw[hM];clear hM M;refine ao λM hM=>?_;walk_at "rz";refine⟨by decide,λl hl=>?_⟩
    have k7:KB [] H6 (upd H6 l (.lst [.int 61,.int 401])):=KB.new hl;have s7':upd H6 l (.lst [.int 61,.int 401]) l=_:=aa;generalize upd H6 l (.lst [.int 61,.int 401])=H7 at *;have nl:=D6.new hl;refine⟨p,dq,6,_,rfl,D6.kb k7,by lia,by decide,by decide,λv2 H8 hv2 D8 k8=>?_⟩
    obtain⟨x,hx,ex⟩:∃x:Int,(0<x/\x<=401)/\bX [V.int 61,.int 401] (if (v2:Int)=0 then 1 else 0)=some (.int x):=by
     by_cases c:(v2:Int)=0
     ·rw[Gp c];exact⟨401,by decide,rfl⟩
     ·rw[Gn c];exact⟨61,by decide,rfl⟩
    exists aF (k8 _ _ s7' nl),ex;refine⟨p,dq,x,_,rfl,D8,by lia,hx.1,by lia,λmost H9 hmo D9 k9=>?_⟩
    have hb9:=((hb6.kb k7).keep k8 (D6.kb k7).nt).keep k9 D8.nt;have hga9:=D8.tup k9 ((D6.kb k7).tup k8 (k7 _ _ hga (by simp)))
    rw[hM];clear hM M;clear k6 k7 k8 k9 s7' nl hl hb6 hga D6 D8 ex;dsimp only;refine jU λM hM=>?_;walk_at "rz";refine⟨p,dq,_,rfl,D9,by lia,λbk2 b2 H10 D10 k10 hb2 hB2=>?_⟩
    have hb10:=hb9.keep k10 D9.nt;have hga10:=D9.tup k10 hga9;refine⟨by decide,λl hl=>?_⟩
    have k11:KB [] H10 (upd H10 l (.lst [.ref b,.ref b2,.ref b])):=KB.new hl;have s11:upd H10 l (.lst [.ref b,.ref b2,.ref b]) l=_:=aa;generalize upd H10 l (.lst [.ref b,.ref b2,.ref b])=H11 at *;have D11:=D10.kb k11;have hga11:=k11 _ _ hga10 (by simp)
    have bks:∀(j:Nat) (v:V),[V.ref b,.ref b2,.ref b][j]?=some v->∃(c:Addr) (bc:List (List Int)),v=.ref c/\qY H11 c bc/\Bk bc:=λj v e=>by
     have hj:j<3:=(Gq.mp e).1;rcases kE hj with rfl|rfl|rfl
     ·cases e;exact⟨_,_,rfl,hb10.kb k11,hB⟩
     ·cases e;exact⟨_,_,rfl,hb2.kb k11,hB2⟩
     ·cases e;exact⟨_,_,rfl,hb10.kb k11,hB⟩
    try simp only[aF s11]
    refine fU (xs:=[V.ref b,.ref b2,.ref b]) (λj σ G=>∃s7:Option V,KB [] H11 G/\σ=[some (.ref a),some (.ref p),some (.int kI),some (.ref b),some (.str (wd y)),some (.ref ga),some (.int (most:Nat)),s7]) ⟨s7,KB.refl _ _,rfl⟩ (λj σ G _ h=>by obtain⟨_,k,_⟩:=h;exact bZ.of (k _ _ s11 (by simp))) ?_ ?_
    ·rintro j v σ G hv ⟨s7,kG,rfl⟩;obtain⟨c,bc,rfl,hbc,hBc⟩:=bks j v hv;have hRc:=um hBc;have hgG:=kG _ _ hga11 (by simp)
     refine jU λM2 hM2=>?_;refine la λA B hA hB=>?_;walk_at "rz";refine⟨c,ga,bc,y,g,most,rfl,hbc.kb kG,hgG,hBc,hRc.1,hy,by lia,by lia,λv1 G1 kG1 o1=>?_⟩
     refine⟨c,ga,bc,y,g,most,rfl,hbc.kb (kG.trans kG1),kG1 _ _ hgG (by simp),hBc,hRc,hy,by lia,by lia,by lia,λl2 v2 k2 G2 kG2 sl2 _ o2=>?_⟩
     exists aF sl2;refine⟨_,_,rfl,AJ (o1.kb kG2) o2,λG3 kG3=>?_⟩;exists Bool.not_true;rw[Gn (by simp),hB]
     show M2 _ _;rw[hM2];exact⟨some _,kG.trans (kG1.trans (kG2.trans kG3)),rfl⟩
    ·rintro σ G ⟨s7,kG,rfl⟩;show M _ _;rw[hM];exact⟨some _,some _,some _,some _,some _,s7,(D11.kb kG).mono (by lia),rfl⟩
   refine la λA B hA hB=>?_;walk_at "rz";refine⟨p,dq,5,_,rfl,D5,by lia,by decide,by decide,λv2 H6 hv2 D6 k6=>?_⟩
   have hb6:=hb5.keep k6 D5.nt;walk_at "rz";by_cases c:(v2:Int)=0
   ·rw[Gp c,hA];clear hA hB;walk_at "rz";refine⟨rfl,p,dq,101,_,rfl,D6,by lia,by decide,by decide,λv3 H7 hv3 D7 k7=>?_⟩
    have hb7:=hb6.keep k7 D6.nt;walk_at "rz";refine⟨by lia,by lia,?_⟩
    rw[Hb];refine ng (Gw (show v3<=101 by lia) (by decide)) (λL j ys G=>H7 L=none/\G L=some (.lst ys)/\b7 G p dq (2000*i+700+j)/\KB [p,dq] H7 G/\∃cs:List Nat,ys=(cs.map λc=>wd [c]).map V.str/\cs.length=j/\dy cs) (λL hL=>⟨hL,aa,(D7.kb (KB.new hL)).mono (by lia),KB.new hL,[],rfl,rfl,λx hx=>absurd hx GG⟩) (λL j ys G h=>⟨h.2.1,by obtain⟨_,_,_,_,cs,rfl,e,_⟩:=h;rw[Gx,Gx,e]⟩) ?_ ?_
    ·rintro L j ys G R hj ⟨g0,g1,gD,gk,cs,rfl,gl,gb⟩ kk;have nL:=D7.new g0;walk_at "rz";refine⟨p,dq,2,_,rfl,gD,by lia,by decide,by decide,λv4 G2 hv4 D9 k9=>?_⟩
     obtain⟨bb,hb2,eb⟩:∃b:Nat,(b=48\/b=49)/\bX (Str.ofString "01").cps.toList (v4:Int)=some b:=by
      rcases (show v4=0\/v4=1 by lia) with rfl|rfl
      ·exact⟨48,.inl rfl,by decide +kernel⟩
      ·exact⟨49,.inr rfl,by decide +kernel⟩
     exists eb;have pL:p≠L:=λz=>nL (by simp[z])
     have qL:dq≠L:=λz=>nL (by simp[z])
     refine⟨by decide +kernel,kk _ _ (k9 _ _ g1 nL) ⟨g0,aa,(D9.keep (KB.set (ex:=[L]) (by simp)) (by simpa using pL) (by simpa using qL)).mono (by lia),λu o e z=>by rw[ae (ai e g0)];exact k9 _ _ (gk _ _ e z) z,cs++[bb],by rw[GO,GO];rfl,by rw[Gr,gl];rfl,λx hx=>?_⟩⟩
     rcases Hh.mp hx with h|h
     ·exact gb x h
     ·rw[G6.mp h];exact hb2
    ·rintro L ys G ⟨g0,g1,gD,gk,cs,rfl,gl,gb⟩;have e1:((cs.map λc=>wd [c]).map λx=>x.length).sum=cs.length:=by
      clear gl gb g1
      induction cs with
      |nil=>rfl
      |cons c cs ih=>rw[GV,GV,List.sum_cons,ih,ay];show 1+cs.length=cs.length+1;lia
     refine⟨_,L,_,rfl,rfl,bZ.of g1,?_,?_⟩
     ·rw[e1,show (Str.ofString "").length=0 from by decide +kernel];lia
     rw[rW];exact fin cs G gb (by lia) (gD.mono (by lia)) (hb7.keep gk D7.nt)
   ·rw[Gn c,hB];exact fin z H6 hbz (by lia) (D6.mono (by lia)) hb6
  ·rintro σ H' ⟨s2,s3,s4,s5,s6,s7,_,rfl⟩;show N _ _;rw[hN];clear hN N;walk_at "rz";exact q _
theorem BM(T:Txt K mg)(f_goal_of:HasFn K mg "goal_of" fN ["row"])(f_can_be:HasFn K mg "can_be" gB ["lengths"])(f_code_of:HasFn K mg "code_of" cL ["lengths"])(f_word_behind:HasFn K mg "word_behind" di ["ahead","length"])(f_thing_at:HasFn K mg "thing_at" fe ["code","bits","place"])(f_codes_of:HasFn K mg "codes_of" dP ["book"])(f_row_at:HasFn K mg "row_at" hJ ["codes","bits","place"])(f_coded_at:HasFn K mg "coded_at" fj ["code","bits","place"])(f_part_at:HasFn K mg "part_at" fS ["kind","codes","bits","place"])(f_number_at:HasFn K mg "number_at" d_ ["code","bits","place"])(f_goal_at:HasFn K mg "goal_at" fV ["bits","place"])(f_run_bits:HasFn K mg "run_bits" fk ["bits","book","given","most"])(l_deck:HasFn K mg "_law_deck" dn ["script"])(l_mix:HasFn K mg "_law_mix" eX ["number","turn"])(l_draw:HasFn K mg "_law_draw" dX ["deck","most"])(l_words:HasFn K mg "_law_words" d9 [])(l_bits:HasFn K mg "_law_bits" dW ["number","many"])(l_code:HasFn K mg "_law_code" dk ["lengths"])(l_lengths:HasFn K mg "_law_lengths" cQ ["deck","many"])(l_book:HasFn K mg "_law_book" du ["deck"])(l_number:HasFn K mg "_law_number" c_ ["deck"])(l_row:HasFn K mg "_law_row" fm ["deck","goals"])(l_plain:HasFn K mg "_law_plain" dB ["row","codes"])(l_tables:HasFn K mg "_law_tables" cW ["book"])(l_thing_at:HasFn K mg "_law_thing_at" cE ["table","bits","at"])(l_value:HasFn K mg "_law_value" dA ["text"])(l_way_at:HasFn K mg "_law_way_at" dc ["bits","at"])(l_number_at:HasFn K mg "_law_number_at" cx ["table","bits","at"])(l_row_at:HasFn K mg "_law_row_at" df ["tables","bits","at"])(l_same:HasFn K mg "_law_same" cJ ["found","due"])(l_raw_rows:HasFn K mg "_law_raw_rows" b_ ["deck","book","most"])(l_done:HasFn K mg "_law_done" dY ["state","row"])(l_run:HasFn K mg "_law_run" fb ["bits","book","given","most"])(l_given:HasFn K mg "_law_given" d8 ["deck"])(F:jz K "law" "law" fF f fd):cC P w K mg base bf 8 f fd ["script"] (ow K):=by
 have dr:=yO (P:=P) (w:=w) (base:=base) T l_draw (Bi l_mix);have lb:=wC (P:=P) (w:=w) (base:=base) T l_bits;have ca:=vc (P:=P) (w:=w) (base:=base) T f_coded_at (xv T f_thing_at);have lc:=vA (P:=P) (w:=w) (base:=base) T l_code lb;have wo:=sh (P:=P) (w:=w) (base:=base) l_words;have va:=vX (P:=P) (w:=w) (base:=base) T l_value;have lt:=sH (P:=P) (w:=w) (base:=base) T l_thing_at;have co:=zS (P:=P) (w:=w) (base:=base) T f_code_of (AG T f_can_be) (tJ T f_word_behind);have rb:=zE (P:=P) (w:=w) (base:=base) T (vT T f_goal_of) (xt T f_codes_of co) (xA T f_row_at ca (sk T f_part_at ca (v7 T f_number_at ca) (sP T f_goal_at ca))) f_run_bits;have lr:=zT (P:=P) (w:=w) (base:=base) T (rK T l_tables lc) (xK T l_row_at lt (yP T l_number_at lt va) (zQ T l_way_at va) wo) (ym T l_done) l_run;exact Bt T F (yr T l_deck) (zO T l_book dr (u7 T l_lengths dr)) (B4 T l_raw_rows lc (vZ T l_plain wo lb) (BI T l_row dr (sG T l_number dr)) dr lb) dr (wF T l_given dr) rb lr (yc T l_same)
local macro_rules | `(tactic| walk_at "b1") => `(tactic| (intro _ _ _ _ _ _ us hl; obtain ⟨_, e⟩ := L2.Y.sS hl; subst e; rfl))
theorem fL{x:Str}{st:Stmt}{ps:List Str}{oc:Value}{od an:Option Addr}{osl:Array (Option Value)}{kV doc pm cdv ct:Value}(X:K.In h)(G:h.Ns mainGlobals mg)(a:PySem.W.nsIn K mainGlobals x=some (some (.ref f)))
  (l:K.lookup f=some ⟨oc,od,.func (PySem.W.fnOf x x (bM st) (aS st) (af st) .none kV doc pm an cdv ct),osl⟩) (c:PySem.W.codeIn K cdv x=true) (k:PySem.W.keepIn K (.ref f)=true)
  (hb:∀(kV doc pm:Value) (an:Option Addr) (cdv ct:Value) (us:List Value),us.length=ps.length->bindArgs (PySem.W.fnOf x x (bM st) (aS st) (af st) .none kV doc pm an cdv ct) ⟨us,[]⟩=pure (ps.zip us)):HasFn K mg x st ps:=
 ⟨f,_,cq l c k,(cq l c k).binds hb,PySem.W.mg_of X G a⟩
theorem all_mk{l:PySem.W.OpenLaw}{w:World}{fa:Addr}(X:K.In h)(G:h.Ns mainGlobals mg)(hfa:mg "law"=some (.ref fa))
  {f2 f34:Addr} {od2 an2 od34 an34:Option Addr} {sl2 sl34:Array (Option Value)} {oc2 kV2 dc2 pm2 cd2 ct2 oc34 kV34 dc34 pm34 cd34 ct34:Value}
  {q0:Addr} {qd0:Option Addr} {qn0:Nat} {qs0:Array (Option Value)} {w0_0 w0_1 w0_2 w0_3 w0_4 w0_5 w0_6 w0_7:Tok}
  {q1:Addr} {qd1:Option Addr} {qn1:Nat} {qs1:Array (Option Value)} {w1_0 w1_1 w1_2:Tok}
  {q2:Addr} {qd2:Option Addr} {qn2:Nat} {qs2:Array (Option Value)} {w2_0 w2_1 w2_2:Tok}
  {w3_0:Tok}
  {w4_0:Tok}
  {w5_0:Tok}
  {w6_0:Tok}
  {q7:Addr} {qd7:Option Addr} {qn7:Nat} {qs7:Array (Option Value)} {w7_0 w7_1 w7_2:Tok}
  {dd0:Addr} {dh0_ep:Nat} {dh0_0 dh0_1 dh0_2 dh0_3 dh0_4 dh0_5 dh0_6 dh0_7 dh0_8:Int} {dp0_0 dp0_1 dp0_2 dp0_3 dp0_4 dp0_5 dp0_6 dp0_7 dp0_8:Addr} {do0_0 do0_1 do0_2 do0_3 do0_4 do0_5 do0_6 do0_7 do0_8:Option Addr} {dn0_0 dn0_1 dn0_2 dn0_3 dn0_4 dn0_5 dn0_6 dn0_7 dn0_8:Nat} {ds0_0 ds0_1 ds0_2 ds0_3 ds0_4 ds0_5 ds0_6 ds0_7 ds0_8:Array (Option Value)} {dt0_0 dt0_1 dt0_2 dt0_3 dt0_4 dt0_5 dt0_6 dt0_7 dt0_8 dw0_0_0 dw0_0_1 dw0_1_0 dw0_1_1 dw0_2_0 dw0_2_1 dw0_3_0 dw0_3_1 dw0_4_0 dw0_5_0 dw0_6_0 dw0_7_0 dw0_7_1:Tok}
  {mC mf0 mf1 mf2 mf3 mf4 mf5 mf6:Addr} {mod0 man0 mod1 man1 mod2 man2 mod3 man3 mod4 man4 mod5 man5 mod6 man6:Option Addr} {msl0 msl1 msl2 msl3 msl4 msl5 msl6:Array (Option Value)} {moc0 mkV0 mdc0 mpm0 mcd0 mct0 moc1 mkV1 mdc1 mpm1 mcd1 mct1 moc2 mkV2 mdc2 mpm2 mcd2 mct2 moc3 mkV3 mdc3 mpm3 mcd3 mct3 moc4 mkV4 mdc4 mpm4 mcd4 mct4 moc5 mkV5 mdc5 mpm5 mcd5 mct5 moc6 mkV6 mdc6 mpm6 mcd6 mct6:Value}
      
  (F0:HasFn K mg "goal_of" fN ["row"])
  (F1:HasFn K mg "can_be" gB ["lengths"])
  (a2:PySem.W.nsIn K mainGlobals "code_of"=some (some (.ref f2))) (l2:K.lookup f2=some ⟨oc2,od2,.func (PySem.W.fnOf "code_of" "code_of" (bM cL) (aS cL) (af cL) .none kV2 dc2 pm2 an2 cd2 ct2),sl2⟩) (c2:PySem.W.codeIn K cd2 "code_of"=true) (k2:PySem.W.keepIn K (.ref f2)=true)
  (F3:HasFn K mg "word_behind" di ["ahead","length"])
  (F4:HasFn K mg "thing_at" fe ["code","bits","place"])
  (F5:HasFn K mg "codes_of" dP ["book"])
  (F6:HasFn K mg "row_at" hJ ["codes","bits","place"])
  (F7:HasFn K mg "coded_at" fj ["code","bits","place"])
  (F8:HasFn K mg "part_at" fS ["kind","codes","bits","place"])
  (F9:HasFn K mg "number_at" d_ ["code","bits","place"])
  (F10:HasFn K mg "goal_at" fV ["bits","place"])
  (F11:HasFn K mg "run_bits" fk ["bits","book","given","most"])
  (F12:HasFn K mg "_law_deck" dn ["script"])
  (F13:HasFn K mg "_law_mix" eX ["number","turn"])
  (F14:HasFn K mg "_law_draw" dX ["deck","most"])
  (F15:HasFn K mg "_law_words" d9 [])
  (F16:HasFn K mg "_law_bits" dW ["number","many"])
  (F17:HasFn K mg "_law_code" dk ["lengths"])
  (F18:HasFn K mg "_law_lengths" cQ ["deck","many"])
  (F19:HasFn K mg "_law_book" du ["deck"])
  (F20:HasFn K mg "_law_number" c_ ["deck"])
  (F21:HasFn K mg "_law_row" fm ["deck","goals"])
  (F22:HasFn K mg "_law_plain" dB ["row","codes"])
  (F23:HasFn K mg "_law_tables" cW ["book"])
  (F24:HasFn K mg "_law_thing_at" cE ["table","bits","at"])
  (F25:HasFn K mg "_law_value" dA ["text"])
  (F26:HasFn K mg "_law_way_at" dc ["bits","at"])
  (F27:HasFn K mg "_law_number_at" cx ["table","bits","at"])
  (F28:HasFn K mg "_law_row_at" df ["tables","bits","at"])
  (F29:HasFn K mg "_law_same" cJ ["found","due"])
  (F30:HasFn K mg "_law_raw_rows" b_ ["deck","book","most"])
  (F31:HasFn K mg "_law_done" dY ["state","row"])
  (F32:HasFn K mg "_law_run" fb ["bits","book","given","most"])
  (F33:HasFn K mg "_law_given" d8 ["deck"])
  (a34:PySem.W.nsIn K mainGlobals "law"=some (some (.ref f34))) (l34:K.lookup f34=some ⟨oc34,od34,.func (PySem.W.fnOf "law" "law" (bM fF) (aS fF) (af fF) .none kV34 dc34 pm34 an34 cd34 ct34),sl34⟩) (c34:PySem.W.codeIn K cd34 "law"=true) (k34:PySem.W.keepIn K (.ref f34)=true)
  (z0:PySem.W.nsIn K mainGlobals "abs"=some none)
  (z1:PySem.W.nsIn K mainGlobals "bool"=some none)
  (z2:PySem.W.nsIn K mainGlobals "dict"=some none)
  (z3:PySem.W.nsIn K mainGlobals "enumerate"=some none)
  (z4:PySem.W.nsIn K mainGlobals "int"=some none)
  (z5:PySem.W.nsIn K mainGlobals "isinstance"=some none)
  (z6:PySem.W.nsIn K mainGlobals "len"=some none)
  (z7:PySem.W.nsIn K mainGlobals "list"=some none)
  (z8:PySem.W.nsIn K mainGlobals "min"=some none)
  (z9:PySem.W.nsIn K mainGlobals "range"=some none)
  (z10:PySem.W.nsIn K mainGlobals "sorted"=some none)
  (z11:PySem.W.nsIn K mainGlobals "str"=some none)
  (z12:PySem.W.nsIn K mainGlobals "sum"=some none)
  (z13:PySem.W.nsIn K mainGlobals "tuple"=some none)
  (z14:PySem.W.nsIn K mainGlobals "zip"=some none)
  (g0:PySem.W.nsIn K mainGlobals "BOXES"=some (some (.ref q0))) (m0:K.lookup q0=some ⟨.type "tuple",qd0,.seq #[.str "a" w0_0,.str "b" w0_1,.str "c" w0_2,.str "d" w0_3,.str "e" w0_4,.str "f" w0_5,.str "g" w0_6,.str "h" w0_7] qn0,qs0⟩)
  (g1:PySem.W.nsIn K mainGlobals "HALVES"=some (some (.ref q1))) (m1:K.lookup q1=some ⟨.type "tuple",qd1,.seq #[.int 8 w1_0,.int 128 w1_1,.int 32768 w1_2] qn1,qs1⟩)
  (g2:PySem.W.nsIn K mainGlobals "HEADS"=some (some (.ref q2))) (m2:K.lookup q2=some ⟨.type "tuple",qd2,.seq #[.str "0" w2_0,.str "10" w2_1,.str "11" w2_2] qn2,qs2⟩)
  (g3:PySem.W.nsIn K mainGlobals "OF_BOXES"=some (some (.int 2 w3_0)))
  (g4:PySem.W.nsIn K mainGlobals "OF_CLASSES"=some (some (.int 1 w4_0)))
  (g5:PySem.W.nsIn K mainGlobals "OF_WORDS"=some (some (.int 0 w5_0)))
  (g6:PySem.W.nsIn K mainGlobals "WHOLE"=some (some (.int 65536 w6_0)))
  (g7:PySem.W.nsIn K mainGlobals "WIDTHS"=some (some (.ref q7))) (m7:K.lookup q7=some ⟨.type "tuple",qd7,.seq #[.int 4 w7_0,.int 8 w7_1,.int 16 w7_2] qn7,qs7⟩)
  (dg0:PySem.W.nsIn K mainGlobals "SHAPES"=some (some (.ref dd0))) (dz0:(dd0 == sysModules)=false) (dl0:K.lookup dd0=some ⟨.type "dict",none,.dict #[⟨dh0_0,.str "put" dt0_0,.ref dp0_0⟩,⟨dh0_1,.str "add" dt0_1,.ref dp0_1⟩,⟨dh0_2,.str "sub" dt0_2,.ref dp0_2⟩,⟨dh0_3,.str "copy" dt0_3,.ref dp0_3⟩,⟨dh0_4,.str "tell" dt0_4,.ref dp0_4⟩,⟨dh0_5,.str "hear" dt0_5,.ref dp0_5⟩,⟨dh0_6,.str "jump" dt0_6,.ref dp0_6⟩,⟨dh0_7,.str "zero" dt0_7,.ref dp0_7⟩,⟨dh0_8,.str "halt" dt0_8,.ref dp0_8⟩] dh0_ep,#[]⟩)
  (dm0_0:K.lookup dp0_0=some ⟨.type "tuple",do0_0,.seq #[.str "box" dw0_0_0,.str "number" dw0_0_1] dn0_0,ds0_0⟩)
  (dm0_1:K.lookup dp0_1=some ⟨.type "tuple",do0_1,.seq #[.str "box" dw0_1_0,.str "box" dw0_1_1] dn0_1,ds0_1⟩)
  (dm0_2:K.lookup dp0_2=some ⟨.type "tuple",do0_2,.seq #[.str "box" dw0_2_0,.str "box" dw0_2_1] dn0_2,ds0_2⟩)
  (dm0_3:K.lookup dp0_3=some ⟨.type "tuple",do0_3,.seq #[.str "box" dw0_3_0,.str "box" dw0_3_1] dn0_3,ds0_3⟩)
  (dm0_4:K.lookup dp0_4=some ⟨.type "tuple",do0_4,.seq #[.str "box" dw0_4_0] dn0_4,ds0_4⟩)
  (dm0_5:K.lookup dp0_5=some ⟨.type "tuple",do0_5,.seq #[.str "box" dw0_5_0] dn0_5,ds0_5⟩)
  (dm0_6:K.lookup dp0_6=some ⟨.type "tuple",do0_6,.seq #[.str "goal" dw0_6_0] dn0_6,ds0_6⟩)
  (dm0_7:K.lookup dp0_7=some ⟨.type "tuple",do0_7,.seq #[.str "box" dw0_7_0,.str "goal" dw0_7_1] dn0_7,ds0_7⟩)
  (dm0_8:K.lookup dp0_8=some ⟨.type "tuple",do0_8,.seq #[] dn0_8,ds0_8⟩)
  (mq0:PySem.W.nsIn K mainGlobals "Machine"=some (some (.ref mC)))
  (mq1:PySem.W.plainGet K mC Str.empty=true)
  (mq2:PySem.W.hasDictIn K mC=true)
  (mq3:PySem.W.plainOver K mC=true)
  (mq4:PySem.W.findIn K (.ref mC) "__setattr__"=some (some (.builtin "object.__setattr__")))
  (mq5:PySem.W.findIn K (.ref mC) "given"=some none)
  (mq6:PySem.W.findIn K (.ref mC) "heard"=some none)
  (mq7:PySem.W.findIn K (.ref mC) "told"=some none)
  (mq8:PySem.W.findIn K (.ref mC) "boxes"=some none)
  (mq9:PySem.W.findIn K (.ref mC) "__init__"=some (some (.ref mf0)))
  (mq10:PySem.W.isFn K (.ref mf0)=true)
  (mq11:PySem.W.keepIn K (.ref mf0)=true)
  (mq12:K.lookup mf0=some ⟨moc0,mod0,.func (PySem.W.fnOf "__init__" "Machine.__init__" (bM aL) (aS aL) (af aL) .none mkV0 mdc0 mpm0 man0 mcd0 mct0),msl0⟩)
  (mq13:PySem.W.codeIn K mcd0 "Machine.__init__"=true)
  (mq14:PySem.W.makesIn K mC=true)
  (mq15:PySem.W.keepIn K (.ref mC)=true)
  (mq16:PySem.W.findIn K (.ref mC) "place_next"=some (some (.ref mf1)))
  (mq17:PySem.W.isFn K (.ref mf1)=true)
  (mq18:PySem.W.keepIn K (.ref mf1)=true)
  (mq19:K.lookup mf1=some ⟨moc1,mod1,.func (PySem.W.fnOf "place_next" "Machine.place_next" (bM aJ) (aS aJ) (af aJ) .none mkV1 mdc1 mpm1 man1 mcd1 mct1),msl1⟩)
  (mq20:PySem.W.codeIn K mcd1 "Machine.place_next"=true)
  (mq21:PySem.W.findIn K (.ref mC) "carry_out"=some (some (.ref mf2)))
  (mq22:PySem.W.isFn K (.ref mf2)=true)
  (mq23:PySem.W.keepIn K (.ref mf2)=true)
  (mq24:K.lookup mf2=some ⟨moc2,mod2,.func (PySem.W.fnOf "carry_out" "Machine.carry_out" (bM aM) (aS aM) (af aM) .none mkV2 mdc2 mpm2 man2 mcd2 mct2),msl2⟩)
  (mq25:PySem.W.codeIn K mcd2 "Machine.carry_out"=true)
  (mq26:PySem.W.findIn K (.ref mC) "number_for"=some (some (.ref mf3)))
  (mq27:PySem.W.isFn K (.ref mf3)=true)
  (mq28:PySem.W.keepIn K (.ref mf3)=true)
  (mq29:K.lookup mf3=some ⟨moc3,mod3,.func (PySem.W.fnOf "number_for" "Machine.number_for" (bM aI) (aS aI) (af aI) .none mkV3 mdc3 mpm3 man3 mcd3 mct3),msl3⟩)
  (mq30:PySem.W.codeIn K mcd3 "Machine.number_for"=true)
  (mq31:PySem.W.findIn K (.ref mC) "heard_number"=some (some (.ref mf4)))
  (mq32:PySem.W.isFn K (.ref mf4)=true)
  (mq33:PySem.W.keepIn K (.ref mf4)=true)
  (mq34:K.lookup mf4=some ⟨moc4,mod4,.func (PySem.W.fnOf "heard_number" "Machine.heard_number" (bM aC) (aS aC) (af aC) .none mkV4 mdc4 mpm4 man4 mcd4 mct4),msl4⟩)
  (mq35:PySem.W.codeIn K mcd4 "Machine.heard_number"=true)
  (mq36:PySem.W.findIn K (.ref mC) "told_numbers"=some (some (.ref mf5)))
  (mq37:PySem.W.isFn K (.ref mf5)=true)
  (mq38:PySem.W.keepIn K (.ref mf5)=true)
  (mq39:K.lookup mf5=some ⟨moc5,mod5,.func (PySem.W.fnOf "told_numbers" "Machine.told_numbers" (bM aA) (aS aA) (af aA) .none mkV5 mdc5 mpm5 man5 mcd5 mct5),msl5⟩)
  (mq40:PySem.W.codeIn K mcd5 "Machine.told_numbers"=true)
  (mq41:PySem.W.findIn K (.ref mC) "box_numbers"=some (some (.ref mf6)))
  (mq42:PySem.W.isFn K (.ref mf6)=true)
  (mq43:PySem.W.keepIn K (.ref mf6)=true)
  (mq44:K.lookup mf6=some ⟨moc6,mod6,.func (PySem.W.fnOf "box_numbers" "Machine.box_numbers" (bM az) (aS az) (af az) .none mkV6 mdc6 mpm6 man6 mcd6 mct6),msl6⟩)
  (mq45:PySem.W.codeIn K mcd6 "Machine.box_numbers"=true)
  (le_code_of:cd2=.ref lc_code_of) (lk_code_of:K.lookup lc_code_of=some ⟨lO_code_of,lD_code_of,.fields lv_code_of,lS_code_of⟩) (lw_code_of:lv_code_of[11]?=some (.ref lp_code_of))
  : ∃fd:FuncData,(∀(s:Shared) (v:Value),BindsTo s fd ⟨[v],[]⟩ [("script",v)])/\∀base:Heap,K.In base->base.Ns mainGlobals mg->cC l.prog w K mg base bf 30 fa fd ["script"] (ow K):=by
 have e:=hfa.symm.trans (PySem.W.mg_of X G a34);cases e
 have T:Txt K mg:=⟨PySem.W.mg_none_of X G z0,PySem.W.mg_none_of X G z1,PySem.W.mg_none_of X G z2,PySem.W.mg_none_of X G z3,PySem.W.mg_none_of X G z4,PySem.W.mg_none_of X G z5,PySem.W.mg_none_of X G z6,PySem.W.mg_none_of X G z7,PySem.W.mg_none_of X G z8,PySem.W.mg_none_of X G z9,PySem.W.mg_none_of X G z10,PySem.W.mg_none_of X G z11,PySem.W.mg_none_of X G z12,PySem.W.mg_none_of X G z13,PySem.W.mg_none_of X G z14,⟨q0,PySem.W.mg_of X G g0,λH=>.inr ⟨_,_,_,m0,rfl,rfl,(by show 8<=sizeLine;decide),(.cons ⟨w0_0,rfl⟩ (.cons ⟨w0_1,rfl⟩ (.cons ⟨w0_2,rfl⟩ (.cons ⟨w0_3,rfl⟩ (.cons ⟨w0_4,rfl⟩ (.cons ⟨w0_5,rfl⟩ (.cons ⟨w0_6,rfl⟩ (.cons ⟨w0_7,rfl⟩ .nil))))))))⟩⟩,⟨q1,PySem.W.mg_of X G g1,λH=>.inr ⟨_,_,_,m1,rfl,rfl,(by show 3<=sizeLine;decide),(.cons ⟨w1_0,rfl⟩ (.cons ⟨w1_1,rfl⟩ (.cons ⟨w1_2,rfl⟩ .nil)))⟩⟩,⟨q2,PySem.W.mg_of X G g2,λH=>.inr ⟨_,_,_,m2,rfl,rfl,(by show 3<=sizeLine;decide),(.cons ⟨w2_0,rfl⟩ (.cons ⟨w2_1,rfl⟩ (.cons ⟨w2_2,rfl⟩ .nil)))⟩⟩,⟨_,PySem.W.mg_of X G g3,⟨_,rfl⟩⟩,⟨_,PySem.W.mg_of X G g4,⟨_,rfl⟩⟩,⟨_,PySem.W.mg_of X G g5,⟨_,rfl⟩⟩,⟨_,PySem.W.mg_of X G g6,⟨_,rfl⟩⟩,⟨q7,PySem.W.mg_of X G g7,λH=>.inr ⟨_,_,_,m7,rfl,rfl,(by show 3<=sizeLine;decide),(.cons ⟨w7_0,rfl⟩ (.cons ⟨w7_1,rfl⟩ (.cons ⟨w7_2,rfl⟩ .nil)))⟩⟩,⟨dd0,PySem.W.mg_of X G dg0,dz0,_,_,_,dl0,⟨rfl,rfl,rfl⟩,rfl,(.cons rfl ⟨dp0_0,rfl,⟨_,_,_,dm0_0,rfl,rfl,(by show 2<=sizeLine;decide),(.cons ⟨dw0_0_0,rfl⟩ (.cons ⟨dw0_0_1,rfl⟩ .nil))⟩⟩ (.cons rfl ⟨dp0_1,rfl,⟨_,_,_,dm0_1,rfl,rfl,(by show 2<=sizeLine;decide),(.cons ⟨dw0_1_0,rfl⟩ (.cons ⟨dw0_1_1,rfl⟩ .nil))⟩⟩ (.cons rfl ⟨dp0_2,rfl,⟨_,_,_,dm0_2,rfl,rfl,(by show 2<=sizeLine;decide),(.cons ⟨dw0_2_0,rfl⟩ (.cons ⟨dw0_2_1,rfl⟩ .nil))⟩⟩ (.cons rfl ⟨dp0_3,rfl,⟨_,_,_,dm0_3,rfl,rfl,(by show 2<=sizeLine;decide),(.cons ⟨dw0_3_0,rfl⟩ (.cons ⟨dw0_3_1,rfl⟩ .nil))⟩⟩ (.cons rfl ⟨dp0_4,rfl,⟨_,_,_,dm0_4,rfl,rfl,(by show 1<=sizeLine;decide),(.cons ⟨dw0_4_0,rfl⟩ .nil)⟩⟩ (.cons rfl ⟨dp0_5,rfl,⟨_,_,_,dm0_5,rfl,rfl,(by show 1<=sizeLine;decide),(.cons ⟨dw0_5_0,rfl⟩ .nil)⟩⟩ (.cons rfl ⟨dp0_6,rfl,⟨_,_,_,dm0_6,rfl,rfl,(by show 1<=sizeLine;decide),(.cons ⟨dw0_6_0,rfl⟩ .nil)⟩⟩ (.cons rfl ⟨dp0_7,rfl,⟨_,_,_,dm0_7,rfl,rfl,(by show 2<=sizeLine;decide),(.cons ⟨dw0_7_0,rfl⟩ (.cons ⟨dw0_7_1,rfl⟩ .nil))⟩⟩ (.cons rfl ⟨dp0_8,rfl,⟨_,_,_,dm0_8,rfl,rfl,(by show 0<=sizeLine;decide),.nil⟩⟩ .nil)))))))))⟩,⟨_,_,_,_,_,_,_,_,_,_,_,_,_,_,_,PySem.W.mg_of X G mq0,⟨mq1,mq2,mq3,mq4⟩,mq5,mq6,mq7,mq8,⟨mq14,mq9,mq10,mq15⟩,cq (st:=aL) mq12 mq13 mq11,(cq (st:=aL) mq12 mq13 mq11).binds (ps:=["self","given"]) (λ_ _ _ _ _ _ us hl=>by obtain⟨_,_,rfl⟩:=Y.vN hl;rfl),⟨mq16,mq17,mq18⟩,cq (st:=aJ) mq19 mq20 mq18,(cq (st:=aJ) mq19 mq20 mq18).binds (ps:=["self","row","behind","end"]) (λ_ _ _ _ _ _ us hl=>by obtain⟨_,_,_,_,rfl⟩:=Y.De hl;rfl),⟨mq21,mq22,mq23⟩,cq (st:=aM) mq24 mq25 mq23,(cq (st:=aM) mq24 mq25 mq23).binds (ps:=["self","row"]) (λ_ _ _ _ _ _ us hl=>by obtain⟨_,_,rfl⟩:=Y.vN hl;rfl),⟨mq26,mq27,mq28⟩,cq (st:=aI) mq29 mq30 mq28,(cq (st:=aI) mq29 mq30 mq28).binds (ps:=["self","row"]) (λ_ _ _ _ _ _ us hl=>by obtain⟨_,_,rfl⟩:=Y.vN hl;rfl),⟨mq31,mq32,mq33⟩,cq (st:=aC) mq34 mq35 mq33,(cq (st:=aC) mq34 mq35 mq33).binds (ps:=["self"]) (λ_ _ _ _ _ _ us hl=>by obtain⟨_,rfl⟩:=Y.sS hl;rfl),⟨mq36,mq37,mq38⟩,cq (st:=aA) mq39 mq40 mq38,(cq (st:=aA) mq39 mq40 mq38).binds (ps:=["self"]) (λ_ _ _ _ _ _ us hl=>by obtain⟨_,rfl⟩:=Y.sS hl;rfl),⟨mq41,mq42,mq43⟩,cq (st:=az) mq44 mq45 mq43,(cq (st:=az) mq44 mq45 mq43).binds (ps:=["self"]) (λ_ _ _ _ _ _ us hl=>by obtain⟨_,rfl⟩:=Y.sS hl;rfl)⟩,qN.mk' X G (mU a2 l2 le_code_of lk_code_of lw_code_of)⟩
 have F2:HasFn K mg "code_of" cL ["lengths"]:=fL X G a2 l2 c2 k2 (by walk_at "b1")
 exact⟨PySem.W.fnOf "law" "law" (bM fF) (aS fF) (af fF) .none kV34 dc34 pm34 an34 cd34 ct34,λs v=>.of_eq rfl,λbase _ _=>(BM T F0 F1 F2 F3 F4 F5 F6 F7 F8 F9 F10 F11 F12 F13 F14 F15 F16 F17 F18 F19 F20 F21 F22 F23 F24 F25 F26 F27 F28 F29 F30 F31 F32 F33 (cq (st:=fF) l34 c34 k34)).mono (by decide)⟩
theorem walk{l:PySem.W.OpenLaw}{loose:List Str}{XP:(Str->Option Value)->Heap->Prop}{YP:World->Heap->Prop}{d:DefRec}{K:Params->LA}(hn:l.most=some 63)(hdf:d.params.defaults=[])
  (hY:∀(w:World) (h:Heap),YP w h->(K w.params).In h)
  (F:∀(w:World) (mg:Str->Option Value) (fa:Addr) (h:Heap),(K w.params).In h->h.Ns mainGlobals mg->mg d.name=some (.ref fa)->∃fd:FuncData,(∀(s:Shared) (u:Value),BindsTo s fd ⟨[u],[]⟩ [("script",u)])/\∀base:Heap,(K w.params).In base->base.Ns mainGlobals mg->cC l.prog w (K w.params) mg base bf 30 fa fd ["script"] (ow (K w.params))) (hL:∀(w:World) (h:Heap),(K w.params).In h->gX q (K w.params)) :
  PySem.W.WalkO q loose XP YP l.row.toRowW d [] (λf vs=>PySem.call f vs):=
 L2.yi (n:=63) (k:=30) (x:="script") (CX:=λ_=>bf) (sp:=λw=>ow (K w.params)) hn (by decide) hdf ⟨rfl,by decide,by decide,rfl⟩ hY F (λ_ _ a ns hl _ hS=>⟨a,ns,rfl,hS,hl,λ_=>rfl⟩) (λ_ _ _ _ _ z=>z) hL
theorem Bh(_:K.In h){la_code_of:Addr}{lo_code_of:Value}{ld_code_of:Option Addr}{lfd_code_of:FuncData}{ls_code_of:Array (Option Value)}(nt:PySem.W.noTabs K=true)
  (ma_by_worth:PySem.W.nsIn K mainGlobals "by_worth"=some none)
  (ma_by_weight:PySem.W.nsIn K mainGlobals "by_weight"=some none)
  (ma_code_of:PySem.W.nsIn K mainGlobals "code_of"=some (some (.ref la_code_of))) (ml_code_of:K.lookup la_code_of=some ⟨lo_code_of,ld_code_of,.func lfd_code_of,ls_code_of⟩) (mc_code_of:lfd_code_of.code=.ref lc_code_of) (mk_code_of:K.lookup lc_code_of=some ⟨lO_code_of,lD_code_of,.fields lv_code_of,lS_code_of⟩) (mw_code_of:lv_code_of[11]?=some (.ref lp_code_of)) (mr_code_of:((recsOf q).find? (λe=>e.name ==("code_of":Str))).isSome=true)
  : gX q K:=gX.of nt (jr ma_by_worth) (jr ma_by_weight) (mU ma_code_of ml_code_of mc_code_of mk_code_of mw_code_of) (by first|exact mn|simp) (.inl rfl) (.inl rfl) (.inr mr_code_of)
end
end G
open PySem PySem.W PyProof.Rows
local macro_rules | `(tactic| walk_at "b0") => `(tactic| (intro _ _ _ _ _ _ us hl; match us, hl with | [], _ => rfl))
local macro_rules | `(tactic| walk_at "b1") => `(tactic| (intro _ _ _ _ _ _ us hl; obtain ⟨_, e⟩ := L2.Y.sS hl; subst e; rfl))
local macro_rules | `(tactic| walk_at "b2") => `(tactic| (intro _ _ _ _ _ _ us hl; obtain ⟨_, _, e⟩ := L2.Y.vN hl; subst e; rfl))
local macro_rules | `(tactic| walk_at "b3") => `(tactic| (intro _ _ _ _ _ _ us hl; obtain ⟨_, _, _, e⟩ := L2.Y.p9 hl; subst e; rfl))
local macro_rules | `(tactic| walk_at "b4") => `(tactic| (intro _ _ _ _ _ _ us hl; obtain ⟨_, _, _, _, e⟩ := L2.Y.De hl; subst e; rfl))
set_option maxRecDepth 100000 in
set_option maxHeartbeats 0 in
theorem PySem.Challenge.cw_shortrows_k34_bits_run_holds : PySem.Challenge.rw_shortrows_k34_bits_run.Holds := by
 w_on;o_law;k_head;(case hw=>w_witness2)
 k_fill
 refine G.walk (l:=PySem.Challenge.rw_shortrows_k34_bits_run) rfl rfl (λw h Y=>by first|exact PySem.W.kIn_of Y|exact PySem.W.km_in_of Y) ?F ?L
 case F =>
  intro w mg fa h KX GN hmg
  refine' G.all_mk KX GN hmg (G.fL KX GN ?a0 ?l0 ?c0 ?k0 (by walk_at "b1")) (G.fL KX GN ?a1 ?l1 ?c1 ?k1 (by walk_at "b1")) ?a2 ?l2 ?c2 ?k2 (G.fL KX GN ?a3 ?l3 ?c3 ?k3 (by walk_at "b2")) (G.fL KX GN ?a4 ?l4 ?c4 ?k4 (by walk_at "b3")) (G.fL KX GN ?a5 ?l5 ?c5 ?k5 (by walk_at "b1")) (G.fL KX GN ?a6 ?l6 ?c6 ?k6 (by walk_at "b3")) (G.fL KX GN ?a7 ?l7 ?c7 ?k7 (by walk_at "b3")) (G.fL KX GN ?a8 ?l8 ?c8 ?k8 (by walk_at "b4")) (G.fL KX GN ?a9 ?l9 ?c9 ?k9 (by walk_at "b3")) (G.fL KX GN ?a10 ?l10 ?c10 ?k10 (by walk_at "b2")) (G.fL KX GN ?a11 ?l11 ?c11 ?k11 (by walk_at "b4")) (G.fL KX GN ?a12 ?l12 ?c12 ?k12 (by walk_at "b1")) (G.fL KX GN ?a13 ?l13 ?c13 ?k13 (by walk_at "b2")) (G.fL KX GN ?a14 ?l14 ?c14 ?k14 (by walk_at "b2")) (G.fL KX GN ?a15 ?l15 ?c15 ?k15 (by walk_at "b0")) (G.fL KX GN ?a16 ?l16 ?c16 ?k16 (by walk_at "b2")) (G.fL KX GN ?a17 ?l17 ?c17 ?k17 (by walk_at "b1")) (G.fL KX GN ?a18 ?l18 ?c18 ?k18 (by walk_at "b2")) (G.fL KX GN ?a19 ?l19 ?c19 ?k19 (by walk_at "b1")) (G.fL KX GN ?a20 ?l20 ?c20 ?k20 (by walk_at "b1")) (G.fL KX GN ?a21 ?l21 ?c21 ?k21 (by walk_at "b2")) (G.fL KX GN ?a22 ?l22 ?c22 ?k22 (by walk_at "b2")) (G.fL KX GN ?a23 ?l23 ?c23 ?k23 (by walk_at "b1")) (G.fL KX GN ?a24 ?l24 ?c24 ?k24 (by walk_at "b3")) (G.fL KX GN ?a25 ?l25 ?c25 ?k25 (by walk_at "b1")) (G.fL KX GN ?a26 ?l26 ?c26 ?k26 (by walk_at "b2")) (G.fL KX GN ?a27 ?l27 ?c27 ?k27 (by walk_at "b3")) (G.fL KX GN ?a28 ?l28 ?c28 ?k28 (by walk_at "b3")) (G.fL KX GN ?a29 ?l29 ?c29 ?k29 (by walk_at "b2")) (G.fL KX GN ?a30 ?l30 ?c30 ?k30 (by walk_at "b3")) (G.fL KX GN ?a31 ?l31 ?c31 ?k31 (by walk_at "b2")) (G.fL KX GN ?a32 ?l32 ?c32 ?k32 (by walk_at "b4")) (G.fL KX GN ?a33 ?l33 ?c33 ?k33 (by walk_at "b1")) ?a34 ?l34 ?c34 ?k34 ?z0 ?z1 ?z2 ?z3 ?z4 ?z5 ?z6 ?z7 ?z8 ?z9 ?z10 ?z11 ?z12 ?z13 ?z14 ?gq0 ?mq0 ?gq1 ?mq1 ?gq2 ?mq2 ?gq3 ?gq4 ?gq5 ?gq6 ?gq7 ?mq7 ?dg0 ?dz0 ?dl0 ?dm0_0 ?dm0_1 ?dm0_2 ?dm0_3 ?dm0_4 ?dm0_5 ?dm0_6 ?dm0_7 ?dm0_8 ?mq_0 ?mq_1 ?mq_2 ?mq_3 ?mq_4 ?mq_5 ?mq_6 ?mq_7 ?mq_8 ?mq_9 ?mq_10 ?mq_11 ?mq_12 ?mq_13 ?mq_14 ?mq_15 ?mq_16 ?mq_17 ?mq_18 ?mq_19 ?mq_20 ?mq_21 ?mq_22 ?mq_23 ?mq_24 ?mq_25 ?mq_26 ?mq_27 ?mq_28 ?mq_29 ?mq_30 ?mq_31 ?mq_32 ?mq_33 ?mq_34 ?mq_35 ?mq_36 ?mq_37 ?mq_38 ?mq_39 ?mq_40 ?mq_41 ?mq_42 ?mq_43 ?mq_44 ?mq_45 ?le_code_of ?lk_code_of ?lw_code_of
  (case a0|l0|c0|k0|a1|l1|c1|k1|a2|l2|c2|k2|a3|l3|c3|k3|a4|l4|c4|k4|a5|l5|c5|k5|a6|l6|c6|k6|a7|l7|c7|k7|a8|l8|c8|k8|a9|l9|c9|k9|a10|l10|c10|k10|a11|l11|c11|k11|a12|l12|c12|k12|a13|l13|c13|k13|a14|l14|c14|k14|a15|l15|c15|k15|a16|l16|c16|k16|a17|l17|c17|k17|a18|l18|c18|k18|a19|l19|c19|k19|a20|l20|c20|k20|a21|l21|c21|k21|a22|l22|c22|k22|a23|l23|c23|k23|a24|l24|c24|k24|a25|l25|c25|k25|a26|l26|c26|k26|a27|l27|c27|k27|a28|l28|c28|k28|a29|l29|c29|k29|a30|l30|c30|k30|a31|l31|c31|k31|a32|l32|c32|k32|a33|l33|c33|k33|a34|l34|c34|k34=>k_is)
  (case z0=>k_is)
  (case z1=>k_is)
  (case z2=>k_is)
  (case z3=>k_is)
  (case z4=>k_is)
  (case z5=>k_is)
  (case z6=>k_is)
  (case z7=>k_is)
  (case z8=>k_is)
  (case z9=>k_is)
  (case z10=>k_is)
  (case z11=>k_is)
  (case z12=>k_is)
  (case z13=>k_is)
  (case z14=>k_is)
  (case gq0=>k_is)
  (case mq0=>k_is)
  (case gq1=>k_is)
  (case mq1=>k_is)
  (case gq2=>k_is)
  (case mq2=>k_is)
  (case gq3=>k_is)
  (case gq4=>k_is)
  (case gq5=>k_is)
  (case gq6=>k_is)
  (case gq7=>k_is)
  (case mq7=>k_is)
  (case dg0=>k_is)
  (case dl0=>k_is)
  (case dm0_0=>k_is)
  (case dm0_1=>k_is)
  (case dm0_2=>k_is)
  (case dm0_3=>k_is)
  (case dm0_4=>k_is)
  (case dm0_5=>k_is)
  (case dm0_6=>k_is)
  (case dm0_7=>k_is)
  (case dm0_8=>k_is)
  (case dz0=>rfl)
  (case mq_0=>k_is)
  (case mq_1=>k_is)
  (case mq_2=>k_is)
  (case mq_3=>k_is)
  (case mq_4=>k_is)
  (case mq_5=>k_is)
  (case mq_6=>k_is)
  (case mq_7=>k_is)
  (case mq_8=>k_is)
  (case mq_9=>k_is)
  (case mq_10=>k_is)
  (case mq_11=>k_is)
  (case mq_12=>k_is)
  (case mq_13=>k_is)
  (case mq_14=>k_is)
  (case mq_15=>k_is)
  (case mq_16=>k_is)
  (case mq_17=>k_is)
  (case mq_18=>k_is)
  (case mq_19=>k_is)
  (case mq_20=>k_is)
  (case mq_21=>k_is)
  (case mq_22=>k_is)
  (case mq_23=>k_is)
  (case mq_24=>k_is)
  (case mq_25=>k_is)
  (case mq_26=>k_is)
  (case mq_27=>k_is)
  (case mq_28=>k_is)
  (case mq_29=>k_is)
  (case mq_30=>k_is)
  (case mq_31=>k_is)
  (case mq_32=>k_is)
  (case mq_33=>k_is)
  (case mq_34=>k_is)
  (case mq_35=>k_is)
  (case mq_36=>k_is)
  (case mq_37=>k_is)
  (case mq_38=>k_is)
  (case mq_39=>k_is)
  (case mq_40=>k_is)
  (case mq_41=>k_is)
  (case mq_42=>k_is)
  (case mq_43=>k_is)
  (case mq_44=>k_is)
  (case mq_45=>k_is)
  (case le_code_of=>exact rfl)
  (case lk_code_of=>k_is)
  (case lw_code_of=>exact rfl)
 case L =>
  intro w h KX
  refine' G.Bh KX (by kernel_rfl) ?ma_by_worth ?ma_by_weight ?ma_code_of ?ml_code_of ?mc_code_of ?mk_code_of ?mw_code_of ?mr_code_of
  (case ma_by_worth=>k_is)
  (case ma_by_weight=>k_is)
  (case ma_code_of=>k_is)
  (case ml_code_of=>k_is)
  (case mc_code_of=>exact rfl)
  (case mk_code_of=>k_is)
  (case mw_code_of=>exact rfl)
  (case mr_code_of=>exact rfl)
end
