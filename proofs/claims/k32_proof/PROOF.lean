import PyProof.Rows.All
import Wide.All
import OpenK.AllK
import Wide.FinOn
import Lean
import PyProof.EqAt
import PyProof.EqKinds
import PyProof.TupleCall
import KE.KSortKey
import KE.KLam
import PySem.Challenge.RW_shortrows_k32_goals_nowhere
namespace PySem.W.Fast
noncomputable def tw8960032453573262749:=0
noncomputable def tw15443620442071659762:=0
noncomputable def tw3482111987410720936:=0
noncomputable def tw3912230823178611316:=0
noncomputable def tw7781666031916001287:=0
noncomputable def tw1044577286662448274:=0
noncomputable def tw8888047542040929506:=0
noncomputable def tw6462663545293161114:=0
noncomputable def tw1774223813091796396:=0
noncomputable def tw3623815164655254748:=0
noncomputable def tw12829189205140041927:=0
noncomputable def tw2714397224023978069:=0
noncomputable def tw5523242577991995601:=0
noncomputable def tw15305079672683582769:=0
noncomputable def tw9893397057047612109:=0
noncomputable def tw16972424069729530150:=0
noncomputable def tw3483538211211515684:=0
noncomputable def tw11394476728330336812:=0
noncomputable def tw7656243011329338927:=0
noncomputable def tw5378254674755690183:=0
noncomputable def tw1997322498151643106:=0
noncomputable def tw7041943487849930140:=0
noncomputable def tw14999212340311216476:=0
noncomputable def tw14555908489771195554:=0
noncomputable def tw467157987063575656:=0
noncomputable def tw9394615358009319403:=0
noncomputable def tw7646473146900894834:=0
noncomputable def tw16747897775066988715:=0
noncomputable def tw9956894775094148651:=0
noncomputable def tw12507230700620554640:=0
noncomputable def tw142178313981280558:=0
noncomputable def tw960095013771925381:=0
noncomputable def tw12248126409389964069:=0
noncomputable def tw8207043957312953082:=0
noncomputable def tw15470294300257267687:=0
noncomputable def tw16046187944756815526:=0
noncomputable def tw9915099065610584313:=0
noncomputable def tw1890340922151421498:=0
noncomputable def tw4328182613297998884:=0
noncomputable def tw8616238982091177570:=0
noncomputable def tw7835424229169378680:=0
noncomputable def tw4802588248419130561:=0
noncomputable def tw2240298721071213844:=0
noncomputable def tw8370172228184389282:=0
noncomputable def tw15272356389710753058:=0
noncomputable def tw5843496864290861924:=0
noncomputable def tw1423237115319992273:=0
noncomputable def tw4815796351150350621:=0
noncomputable def tw17253144109784547176:=0
noncomputable def tw17520800143440061245:=0
noncomputable def tw2794437033228826992:=0
noncomputable def tw8131212911469543309:=0
noncomputable def tw9502813520562641044:=0
noncomputable def tw8942421230395075059:=0
noncomputable def tw3385281120165120744:=0
noncomputable def tw13142906610359140460:=0
noncomputable def tw14120092052171350636:=0
noncomputable def tw8113269499156036629:=0
noncomputable def tw5685986562342278053:=0
noncomputable def tw12212982628917837918:=0
noncomputable def tw1644275272360361031:=0
noncomputable def tw5370181816891696398:=0
noncomputable def tw11313209032185793732:=0
noncomputable def tw16671006316405105996:=0
noncomputable def tw5392451599384182110:=0
noncomputable def tw12468799535830996756:=0
noncomputable def tw5061926068238194133:=0
noncomputable def tw2301919687456302320:=0
noncomputable def tw13834267880104456910:=0
noncomputable def tw15766248458275896940:=0
noncomputable def tw13208143987946326442:=0
noncomputable def tw13536516210719893934:=0
noncomputable def tw8748641546635518341:=0
noncomputable def tw9291626041733552894:=0
noncomputable def tw16594239272055928741:=0
noncomputable def tw12933799448261119443:=0
noncomputable def tw1098341229762379501:=0
noncomputable def tw2169502106515842215:=0
noncomputable def tw16989263477276345079:=0
noncomputable def tw9149431450148686915:=0
noncomputable def tw16132168012697841057:=0
noncomputable def tw17056508452253147500:=0
noncomputable def tw18409014870452284736:=0
noncomputable def tw10591153049495648123:=0
noncomputable def tw2812897435952389872:=0
noncomputable def tw5382871889847466676:=0
noncomputable def tw13075876935581709707:=0
noncomputable def tw12401972632233758051:=0
noncomputable def tw10292619534127997640:=0
noncomputable def tw12472405909185723269:=0
noncomputable def tw12595265279108960359:=0
noncomputable def tw4643503037442917994:=0
noncomputable def tw6796114634609184671:=0
noncomputable def tw2527185889868597986:=0
noncomputable def tw12324049126867021444:=0
noncomputable def tw1490562515617680126:=0
noncomputable def tw8821970191356522420:=0
noncomputable def tw16986370369753968521:=0
noncomputable def tw15760417219276790662:=0
noncomputable def tw10259538900133933584:=0
noncomputable def tw14044741391999461524:=0
noncomputable def tw13984114554008650242:=0
noncomputable def tw9954112742725347320:=0
noncomputable def tw3396789491422700673:=0
noncomputable def tw1408057496309230257:=0
noncomputable def tw1383024565719934207:=0
noncomputable def tw17357355274657901694:=0
noncomputable def tw18406073605360926248:=0
noncomputable def tw17687124865351511075:=0
noncomputable def tw14030148082277504878:=0
noncomputable def tw7036096436789275472:=0
noncomputable def tw7246834051244130057:=0
noncomputable def tw6450320728607772008:=0
noncomputable def tw3031801783619322607:=0
noncomputable def tw15625742948267453501:=0
noncomputable def tw17571014775572956706:=0
noncomputable def tw6208668874718098639:=0
noncomputable def tw714552838765569609:=0
noncomputable def tw1643647155862923626:=0
noncomputable def tw4960993096920893690:=0
noncomputable def tw11822711055907492258:=0
noncomputable def tw8158100638905071866:=0
noncomputable def tw8759242545054892001:=0
noncomputable def tw17692700359992433374:=0
noncomputable def tw15434694188528533154:=0
noncomputable def tw14152182384644050983:=0
noncomputable def tw9974670078694353254:=0
noncomputable def tw8348696743568328986:=0
noncomputable def tw4532860012221666428:=0
noncomputable def tw14266464755799623023:=0
noncomputable def tw10083515899979314428:=0
noncomputable def tw5617149285300735574:=0
noncomputable def tw6303319191479094612:=0
noncomputable def tw17113913373281250948:=0
noncomputable def tw16028090648521271650:=0
noncomputable def tw10162040968830066317:=0
noncomputable def tw12560934542059909391:=0
noncomputable def tw2305655363562436752:=0
noncomputable def tw13673588224624007557:=0
noncomputable def tw17959951747585500188:=0
noncomputable def tw4052422202916436940:=0
noncomputable def tw109863650765803561:=0
noncomputable def tw15990045069729022010:=0
noncomputable def tw5033016897270130484:=0
noncomputable def tw2823090044828525772:=0
noncomputable def tw15454908832924111882:=0
noncomputable def tw8451272706300452742:=0
noncomputable def tw9537976517996124363:=0
noncomputable def tw9136874797118470845:=0
noncomputable def tw16996133654207959676:=0
noncomputable def tw14590908483291346693:=0
noncomputable def tw14399345758643149341:=0
noncomputable def tw14106942290190980253:=0
end PySem.W.Fast
set_option Elab.async false
set_option linter.all false
set_option maxRecDepth 100000
set_option maxHeartbeats 4000000
noncomputable section
set_option compiler.extract_closed false
theorem ℜz0(_:True:=by rfl):True:=⟨⟩
def ℜ0:Lean.Syntax:=ℜz0._auto_1
theorem ℜz1(_:True:=by decide):True:=⟨⟩
def ℜ1:Lean.Syntax:=ℜz1._auto_1
theorem ℜz2(_:True:=by first|exact .inl rfl|exact .inr rfl|assumption):True:=⟨⟩
def ℜ2:Lean.Syntax:=ℜz2._auto_1
theorem ℜz3(_:True:=by intro _;rfl):True:=⟨⟩
def ℜ3:Lean.Syntax:=ℜz3._auto_1
theorem ℜz4(_:True:=by first|exact Or.inl rfl|exact Or.inr (Or.inl rfl)|exact Or.inr (Or.inr rfl)):True:=⟨⟩
def ℜ4:Lean.Syntax:=ℜz4._auto_1
theorem ℜz6(_:True:=by decide +kernel):True:=⟨⟩
def ℜ6:Lean.Syntax:=ℜz6._auto_1
namespace L2
open PySem PySem.Spec PyProof.Rows
variable{us:List Value}{x:Str}{u:Value}{C a b:Addr}{base h:Heap}{items:Array Value}{P:Program}{w:World}{K:W.Frag}{g':Array GenState}{ch fp:List Addr}{e tg:Expr}{N:List Str}{i j:Nat}{M:Model}{E Q:Value->Shared->Prop}{s':Shared}{pins:List (Addr×Obj)}{f:Value->Value->Sem Value}{es:List Expr}{g:Int->Int->Int}{body:List Stmt}{mA mg:Str->Option Value}{kw:List (Str×Value)}{fd:FuncData}{outer:List Env}{kindOf:Str->Option NameKind}{scope:Scope}
noncomputable def HU:=@PySem.wpAny_bind
noncomputable def HV:=@List.getElem?_eq_getElem
noncomputable def HW:=@PySem.Heap.get?_push_of_some
noncomputable def HX:=@List.length_append
noncomputable def HY:=@List.length_map
noncomputable def HZ:=@List.getElem?_eq_some_iff
noncomputable def H_:=@if_neg
noncomputable def Ia:=@Nat.le_trans
noncomputable def Ib:=@Nat.le_refl
noncomputable def Ic:=@List.getD_eq_getElem?_getD
noncomputable def Ie:=@List.getElem?_map
noncomputable def Ig:=@if_pos
noncomputable def Ih:=@List.mem_cons
noncomputable def Ii:=@PySem.wpAny_pure
noncomputable def Ij:=@List.mem_cons_self
noncomputable def Ik:=@List.mem_cons_of_mem
noncomputable def Il:=@Bool.false_ne_true
noncomputable def Im:=@List.size_toArray
noncomputable def Io:=@PySem.Heap.lt_size
noncomputable def Ip:=@PySem.Heap.get?_push_size
noncomputable def Iq:=@List.length_cons
noncomputable def Ir:=@List.mem_singleton
noncomputable def Iu:=@List.length_replicate
noncomputable def Iv:=@Nat.zero_le
noncomputable def Iw:=@Array.getElem?_eq_some_iff
noncomputable def Iy:=@List.mem_append_right
noncomputable def Iz:=@Nat.ne_of_lt
noncomputable def IA:=@List.map_cons
noncomputable def IB:=@List.map_append
noncomputable def IC:=@Option.map_eq_some_iff
noncomputable def ID:=@Nat.lt_of_lt_of_le
noncomputable def IE:=@decide_eq_false
noncomputable def IF:=@List.length_take
noncomputable def IG:=@List.getElem?_append_right
noncomputable def IH:=@List.getElem_mem
noncomputable def II:=@List.append_assoc
noncomputable def IJ:=@List.getElem?_append_left
noncomputable def IK:=@PySem.PassesOwn.never
noncomputable def IL:=@Array.getElem?_toList
noncomputable def IM:=@decide_eq_true
noncomputable def IP:=@List.length_range
noncomputable def IQ:=@List.length_drop
noncomputable def IS:=@List.pairwise_cons
noncomputable def IT:=@List.not_mem_nil
noncomputable def IU:=@Array.length_toList
noncomputable def IV:=@List.replicate_succ
noncomputable def IW:=@congrArg
noncomputable def IY:=@Int.toNat_natCast
noncomputable def IZ:=@PySem.wpAny_mono
noncomputable def I_:=@Ne.symm
noncomputable def Ja:=@Nat.lt_of_le_of_lt
noncomputable def Jb:=@Nat.lt_or_ge
noncomputable def Jc:=@List.mem_range
noncomputable def Jd:=@List.append_nil
noncomputable def Je:=@List.length_nil
noncomputable def Jf:=@List.getElem?_toArray
noncomputable def Jg:=@List.mem_map
noncomputable def Jh:=@of_decide_eq_true
noncomputable def Ji:=@List.take_of_length_le
noncomputable def Jj:=@PyProof.Rows.boot_isinstance
noncomputable def Jk:=@List.mem_append
noncomputable def Jl:=@PySem.wpAny_holding
noncomputable def Jm:=@PySem.W.mg_none_of
noncomputable def Jn:=@beq_eq_false_iff_ne
noncomputable def Jo:=@PyProof.Rows.callWith_type1
noncomputable def Jp:=@PySem.wpAny_field
noncomputable def Jq:=@Bool.and_eq_true
noncomputable def Jr:=@List.getElem?_eq_none_iff
noncomputable def Js:=@PySem.sizeLine_eq
noncomputable def Jt:=@List.nil_append
noncomputable def Ju:=@PySem.wpAny_callSpecial?_slot
noncomputable def Jv:=@List.mem_append_left
noncomputable def Jw:=@List.mem_of_getElem?
noncomputable def Jx:=@PySem.wpAny_call_entry
noncomputable def Jy:=@List.take_length
noncomputable def Jz:=@List.pairwise_append
noncomputable def J5:=@List.drop_zero
noncomputable def J6:=@PySem.wpAny_newObj_type
noncomputable def J7:=@PySem.Heap.SameBut.update
noncomputable def J8:=@List.mem_or_eq_of_mem_set
noncomputable def J9:=@List.drop_eq_getElem_cons
noncomputable def JA:=@PySem.Heap.get?_update_self
noncomputable def JC:=@PySem.wpAny_Call_Name_kw
noncomputable def JD:=@List.cons_append
noncomputable def JE:=@List.lookup_cons
noncomputable def JF:=@List.getElem?_drop
noncomputable def JG:=@Nat.sub_self
noncomputable def JH:=@List.mem_replicate
noncomputable def JI:=@PySem.Heap.size_push
noncomputable def JJ:=@Nat.add_sub_cancel_left
noncomputable def JK:=@List.nodup_cons
noncomputable def JL:=@List.mem_map_of_mem
noncomputable def JM:=@Nat.ne_of_gt
noncomputable def JN:=@Nat.lt_irrefl
noncomputable def JO:=@List.all_cons
noncomputable def JP:=@decide_eq_decide
noncomputable def JQ:=@List.take_succ
noncomputable def JR:=@Array.getElem?_eq_getElem
noncomputable def JS:=@List.pairwise_iff_getElem
noncomputable def JT:=@Nat.le_succ
noncomputable def JU:=@Nat.le_of_lt
noncomputable def JV:=@List.find?_cons
noncomputable def JW:=@or_false
noncomputable def JX:=@Nat.pow_le_pow_right
noncomputable def JY:=@PySem.wpAny_loadPart_at
noncomputable def JZ:=@List.pairwise_map
noncomputable def J_:=@PySem.wpAny_typeNameOfWhole_keyiter
noncomputable def Ka:=@beq_self_eq_true
noncomputable def Kb:=@List.mem_reverse
noncomputable def Kc:=@List.drop_length
noncomputable def Ke:=@List.getElem?_set_self
noncomputable def Kf:=@List.getElem_cons_zero
noncomputable def Kg:=@Bool.false_eq_true
noncomputable def Kh:=@PySem.wpAny_passesOwn
noncomputable def Ki:=@PySem.F.slot_tuple_iterator_next
noncomputable def Kj:=@List.flatten_cons
noncomputable def Kk:=@List.ext_getElem?
noncomputable def Kl:=@PySem.W.kia_one
noncomputable def Km:=@if_false
noncomputable def Kn:=@List.range'_succ
noncomputable def Ko:=@PySem.F.slot_list_getattribute
noncomputable def Kp:=@List.ext_getElem
noncomputable def Kq:=@PySem.wpAny_typeNameOf_keyiter
noncomputable def Ks:=@List.getElem?_range
noncomputable def Kt:=@List.length_reverse
noncomputable def Ku:=@Array.toList_append
noncomputable def Kv:=@List.prefix_of_prefix_length_le
noncomputable def Kw:=@PySem.wpAny_getItem_str_slice
noncomputable def Kx:=@List.length_eq_zero_iff
noncomputable def Ky:=@Option.bind_eq_some_iff
noncomputable def Kz:=@Bool.eq_iff_iff
noncomputable def K0:=@List.length_set
noncomputable def K1:=@PySem.call_meets
noncomputable def K2:=@PySem.Obj.data_mapFields
noncomputable def K4:=@PySem.wpAny_pyIter_tuple
noncomputable def K6:=@PySem.codeAny_builtin
noncomputable def K7:=@List.getElem?_take
noncomputable def K8:=@PySem.Heap.get?_update_other
noncomputable def K9:=@Nat.lt_succ_of_lt
noncomputable def KA:=@decide_eq_true_eq
noncomputable def KC:=@List.flatMap_cons
noncomputable def KD:=@List.map_nil
noncomputable def KG:=@if_true
noncomputable def KH:=@List.length_singleton
noncomputable def KI:=@PySem.wpAny_seqItems
noncomputable def KJ:=@List.take_append_drop
noncomputable def KL:=@PySem.W.mg_of
noncomputable def KN:=@PySem.Heap.get?_none_of_le
noncomputable def KO:=@List.getElem?_set_ne
noncomputable def KP:=@PySem.wpAny_call
noncomputable def KQ:=@PySem.codeAny_call_builtin
noncomputable def KR:=@PySem.Around.under_plainId
noncomputable def KU:=@List.getElem?_append
noncomputable def KW:=@List.reverse_reverse
noncomputable def KY:=@List.range_eq_range'
noncomputable def KZ:=@Array.toArray_toList
noncomputable def K_:=@List.mem_iff_getElem
noncomputable def La:=@PySem.wpAny_standAt
noncomputable def Lb:=@List.any_cons
noncomputable def Lc:=@PySem.wpAny_newList
noncomputable def Ld:=@PySem.wpAny_attempt
noncomputable def Le:=@List.dropWhile_cons
noncomputable def Lf:=@PySem.Heap.get?_update_ne
noncomputable def Lg:=@PySem.wpAny_isSubtype_exc
noncomputable def Lh:=@List.length_pos_iff
noncomputable def Li:=@Option.map_some
noncomputable def Lj:=@PyProof.Rows.get?_update_seq
noncomputable def Lk:=@PySem.W.KasT.kasWp_bind
noncomputable def Ll:=@Nat.min_eq_left
noncomputable def Lm:=@List.mem_filterMap
noncomputable def Ln:=@Option.isSome_iff_exists
noncomputable def Lo:=@Nat.succ_mul
noncomputable def Lp:=@Nat.lt_trans
noncomputable def Lq:=@PySem.tupleKind_room_in1
noncomputable def Lr:=@PySem.wpAny_comprehension_free
noncomputable def Ls:=@Nat.zero_add
noncomputable def Lu:=@List.Pairwise.imp_of_mem
noncomputable def Lv:=@PySem.wpAny_setField_rec
noncomputable def Lw:=@PySem.wpAny_setField
noncomputable def Ly:=@List.prefix_iff_eq_take
noncomputable def Lz:=@PySem.wpAny_truthy_bool
noncomputable def L3:=@PySem.wpAny_pyIter_enum
noncomputable def L4:=@PySem.wpAny_pyIter_list
noncomputable def L5:=@PySem.wpAny_dictEntries
noncomputable def L6:=@PySem.Calls.callWith_builtin
noncomputable def L7:=@List.pairwise_lt_range
noncomputable def L8:=@List.dropWhile_sublist
noncomputable def L9:=@PyProof.Rows.listUpdate_at
noncomputable def LA:=@Nat.mul_assoc
noncomputable def LC:=@Nat.min_eq_right
noncomputable def LD:=@PySem.Obj.isFreed_of_fields
noncomputable def LF:=@List.pairwise_reverse
noncomputable def LG:=@List.mem_iff_getElem?
noncomputable def LH:=@PySem.wpAny_isOneOf_keyiter
noncomputable def LI:=@List.eraseIdx_eq_take_drop_succ
noncomputable def LJ:=@PySem.wpAny_execs_nil
noncomputable def LK:=@PySem.codeAny_mono
noncomputable def LL:=@List.forIn_cons
noncomputable def LM:=@PyProof.Rows.listItems_at
noncomputable def LN:=@List.range_succ
noncomputable def LO:=@Nat.sub_zero
noncomputable def LP:=@PySem.post_val_or_str
noncomputable def LQ:=@Nat.not_lt_zero
noncomputable def LR:=@List.mem_of_mem_take
noncomputable def LS:=@List.map_set
noncomputable def LU:=@List.filterMap_cons
noncomputable def LV:=@List.takeWhile_cons
noncomputable def LW:=@List.reverse_append
noncomputable def LX:=@List.toList_toArray
noncomputable def LY:=@PySem.F.args_tuple_iterator_next_1
noncomputable def LZ:=@PySem.W.looks_findIn
noncomputable def L_:=@PySem.wpAny_fieldsOf
noncomputable def Ma:=@PySem.wpAny_ite_true
noncomputable def Mb:=@Array.append_empty
noncomputable def Mc:=@PySem.F.entry_tuple_iterator_next
noncomputable def Md:=@PySem.Code.quiet_builtin
noncomputable def Me:=@Array.getD_eq_getD_getElem?
noncomputable def Mf:=@List.getElem_range
noncomputable def Mg:=@List.set_cons_zero
noncomputable def Mh:=@Nat.add_sub_cancel
noncomputable def Mi:=@List.map_replicate
noncomputable def Mj:=@List.prefix_append
noncomputable def Mk:=@Int.emod_lt_of_pos
noncomputable def Ml:=@PySem.Calls.Name_function_global
noncomputable def Mm:=@PySem.wpAny_letOwnedTupleGo_enum
noncomputable def Mn:=@Option.isSome_map
noncomputable def Mo:=@Array.size_append
noncomputable def Mp:=@bne_self_eq_false
noncomputable def Mq:=@Nat.lt_trichotomy
noncomputable def Mr:=@PySem.typeIs_int
noncomputable def Ms:=@PySem.wpAny_binaryOp_repeat_ref
noncomputable def Mt:=@PySem.Calls.call_function_entry
noncomputable def Mw:=@List.extract_eq_take_drop
noncomputable def Mx:=@List.exists_mem_of_ne_nil
noncomputable def My:=@Nat.not_lt
noncomputable def Mz:=@PySem.wpAny_eqBool_int
noncomputable def M0:=@PySem.W.callWith_K
noncomputable def M1:=@List.all_eq_true
noncomputable def M3:=@PySem.callType_new
noncomputable def M4:=@PySem.Heap.size_update
noncomputable def M5:=@Option.bind_some
noncomputable def M6:=@Array.toList_inj
noncomputable def M7:=@List.perm_middle
noncomputable def M8:=@Nat.min_self
noncomputable def M9:=@List.map_snd_zip
noncomputable def MB:=@List.getElem_map
noncomputable def MC:=@List.Perm.eq_of_pairwise
noncomputable def MD:=@List.map_map
noncomputable def ME:=@List.zipIdx_cons
noncomputable def MF:=@List.nodup_range
noncomputable def MG:=@List.getElem?_replicate
noncomputable def MH:=@PySem.wpAny_pyNext_enum_itemD
noncomputable def MI:=@List.getElem?_cons_succ
noncomputable def MJ:=@List.pairwise_singleton
noncomputable def MK:=@List.of_mem_zip
noncomputable def ML:=@List.foldl_cons
noncomputable def MM:=@PySem.wpAny_loadPart'
noncomputable def MO:=@List.length_zip
noncomputable def MP:=@PySem.wpAny_dictEpoch
noncomputable def MQ:=@Int.emod_nonneg
noncomputable def MR:=@PySem.wpAny_pyNext_list_item
noncomputable def MT:=@PySem.wpAny_pyNext_enum_endD
noncomputable def MU:=@Int.le_refl
noncomputable def MV:=@List.length_eq_one_iff
noncomputable def MW:=@Int.le_ediv_iff_mul_le
noncomputable def MX:=@Array.getElem?_eq_none
noncomputable def MY:=@Nat.lt_of_succ_lt_succ
noncomputable def MZ:=@Int.sub_mul
noncomputable def M_:=@Nat.pow_add
noncomputable def Na:=@List.drop_of_length_le
noncomputable def Nc:=@PySem.fitsIndex_both
noncomputable def Ng:=@Array.mem_iff_getElem
noncomputable def Nh:=@List.take_left
noncomputable def Ni:=@List.eq_nil_or_concat
noncomputable def Nj:=@PySem.wpAny_newTuple
noncomputable def Nk:=@List.countP_mono_left
noncomputable def Nl:=@List.set_append_right
noncomputable def Nm:=@List.singleton_append
noncomputable def Nn:=@PySem.typeIs_str
noncomputable def Np:=@PySem.wpAny_rule
noncomputable def Nr:=@PySem.plainId_quiet
noncomputable def Nt:=@List.take_nil
noncomputable def Nu:=@List.map_take
noncomputable def Nv:=@PySem.seqIndex_neg
noncomputable def Nx:=@Nat.le_of_eq
noncomputable def Ny:=@PySem.wpAny_typeOf
noncomputable def N2:=@Nat.pow_succ
noncomputable def N3:=@Nat.le_total
abbrev Key:=Sum Int Str
noncomputable def gQ:Key->Value->Bool
 |.inl k,v=>Value.isInt k v
 |.inr x,v=>Value.isStrOf x v
noncomputable def GB(w:World):Key->Int
 |.inl k=>hashInt k
 |.inr x=>hashStr w x
theorem bu:∀{k:Key} {v:Value},gQ k v=true->(∃i t,k=Sum.inl i/\v=Value.int i t)\/(∃x t,k=Sum.inr x/\v=Value.str x t)
 |.inl i,v,h=>by
  obtain⟨t,e⟩:=Value.isInt_shape (k:=i) (v:=v) h;exact .inl ⟨i,t,rfl,e⟩
 |.inr x,v,h=>by
  obtain⟨t,e⟩:=Value.isStrOf_shape (x:=x) (v:=v) h;exact .inr ⟨x,t,rfl,e⟩
theorem sZ(i:Int)(t:Tok):gQ (.inl i) (.int i t)=true:=by simp[gQ,Value.isInt]
theorem uy(x:Str)(t:Tok):gQ (.inr x) (.str x t)=true:=by simp[gQ,Value.isStrOf]
theorem Cv(a b:Int):decide ((Sum.inl a:Key)=Sum.inl b)=(a == b):=by
 by_cases e:a=b
 ·subst e;simp
 ·have h:¬ (Sum.inl a:Key)=Sum.inl b:=λq=>e (Sum.inl.inj q);rw[IE h];exact (Jn.mpr e).symm
theorem Cr(a b:Str):decide ((Sum.inr a:Key)=Sum.inr b)=decide (a=b):=by
 by_cases e:a=b
 ·subst e;simp
 ·have h:¬ (Sum.inr a:Key)=Sum.inr b:=λq=>e (Sum.inr.inj q);rw[IE h,IE e]
theorem C7(a:Int)(b:Str):decide ((Sum.inl a:Key)=Sum.inr b)=false:=IE (λq=>nomatch q)
theorem Dl(a:Str)(b:Int):decide ((Sum.inr a:Key)=Sum.inl b)=false:=IE (λq=>nomatch q)
noncomputable def bJ(prog:Program)(w:World):PySem.KeyKind prog w Key where
 is:=gQ
 hash:=GB w
 inj:=λv a b ha hb=>by
  rcases bu ha with ⟨i,t,rfl,rfl⟩|⟨x,t,rfl,rfl⟩
  ·rcases bu hb with ⟨j,u,rfl,e⟩|⟨y,u,rfl,e⟩
   ·injection e with e1 _;rw[e1]
   ·exact nomatch e
  ·rcases bu hb with ⟨j,u,rfl,e⟩|⟨y,u,rfl,e⟩
   ·exact nomatch e
   ·injection e with e1 _;rw[e1]
 byValue:=λk v h=>by
  rcases bu h with ⟨i,t,rfl,rfl⟩|⟨x,t,rfl,rfl⟩<;>rfl
 pyHash:=λhv h=>by
  rcases bu hv with ⟨i,t,rfl,rfl⟩|⟨x,t,rfl,rfl⟩
  ·exact wpAny_pyHash_int h
  ·exact wpAny_pyHash_str h
 eqBool:=λhu hv h=>by
  rcases bu hu with ⟨i,t,rfl,rfl⟩|⟨x,t,rfl,rfl⟩
  ·rcases bu hv with ⟨j,u,rfl,rfl⟩|⟨y,u,rfl,rfl⟩
   ·rw[Cv] at h;exact Mz h
   ·rw[C7] at h;exact SeqAt.EqAt.int_str i t y u _ _ _ _ h
  ·rcases bu hv with ⟨j,u,rfl,rfl⟩|⟨y,u,rfl,rfl⟩
   ·rw[Dl] at h;exact SeqAt.EqAt.str_int x t j u _ _ _ _ h
   ·rw[Cr] at h;exact wpAny_eqBool_str h
 «strs»:=λk x t v h=>by
  rcases bu h with ⟨i,u,rfl,e⟩|⟨y,u,rfl,e⟩
  ·exact nomatch e
  ·injection e with e1 _
   subst e1
   cases v<;>rfl
theorem oY(prog:Program)(w:World)(i:Int)(t:Tok):(bJ prog w).is (.inl i) (.int i t)=true:=sZ i t
theorem oF(prog:Program)(w:World)(x:Str)(t:Tok):(bJ prog w).is (.inr x) (.str x t)=true:=uy x t
inductive V where
 |aJ|bl (b:Bool)|int (i:Int)|str (x:Str)|qe (b:Array UInt8)|DT (b:UInt64)|ref (a:Addr)|ty (n:String)
 deriving DecidableEq
variable{xs:List V}
noncomputable def RelV:V->Value->Prop
 |.aJ,u=>u=Value.none
 |.bl b,u=>u=Value.bool b
 |.int i,u=>∃t,u=Value.int i t
 |.str x,u=>∃t,u=Value.str x t
 |.qe b,u=>∃t,u=Value.bytes b t
 |.DT b,u=>∃t,u=Value.float b t
 |.ref a,u=>u=Value.ref a
 |.ty n,u=>u=Value.type n
abbrev Vals:List V->List Value->Prop:=Paired RelV
theorem Vals.length(r:Vals xs us):xs.length=us.length:=Paired.length r
theorem Vals.get:∀{xs:List V} {us:List Value} {i:Nat} {x:V},Vals xs us->xs[i]?=some x->∃u,us[i]?=some u/\RelV x u
 |_,_,_,_,.nil,e=>by simp at e
 |_,_,0,_,.cons r _,e=>by simp at e;subst e;exact⟨_,rfl,r⟩
 |_,_,i+1,x,.cons _ t,e=>by
  obtain⟨u,h1,h2⟩:=Vals.get (i:=i) (x:=x) t (by simpa using e)
  exact⟨u,by simpa using h1,h2⟩
theorem Vals.set{x:V}(r:RelV x u):∀{xs:List V} {us:List Value} (i:Nat),Vals xs us->Vals (xs.set i x) (us.set i u)
 |_,_,_,.nil=>.nil
 |_,_,0,.cons _ t=>.cons r t
 |_,_,i+1,.cons q t=>.cons q (Vals.set r i t)
theorem Vals.append:∀{xs ys:List V} {us ws:List Value},Vals xs us->Vals ys ws->Vals (xs++ys) (us++ws)
 |_,_,_,_,.nil,s=>s
 |_,_,_,_,.cons r t,s=>.cons r (Vals.append t s)
theorem Vals.take:∀{xs:List V} {us:List Value} (n:Nat),Vals xs us->Vals (xs.take n) (us.take n)
 |_,_,0,_=>.nil
 |_,_,_+1,.nil=>.nil
 |_,_,n+1,.cons r t=>.cons r (Vals.take n t)
theorem Vals.drop:∀{xs:List V} {us:List Value} (n:Nat),Vals xs us->Vals (xs.drop n) (us.drop n)
 |_,_,0,r=>r
 |_,_,_+1,.nil=>.nil
 |_,_,n+1,.cons _ t=>Vals.drop n t
noncomputable def iO:Option V->Option Value->Prop
 |some v,some u=>RelV v u
 |none,none=>True
 |_,_=>False
noncomputable def KV{κ:Type}:List (κ×V)->List (κ×Value)->Prop:=Paired λ(p:κ×V) (q:κ×Value)=>p.1=q.1/\RelV p.2 q.2
noncomputable def kV:Key->V
 |.inl i=>.int i
 |.inr x=>.str x
inductive HO where
 |lst (xs:List V)
 |tup (xs:List V)
 |dK (kvs:List (Key×V))|dT (kvs:List (List Key×V))
 |set (S:Int->Bool) (n:Nat)
 |ins (C dx:Addr) (fs:List (Str×V))
 |own (x:Addr)
 |xd (fs:List (Str×V))
 |met (f x:Addr)
 |mO (lo hi:Int)
 |hU (o:Obj) (u:HO)
 |uH (ps:Array Value)
 |ext (φ:Heap->Prop)
variable{o:HO}
abbrev Hp:=Addr->Option HO
variable{H:Hp}
noncomputable def upd(H:Hp)(a:Addr)(o:HO):Hp:=λb=>if b=a then some o else H b
theorem aa:upd H a o a=some o:=by unfold upd;rw[Ig rfl]
theorem ae(h:b≠a):upd H a o b=H b:=by unfold upd;rw[H_ h]
theorem rL{u:HO}:upd (upd H a o) a u=upd H a u:=by
 funext b;unfold upd;split<;>rfl
theorem Eh{u:HO}(h:H a=some o)(h':H b=some u)(d:o≠u):a≠b:=by
 intro e;subst e;rw[h] at h';exact d (Option.some.inj h')
theorem ao(h:H a=some o)(h':H b=none):a≠b:=by
 intro e;subst e;rw[h] at h';cases h'
noncomputable def Hd:List Value->Str
 |.str q _::_=>q
 |_=>Str.ofString ""
noncomputable def vZ(ps:Array Value):Str:=Hd ps.toList
noncomputable def Bf(H:Hp)(q:Str)(cv:Value):Prop:=∃(c:Addr) (oc:Obj) (vs:Array Value) (t:Tok),cv=.ref c/\H c=some (.hU oc (.own c))/\oc.data=.fields vs/\vs[1]?=some (.str q t)
noncomputable def dn(h:Heap)(a:Addr)(items:Array Value):Prop:=∃o:Obj,h.get? a=some o/\o.cls=.type "tuple"/\∃n,o.data=.seq items n/\o.dict=none
theorem dn.to(x:dn h a items):IsTup h a items:=let ⟨o,e,c,n,d,_⟩:=x;⟨o,e,c,n,d⟩
theorem dn.new(h:Heap)(items:Array Value):dn (h.push {cls:=.type "tuple",data:=.seq items}) h.objs.size items:=⟨_,Ip h rfl,rfl,_,rfl,rfl⟩
theorem dn.lt(x:dn h a items):a<h.objs.size:=x.to.lt
section
variable (P:Program) (w:World)
noncomputable def aM(H:Hp)(h:Heap)(a:Addr):HO->Prop
 |.lst xs=>xs.length<=sizeLine/\∃(its:List Value) (n:Nat),Vals xs its/\h.get? a=some {cls:=.type "list",data:=.seq its.toArray n}
 |.tup xs=>xs.length<=sizeLine/\∃its:List Value,Vals xs its/\dn h a its.toArray
 |.dK kvs=>kvs.length<=sizeLine/\(a == sysModules)=false/\∃vs,KV kvs vs/\h.DictOf (bJ P w) a vs
 |.dT kvs=>kvs.length<=sizeLine/\(a == sysModules)=false/\∃xs:List (List Key×Addr×Value),
   Paired (λ(p:List Key×V) (q:List Key×Addr×Value)=>p.1=q.1/\H q.2.1=some (.tup (p.1.map kV))/\RelV p.2 q.2.2) kvs xs /\
   ∃o es ep,h.get? a=some o/\o.ExactDict/\o.data=.dict es ep/\es.toList=xs.map (entryOfKey (tupleKind (bJ P w)))/\(xs.map (·.1)).Nodup
 |.set S n=>h.SetOf (intKind P w) a S n
 |.ins C dx fs=>H dx=some (.own a)/\fs.length<=1000/\dx≠a/\h.get? a=some (W.instObj C dx) /\
   ∃mA,h.Ns1 dx mA/\(∀f,iO (fs.lookup f) (mA f))/\PySem.Within mA (fs.map (·.1))
 |.own _=>∃o,h.get? a=some o
 |.xd fs=>∃mA,h.Ns1 a mA/\∀f,iO (fs.lookup f) (mA f)
 |.mO lo hi=>∃t u v,h.get? a=some {cls:=.type "range",data:=.fields #[.int lo t,.int hi u,.int 1 v]}
 |.hU o u=>h.get? a=some o/\aM H h a u
 |.uH ps=>∃qs:Array Value,h.get? a=some {cls:=.none,data:=.fields qs}/\TriplesOk qs.toList/\∀pos cv,codeAmong pos qs.toList=some cv->Bf H (vZ ps) cv
 |.met f x=>h.get? a=some (W.methodObj (.ref f) (.ref x))
 |.ext φ=>φ h/\(∃o,h.get? a=some o)/\∀h1 h2:Heap,φ h1->(∀o,h1.get? a=some o->h2.get? a=some o)->φ h2
noncomputable def dz(H:Hp)(h:Heap):Prop:=∀a o,H a=some o->aM P w H h a o
end
section
variable {P:Program} {w:World} {H H':Hp} {h h':Heap} {a:Addr} {o:HO}
theorem aM.lt(x:aM P w H h a o):a<h.objs.size:=by
 cases o with
 |lst xs=>obtain⟨_,_,_,_,e⟩:=x;exact Io e
 |tup xs=>obtain⟨_,_,_,p⟩:=x;exact p.lt
 |dK kvs=>obtain⟨_,_,_,_,o,_,_,e,_⟩:=x;exact Io e
 |dT kvs=>obtain⟨_,_,_,_,o,_,_,e,_⟩:=x;exact Io e
 |set S n=>obtain⟨o,_,_,_,e,_⟩:=x;exact Io e
 |ins C dx fs=>obtain⟨_,_,_,e,_⟩:=x;exact Io e
 |own y=>obtain⟨_,e⟩:=x;exact Io e
 |xd fs=>obtain⟨_,⟨_,_,_,e,_⟩,_⟩:=x;exact Io e
 |mO lo hi=>obtain⟨_,_,_,e⟩:=x;exact Io e
 |hU ob u=>obtain⟨e,_⟩:=x;exact Io e
 |uH ps=>obtain⟨_,e,_⟩:=x;exact Io e
 |met f y=>exact Io (show h.get? a=some _ from x)
 |ext φ=>obtain⟨_,⟨_,e⟩,_⟩:=x;exact Io e
theorem Paired.uU{α β:Type}{F G:α->β->Prop}:∀{l₁:List α} {l₂:List β},Paired F l₁ l₂->(∀a b,F a b->G a b)->Paired G l₁ l₂
 |_,_,.nil,_=>.nil
 |_,_,.cons r t,f=>.cons (f _ _ r) (Paired.uU t f)
theorem aM.gP(x:aM P w H h a o)(k:∀b u,(b=a\/H b=some (.own a))->h.get? b=some u->h'.get? b=some u)
  (ho:∀b,H b=some (.own a)->H' b=some (.own a)) (ht:∀b xs,H b=some (.tup xs)->H' b=some (.tup xs)) (hz:∀b o u,H b=some (.hU o u)->H' b=some (.hU o u)):aM P w H' h' a o:=by
 induction o with
 |lst xs=>obtain⟨z,its,n,r,e⟩:=x;exact⟨z,its,n,r,k _ _ (.inl rfl) e⟩
 |tup xs=>obtain⟨z,its,r,ob,e,c⟩:=x;exact⟨z,its,r,ob,k _ _ (.inl rfl) e,c⟩
 |dK kvs=>obtain⟨z,y,vs,r,ob,es,ep,e,c⟩:=x;exact⟨z,y,vs,r,ob,es,ep,k _ _ (.inl rfl) e,c⟩
 |dT kvs =>
  obtain⟨z,y,xs,r,ob,es,ep,e,c⟩:=x;exact⟨z,y,xs,Paired.uU r λp q z=>⟨z.1,ht _ _ z.2.1,z.2.2⟩,ob,es,ep,k _ _ (.inl rfl) e,c⟩
 |set S n=>obtain⟨ob,es,ep,t,e,c⟩:=x;exact⟨ob,es,ep,t,k _ _ (.inl rfl) e,c⟩
 |ins C dx fs =>
  obtain⟨d,z,ne,e,mA,⟨od,es,ep,e2,c⟩,r⟩:=x;exact⟨ho _ d,z,ne,k _ _ (.inl rfl) e,mA,⟨od,es,ep,k _ _ (.inr d) e2,c⟩,r⟩
 |own y=>obtain⟨ob,e⟩:=x;exact⟨ob,k _ _ (.inl rfl) e⟩
 |xd fs=>obtain⟨mA,⟨od,es,ep,e,c⟩,r⟩:=x;exact⟨mA,⟨od,es,ep,k _ _ (.inl rfl) e,c⟩,r⟩
 |mO lo hi=>obtain⟨t,u,v,e⟩:=x;exact⟨t,u,v,k _ _ (.inl rfl) e⟩
 |hU ob u ih=>obtain⟨e,q⟩:=x;exact⟨k _ _ (.inl rfl) e,ih q⟩
 |uH ps =>
  obtain⟨qs,e,t,f⟩:=x;exact⟨qs,k a _ (.inl rfl) e,t,λpos cv q=>let ⟨c,oc,vs,t',e1,e2,e3⟩:=f pos cv q;⟨c,oc,vs,t',e1,hz _ _ _ e2,e3⟩⟩
 |met f y =>
  have e:h.get? a=some (W.methodObj (.ref f) (.ref y)):=x;show h'.get? a=some (W.methodObj (.ref f) (.ref y));exact k a _ (.inl rfl) e
 |ext φ=>obtain⟨p,⟨o,e⟩,st⟩:=x;exact⟨st _ _ p λo q=>k _ _ (.inl rfl) q,⟨o,k _ _ (.inl rfl) e⟩,st⟩
theorem dz.lt(x:dz P w H h)(e:H a=some o):a<h.objs.size:=(x a o e).lt
theorem dz.fresh(x:dz P w H h)(e:h.objs.size<=a):H a=none:=by
 cases q:H a with
 |none=>rfl
 |some u=>exact absurd (ID (x.lt q) e) (JN _)
theorem dz.kept(x:dz P w H h)(k:∀b u,h.get? b=some u->h'.get? b=some u):dz P w H h':=λa o e =>
 (x a o e).gP (λb u _ q=>k b u q) (λ_ q=>q) (λ_ _ q=>q) λ_ _ _ q=>q
theorem dz.laid(x:dz P w H h)(k:∀b u,h.get? b=some u->h'.get? b=some u)(hp:h.objs.size<=a)(new:aM P w (upd H a o) h' a o):dz P w (upd H a o) h':=λb u e=>by
 have hn:=x.fresh hp;by_cases hb:b=a
 ·subst hb;rw[aa] at e;cases e;exact new
 ·rw[ae hb] at e;exact (x b u e).gP (λc v _ q=>k c v q) (λc q=>by rw[ae (ao q hn)];exact q) (λc xs q=>by rw[ae (ao q hn)];exact q) λc _ _ q=>by rw[ae (ao q hn)];exact q
end
noncomputable def Rd(H:Hp)(a:Addr)(u:HO):Prop:=H a=some u\/∃o,H a=some (.hU o u)
theorem Rd.ok{u:HO}(r:Rd H a u)(x:dz P w H h):aM P w H h a u:=by
 rcases r with r|⟨o,r⟩
 ·exact x a u r
 ·obtain⟨_,q⟩:=x a _ r;exact q
noncomputable def EM:Option HO->Prop
 |some (.lst _)=>True
 |some (.dK _)=>True
 |some (.dT _)=>True
 |some (.set _ _)=>True
 |some (.ins _ _ _)=>True
 |some (.ext _)=>True
 |_=>False
section
variable {P:Program} {w:World} {H:Hp} {h h':Heap} {x e:Addr} {o':HO}
theorem dz.write(ok:dz P w H h)(mu:EM (H x))(he:e=x\/H e=some (.own x))(k:∀b u,b≠e->h.get? b=some u->h'.get? b=some u)(heo:∃u,h'.get? e=some u)
  (new:aM P w (upd H x o') h' x o'):dz P w (upd H x o') h':=λb u q=>by
 have nown:∀c y,H c=some (.own y)->c≠x:=λc y r z=>by subst z;rw[r] at mu;exact mu
 have ntup:∀c xs,H c=some (.tup xs)->c≠x:=λc xs r z=>by subst z;rw[r] at mu;exact mu
 have nfrz:∀c o1 u1,H c=some (.hU o1 u1)->c≠x:=λc _ _ r z=>by subst z;rw[r] at mu;exact mu
 by_cases hb:b=x
 ·subst hb;rw[aa] at q;cases q;exact new
 ·rw[ae hb] at q;by_cases hbe:b=e
  ·have q':H b=some (.own x):=by
    rcases he with z|z
    ·exact absurd (hbe.trans z) hb
    ·rw[hbe];exact z
   rw[q] at q';cases q';obtain⟨v,hv⟩:=heo;exact⟨v,by rw[hbe];exact hv⟩
  ·refine (ok b u q).gP (λc v hc r=>k c v ?_ r) (λc r=>by rw[ae (nown c b r)];exact r) (λc xs r=>by rw[ae (ntup c xs r)];exact r) λc _ _ r=>by rw[ae (nfrz c _ _ r)];exact r
   rcases hc with rfl|hc
   ·exact hbe
   ·rintro rfl;rcases he with z|z
    ·exact nown c b hc z
    ·rw[hc] at z;cases z;exact hb rfl
end
structure Un (fs ex:List Addr) (H H':Hp) (h h':Heap):Prop where
 keep:∀b o,h.get? b=some o->H b=none->b∉fs->b∉ex->h'.get? b=some o
 slot:∀b o,h.get? b=some o->H b=none->b∈fs->b∉ex->∃sl,h'.get? b=some {o with slots:=sl}
 free:∀b o,h.get? b=some o->H b=none->b∉ex->H' b=none
 there:∀b o,h.get? b=some o->b∉ex->∃o',h'.get? b=some o'
 iq:∀b xs,H b=some (.tup xs)->H' b=some (.tup xs)
 gy:∀b o u,H b=some (.hU o u)->H' b=some (.hU o u)
 gc:∀b ps,H b=some (.uH ps)->∃more,H' b=some (.uH (ps++more))
section
variable {fs fs' ex ex':List Addr} {H H1 H2:Hp} {h h1 h2 h':Heap} {a x e:Addr} {o:HO}
theorem Un.any(u:Un fs ex H H1 h h1){ob:Obj}(q:h.get? b=some ob)(n:H b=none)(hx:b∉ex):∃sl,h1.get? b=some {ob with slots:=sl}:=by
 by_cases hb:b∈fs
 ·exact u.slot b ob q n hb hx
 ·exact⟨ob.slots,u.keep b ob q n hb hx⟩
theorem Un.kept(k:∀b u,h.get? b=some u->h'.get? b=some u):Un fs ex H H h h':=
 ⟨λb ob q _ _ _=>k b ob q,λb ob q _ _ _=>⟨ob.slots,k b ob q⟩,λ_ _ _ n _=>n,λb ob q _=>⟨ob,k b ob q⟩,λ_ _ q=>q,λ_ _ _ q=>q,λ_ ps q=>⟨#[],by rw[q];simp⟩⟩
theorem Un.refl:Un fs ex H H h h:=Un.kept λ_ _ q=>q
theorem Un.laid(k:∀b u,h.get? b=some u->h'.get? b=some u)(hp:h.objs.size<=a)(hn:H a=none):Un fs ex H (upd H a o) h h' where
 keep:=λb u q _ _ _=>k b u q
 slot:=λb u q _ _ _=>⟨u.slots,k b u q⟩
 free:=λb u q n _=>by rw[ae (Iz (ID (Io q) hp))];exact n
 there:=λb u q _=>⟨u,k b u q⟩
 iq:=λb xs q=>by rw[ae (ao q hn)];exact q
 gy:=λb u xs q=>by rw[ae (ao q hn)];exact q
 gc:=λb ps q=>⟨#[],by rw[ae (ao q hn),q];simp⟩
theorem Un.write(mu:EM (H x))(he:e=x\/H e=some (.own x))(k:∀b u,b≠e->h.get? b=some u->h'.get? b=some u)(heo:∃u,h'.get? e=some u):Un fs ex H (upd H x o) h h':=by
 have hx:∀b,H b=none->b≠x:=λb n z=>by subst z;rw[n] at mu;exact mu
 have hb:∀b,H b=none->b≠e:=λb n z=>by
  subst z;rcases he with r|r
  ·exact hx b n r
  ·rw[n] at r;cases r
 have hm:∀b u,H b=some u->¬ EM (some u)->b≠x:=λb u q nm z=>by subst z;rw[q] at mu;exact nm mu
 refine⟨λb u q n _ _=>k b u (hb b n) q,λb u q n _ _=>⟨u.slots,k b u (hb b n) q⟩,λb u q n _=>by rw[ae (hx b n)];exact n,λb u q _=>?_,
  λb xs q=>by rw[ae (hm b _ q λz=>z)];exact q,λb u xs q=>by rw[ae (hm b _ q λz=>z)];exact q,λb ps q=>⟨#[],by rw[ae (hm b _ q λz=>z),q];simp⟩⟩
 by_cases hbe:b=e
 ·subst hbe;exact heo
 ·exact⟨u,k b u hbe q⟩
end
noncomputable def FR(h:Heap)(H:Hp):List Addr:=(List.range h.objs.size).filter λa=>(H a).isSome
noncomputable def ki(h:Heap)(H:Hp):Heap:=W.hideAll h (FR h H)
theorem tL(h:Heap)(H:Hp):(ki h H).objs.size=h.objs.size:=W.hideAll_size _ _
theorem gI{o:Obj}(e:h.get? b=some o)(n:H b=none):(ki h H).get? b=some o:=
 W.hideAll_get _ e λhm=>by
  have q:(H b).isSome=true:=(List.mem_filter.mp hm).2;rw[n] at q;simp at q
theorem yz{o:Obj}(e:(ki h H).get? b=some o):h.get? b=some o/\H b=none:=by
 have e':h.get? b=some o:=W.of_hideAll (FR h H) e;refine⟨e',?_⟩
 cases q:H b with
 |none=>rfl
 |some x =>
  have hm:b∈FR h H:=List.mem_filter.mpr ⟨Jc.mpr (Io e'),by simp[q]⟩
  have z:(ki h H).get? b=none:=W.hideAll_none (FR h H) hm;rw[z] at e;cases e
noncomputable def Aj(g h:Heap)(L:Addr):List (Addr×Obj):=(List.range h.objs.size).filterMap λa=>if a=L\/(g.get? a).isSome=true then none else (h.get? a).map λo=>(a,o)
noncomputable def rest(g h:Heap)(L d:Addr):List (Addr×Obj):=(Aj g h L).filter λp=>decide (p.1≠d)
noncomputable def cZ:List Str:=["by_worth","by_weight","code_of"]
noncomputable def bH(K:W.Frag):List (Addr×Addr×Str):=cZ.filterMap λx=>(W.tabIn K x).map λp=>(p.1,p.2,(x++".<locals>.")++"<lambda>")
noncomputable def TabsOk(K:W.Frag)(H:Hp):Prop:=∀t∈bH K,∃more,H t.2.1=some (.uH (#[.str t.2.2 0]++more))
theorem TabsOk.un{fs ex:List Addr}{H1:Hp}{h1:Heap}(x:TabsOk K H)(u:Un fs ex H H1 h h1):TabsOk K H1:=λt ht=>by
 obtain⟨m,e⟩:=x t ht;obtain⟨m2,e2⟩:=u.gc _ _ e;exact⟨m++m2,by rw[e2,Array.append_assoc]⟩
noncomputable def Dw(mg:Str->Option Value)(h:Heap):Prop:=∃bm ob,mg "__builtins__"=some (.ref bm)/\bm≠builtinsNs/\h.get? bm=some ob/\ob.cls=.type "module"/\ob.dict=some builtinsNs/\ob.data=.plain
structure Mod (K:W.Frag) (mg:Str->Option Value) (base:Heap):Prop where
 j_:K.In base
 glob:base.Ns mainGlobals mg
 blt:∃mb,base.Ns builtinsNs mb/\∀x:Str,x≠"__name__"->mb x=bootBuiltins x
 nolimit:base.NoLimit
 codes:∀t∈bH K,W.CodeHd base t.1 t.2.1
 bm:Dw mg base
structure Cx where
 prog:Program
 w:World
 K:W.Frag
 mg:Str->Option Value
 base:Heap
 A:Around
 N:List Str
 s₀:Shared
 H₀:Hp
 env:Env
 outer:List Env
 stack:List Env
 ex:List Addr
 fn:Str->Bool
 calm:Bool
 pn:List (Addr×Obj)
 xe:Value->Shared->Prop
variable{X:Cx}
noncomputable def gN(l:List Env):List Addr:=l.filterMap (·.frame)
abbrev Cx.fs(X:Cx):List Addr:=gN X.outer
noncomputable def Fs(sc:Scope)(x:Str):Prop:=sc.names.lookup x=some .local\/sc.names.lookup x=some .cell\/sc.names.lookup x=some .free
noncomputable def Loc(sc:Scope)(x:Str):Prop:=sc.names.lookup x=some .local\/sc.names.lookup x=some .cell
noncomputable def Look(env:Env)(h:Heap)(m:Str->Option Value)(x:Str)(u:Value):Prop:=
 (env.kindOf x=some .local/\m x=some u)\/((env.kindOf x=some .cell\/env.kindOf x=some .free)/\∃c,env.cells.lookup x=some c/\h.IsCell c (some u))
structure Cx.Ok (X:Cx):Prop where
 mod:Mod X.K X.mg X.base
 kind:X.env.scope.kind=.function
 glob:X.env.globals=mainGlobals
 blt:X.env.builtins=builtinsNs
 above:X.s₀.heap.objs.size<=X.env.locals
 inj:∀x y c,X.env.cells.lookup x=some c->X.env.cells.lookup y=some c->x=y
 has:∀x,(X.env.kindOf x=some .cell\/X.env.kindOf x=some .free)->∃c,X.env.cells.lookup x=some c
 xT:∀x c,X.fn x=true->X.env.cells.lookup x=some c->X.s₀.heap.objs.size<=c
 hd:X.calm=true->X.A.handled=none
 frames:X.A.frames=some X.stack
 yn:X.stack=X.outer\/(X.stack=X.env::X.outer/\X.env.frame=some X.env.locals)
 AU:∀b∈X.ex,b≠X.env.locals/\∀x c,X.env.cells.lookup x=some c->c≠b
 bs:∀b o,X.base.get? b=some o->X.s₀.heap.get? b=some o/\X.H₀ b=none
 pd:X.base.objs.size<=X.s₀.heap.objs.size
 jP:∀b o,X.base.get? b=some o->b∉X.ex
 kr:∀b∈X.ex,b∉X.fs
 eX:X.s₀.heap.FunFrames X.base X.outer
 u0:∀b∈X.fs,X.H₀ b=none
 tabs:TabsOk X.K X.H₀
structure Inv (X:Cx) (pins:List (Addr×Obj)) (σ:List (Option V)) (H:Hp) (s:Shared):Prop where
 ok:X.Ok
 os:s.os=X.s₀.os
 bare:AllBare s.gens
 base:Un X.fs X.ex X.H₀ H X.s₀.heap s.heap
 loc:∃m,s.heap.Ns X.env.locals m/\∀(i:Nat) (x:Str) (v:V),X.N[i]?=some x->σ[i]?=some (some v)->Fs X.env.scope x->∃u,RelV v u/\Look X.env s.heap m x u
 cell:∀x c,X.env.cells.lookup x=some c->∃v,s.heap.IsCell c v
 free:H X.env.locals=none
 bW:∀x c,X.env.cells.lookup x=some c->H c=none
 pin:∀p∈X.pn++pins,s.heap.get? p.1=some p.2/\H p.1=none/\p.1≠X.env.locals/\p.1∉X.fs/\∀v,p.2.data≠.cell v
 aI:dz X.prog X.w H s.heap
 len:σ.length=X.N.length
section
variable {X:Cx} {pins:List (Addr×Obj)} {σ:List (Option V)} {H H':Hp} {s:Shared} {h':Heap}
theorem Cx.Ok.Gx(ok:X.Ok){o:Obj}(e:X.base.get? b=some o):b∉X.fs:=λhb=>by
 have:=(ok.eX.mem hb).1;rw[e] at this;cases this
theorem Inv.bs(I:Inv X pins σ H s):∀b o,X.base.get? b=some o->s.heap.get? b=some o/\H b=none:=λb o e =>
 ⟨I.base.keep b o (I.ok.bs b o e).1 (I.ok.bs b o e).2 (I.ok.Gx e) (I.ok.jP b o e),I.base.free b o (I.ok.bs b o e).1 (I.ok.bs b o e).2 (I.ok.jP b o e)⟩
theorem Inv.bk(I:Inv X pins σ H s):∀b o,X.base.get? b=some o->s.heap.get? b=some o:=λb o e=>(I.bs b o e).1
theorem Inv.mod(I:Inv X pins σ H s):Mod X.K X.mg X.base:=I.ok.mod
theorem Inv.fo(I:Inv X pins σ H s):X.K.In s.heap:=I.ok.mod.j_.keeps I.bk
theorem Inv.nolimit(I:Inv X pins σ H s):s.heap.NoLimit:=I.ok.mod.nolimit.keeps I.bk
theorem Inv.lt(I:Inv X pins σ H s):X.env.locals<s.heap.objs.size:=let ⟨_,hn,_⟩:=I.loc;hn.lt
theorem Inv.sz(I:Inv X pins σ H s):X.s₀.heap.objs.size<=s.heap.objs.size:=Ia I.ok.above (JU I.lt)
theorem Inv.Ek(I:Inv X pins σ H s)(h:s.heap.objs.size<=a):a∉X.fs:=λhb=>by
 obtain⟨_,o,ho,_⟩:=I.ok.eX.mem hb;exact absurd (ID (Io ho) (Ia I.sz h)) (JN _)
theorem Inv.uh(I:Inv X pins σ H s):∀x c,X.env.cells.lookup x=some c->c≠X.env.locals:=λx c e z=>by
 obtain⟨v,o,ho,hd⟩:=I.cell x c e;obtain⟨m,⟨o',es,ep,ho',hd',_⟩,_⟩:=I.loc;rw[z,ho'] at ho;cases ho;rw[hd'] at hd;cases hd
theorem Inv.eX(I:Inv X pins σ H s):s.heap.FunFrames X.base X.outer:=by
 have all:∀(l:List Env),(∀b∈gN l,b∈X.fs)->X.s₀.heap.FunFrames X.base l->s.heap.FunFrames X.base l:=by
  intro l
  induction l with
  |nil=>intro _ _;trivial
  |cons env r ih =>
   intro hs hl;obtain⟨hk,⟨L,o,hf,hn,ho,hd⟩,hr⟩:=hl;have hL:L∈X.fs:=hs L (by unfold gN;rw[LU,hf];exact Ij)
   obtain⟨sl,e⟩:=I.base.slot L o ho (I.ok.u0 L hL) hL λz=>I.ok.kr L z hL;exact⟨hk,⟨L,_,hf,hn,e,hd⟩,ih (λb hb=>hs b (by unfold gN;rw[LU,hf];exact Ik _ hb)) hr⟩
 exact all X.outer (λ_ hb=>hb) I.ok.eX
theorem Inv.stack(I:Inv X pins σ H s):s.heap.FunFrames X.base X.stack:=by
 rcases I.ok.yn with e|⟨e,hf⟩
 ·rw[e];exact I.eX
 ·rw[e];obtain⟨m,hn,_⟩:=I.loc;refine .cons (by rw[I.ok.kind];decide) hf hn ?_ I.eX
  exact KN (Ia I.ok.pd I.ok.above)
theorem Inv.j0(I:Inv X pins σ H s):∀b∈gN X.stack,b∈X.env.locals::X.fs:=λb hb=>by
 rcases I.ok.yn with e|⟨e,hf⟩
 ·rw[e] at hb;exact Ik _ hb
 ·rw[e] at hb;unfold gN at hb;rw[LU,hf] at hb;exact hb
theorem Inv.iR(I:Inv X pins σ H s):∀b∈gN X.stack,H b=none:=λb hb=>by
 rcases Ih.mp (I.j0 b hb) with e|hb
 ·rw[e];exact I.free
 ·obtain⟨_,o,ho,_⟩:=I.ok.eX.mem hb;exact I.base.free b o ho (I.ok.u0 b hb) λz=>I.ok.kr b z hb
theorem Inv.step{t':Nat}{d':Drawn}(I:Inv X pins σ H s)
  (hch:∀b∈ch,(b∈X.ex\/X.s₀.heap.objs.size<=b)/\b≠X.env.locals/\(∀x c,X.env.cells.lookup x=some c->c≠b)/\∀p∈X.pn++pins,p.1≠b)
  (keep:∀b o,b≠X.env.locals->b∉X.fs->b∉ch->s.heap.get? b=some o->H b=none->h'.get? b=some o)
  (slot:∀b o,b≠X.env.locals->b∈X.fs->b∉ch->s.heap.get? b=some o->H b=none->∃sl,h'.get? b=some {o with slots:=sl}) (free:∀b o,b∉ch->s.heap.get? b=some o->H b=none->H' b=none)
  (there:∀b o,b∉ch->s.heap.get? b=some o->∃o',h'.get? b=some o')
  (iq:∀b xs,H b=some (.tup xs)->H' b=some (.tup xs)) (gy:∀b o u,H b=some (.hU o u)->H' b=some (.hU o u)) (gc:∀b ps,H b=some (.uH ps)->∃more,H' b=some (.uH (ps++more)))
  (ns:∀m,s.heap.Ns X.env.locals m->h'.Ns X.env.locals m) (aI:dz X.prog X.w H' h') (hg:AllBare g') :
  Inv X pins σ H' {s with heap:=h',gens:=g',drawn:=d',toks:=t'}:=by
 have neL:∀b o,X.s₀.heap.get? b=some o->b≠X.env.locals:=λb o e=>Iz (ID (Io e) I.ok.above);have neC:∀b o,X.s₀.heap.get? b=some o->b∉X.ex->b∉ch:=λb o e hx hb=>by
  rcases (hch b hb).1 with z|z
  ·exact hx z
  ·exact absurd (ID (Io e) z) (JN _)
 have cellK:∀x c,X.env.cells.lookup x=some c->∀v,s.heap.IsCell c v->h'.IsCell c v:=λx c e v ⟨o,ho,hd⟩=>by
  have nch:c∉ch:=λz=>(hch c z).2.2.1 x c e rfl;by_cases hc:c∈X.fs
  ·obtain⟨sl,q⟩:=slot c o (I.uh x c e) hc nch ho (I.bW x c e);exact⟨_,q,hd⟩
  ·exact⟨o,keep c o (I.uh x c e) hc nch ho (I.bW x c e),hd⟩
 refine⟨I.ok,I.os,hg,⟨λb o e n hb hx=>?_,λb o e n hb hx=>?_,λb o e n hx=>?_,λb o e hx=>?_,λb xs e=>iq b xs (I.base.iq b xs e),λb o xs e=>gy b o xs (I.base.gy b o xs e),λb ps e=>?_⟩,?_,λx c e=>?_,?_,λx c e=>?_,λp hp=>?_,aI,I.len⟩
 ·exact keep b o (neL b o e) hb (neC b o e hx) (I.base.keep b o e n hb hx) (I.base.free b o e n hx)
 ·obtain⟨sl,e1⟩:=I.base.slot b o e n hb hx;obtain⟨sl',e2⟩:=slot b _ (neL b o e) hb (neC b o e hx) e1 (I.base.free b o e n hx);exact⟨sl',e2⟩
 ·obtain⟨o',e1⟩:=I.base.there b o e hx;exact free b o' (neC b o e hx) e1 (I.base.free b o e n hx)
 ·obtain⟨o',e1⟩:=I.base.there b o e hx;exact there b o' (neC b o e hx) e1
 ·obtain⟨m1,e1⟩:=I.base.gc b ps e;obtain⟨m2,e2⟩:=gc b _ e1;exact⟨m1++m2,by rw[e2,Array.append_assoc]⟩
 ·obtain⟨m,hn,hl⟩:=I.loc;refine⟨m,ns m hn,λi x v e1 e2 e3=>?_⟩;obtain⟨u,r,l⟩:=hl i x v e1 e2 e3;refine⟨u,r,?_⟩;rcases l with l|⟨k,c,e,z⟩
  ·exact .inl l
  ·exact .inr ⟨k,c,e,cellK x c e _ z⟩
 ·obtain⟨v,z⟩:=I.cell x c e;exact⟨v,cellK x c e v z⟩
 ·obtain⟨m,⟨o,_,_,ho,_⟩,_⟩:=I.loc;exact free _ o (λz=>(hch _ z).2.1 rfl) ho I.free
 ·obtain⟨v,o,ho,hd⟩:=I.cell x c e;exact free c o (λz=>(hch c z).2.2.1 x c e rfl) ho (I.bW x c e)
 ·obtain⟨e,n,ne,nf,d⟩:=I.pin p hp;have nch:p.1∉ch:=λz=>(hch p.1 z).2.2.2 p hp rfl;exact⟨keep p.1 p.2 ne nf nch e n,free p.1 p.2 nch e n,ne,nf,d⟩
theorem Inv.un{t':Nat}(I:Inv X pins σ H s)(u:Un X.fs [] H H' s.heap h')(aI:dz X.prog X.w H' h'):Inv X pins σ H' {s with heap:=h',toks:=t'}:=by
 obtain⟨m,⟨o,es,ep,ho,r⟩,_⟩:=id I.loc;obtain⟨sl,hL⟩:=u.any ho I.free (by simp)
 exact I.step (g':=s.gens) (d':=s.drawn) (ch:=[]) (λ_ z=>nomatch z) (λb o _ hb _ e n=>u.keep b o e n hb (by simp)) (λb o _ hb _ e n=>u.slot b o e n hb (by simp)) (λb o _ e n=>u.free b o e n (by simp)) (λb o _ e=>u.there b o e (by simp)) u.iq u.gy u.gc (λm' hm=>by
  obtain⟨o',es',ep',ho',r'⟩:=hm;rw[ho] at ho';cases ho';exact⟨_,es',ep',hL,r'⟩) aI I.bare
theorem Inv.call{t':Nat}{d':Drawn}{ch:List Addr}(I:Inv X pins σ H s)(u:Un (gN X.stack) ch H H' s.heap h')(aI:dz X.prog X.w H' h')(hg:AllBare g')
  (hch:∀b∈ch,(b∈X.ex\/X.s₀.heap.objs.size<=b)/\b≠X.env.locals/\(∀x c,X.env.cells.lookup x=some c->c≠b)/\∀p∈X.pn++pins,p.1≠b) :
  Inv X pins σ H' {s with heap:=h',gens:=g',drawn:=d',toks:=t'}:=by
 obtain⟨m,⟨o,es,ep,ho,r⟩,_⟩:=id I.loc;obtain⟨sl,hL⟩:=u.any ho I.free λz=>(hch _ z).2.1 rfl;exact I.step (ch:=ch) hch (λb o hL hb hc e n=>u.keep b o e n (λz=>(Ih.mp (I.j0 b z)).elim hL hb) hc) (λb o _ _ hc e n=>u.any e n hc) (λb o hc e n=>u.free b o e n hc) (λb o hc e=>u.there b o e hc) u.iq u.gy u.gc (λm' hm=>by
  obtain⟨o',es',ep',ho',r'⟩:=hm;rw[ho] at ho';cases ho';exact⟨_,es',ep',hL,r'⟩) aI hg
theorem Inv.turned{t':Nat}{it:Addr}(I:Inv X pins σ H s)(k:∀b o,b≠it->s.heap.get? b=some o->h'.get? b=some o)(hn:H it=none)(hL:it≠X.env.locals)
  (h1:it∈X.ex\/X.s₀.heap.objs.size<=it) (h2:∀x c,X.env.cells.lookup x=some c->c≠it) (h3:∀p∈X.pn++pins,p.1≠it):Inv X pins σ H {s with heap:=h',toks:=t'}:=by
 have nit:∀b u,H b=some u->b≠it:=λb u e z=>by rw[z,hn] at e;cases e
 refine I.step (g':=s.gens) (d':=s.drawn) (ch:=[it]) (λb hb=>?_) (λb o _ _ hc e _=>k b o (λz=>hc (by simp[z])) e) (λb o _ _ hc e _=>⟨o.slots,k b o (λz=>hc (by simp[z])) e⟩) (λ_ _ _ _ n=>n)
  (λb o hc e=>⟨o,k b o (λz=>hc (by simp[z])) e⟩) (λ_ _ e=>e) (λ_ _ _ e=>e) (λb ps e=>⟨#[],by rw[e];simp⟩) (λm hm=>?_) (λb u e=>?_) I.bare
 ·have e:b=it:=by simpa using hb
  subst e;exact⟨h1,hL,h2,h3⟩
 ·obtain⟨o,es,ep,ho,r⟩:=hm;exact⟨o,es,ep,k _ o (I_ hL) ho,r⟩
 ·refine (I.aI b u e).gP (λc v hc q=>k c v ?_ q) (λ_ q=>q) (λ_ _ q=>q) λ_ _ _ q=>q;rcases hc with z|z
  ·rw[z];exact nit b u e
  ·exact nit c _ z
theorem Inv.tok(I:Inv X pins σ H s)(t:Nat):Inv X pins σ H {s with toks:=t}:=I.un (h':=s.heap) (t':=t) Un.refl I.aI
theorem Inv.kept{t':Nat}(I:Inv X pins σ H s)(k:∀b u,s.heap.get? b=some u->h'.get? b=some u):Inv X pins σ H {s with heap:=h',toks:=t'}:=I.un (Un.kept k) (I.aI.kept k)
theorem Inv.laid{t':Nat}(I:Inv X pins σ H s)(k:∀b u,s.heap.get? b=some u->h'.get? b=some u)(hp:s.heap.objs.size<=a)(new:aM X.prog X.w (upd H a o) h' a o):
  Inv X pins σ (upd H a o) {s with heap:=h',toks:=t'}:=I.un (Un.laid k hp (I.aI.fresh hp)) (I.aI.laid k hp new)
theorem Inv.write{x e:Addr}{t':Nat}(I:Inv X pins σ H s)(mu:EM (H x))(he:e=x\/H e=some (.own x))(k:∀b u,b≠e->s.heap.get? b=some u->h'.get? b=some u)(heo:∃u,h'.get? e=some u)
  (new:aM X.prog X.w (upd H x o) h' x o):Inv X pins σ (upd H x o) {s with heap:=h',toks:=t'}:=I.un (Un.write mu he k heo) (I.aI.write mu he k heo new)
theorem Inv.mD{pins':List (Addr×Obj)}(I:Inv X pins σ H s)(h:∀p∈pins',s.heap.get? p.1=some p.2/\H p.1=none/\p.1≠X.env.locals/\p.1∉X.fs/\∀v,p.2.data≠.cell v):Inv X pins' σ H s:=
 ⟨I.ok,I.os,I.bare,I.base,I.loc,I.cell,I.free,I.bW,λp hp=>(Jk.mp hp).elim (λz=>I.pin p (Jv _ z)) (h p),I.aI,I.len⟩
theorem jx(hN:N.Nodup)(a:N[i]?=some x)(b:N[j]?=some x):i=j:=by
 obtain⟨h1,e1⟩:=HZ.mp a;obtain⟨h2,e2⟩:=HZ.mp b;exact (List.getElem_inj hN).mp (e1.trans e2.symm)
theorem kK{A:Around}{v:V}{Q:Unit->Shared->Prop}(I:Inv X pins σ H s)(hN:X.N.Nodup)(hi:X.N[i]?=some x)(hx:Loc X.env.scope x)(r:RelV v u)
  (h:∀s',Inv X pins (σ.set i (some v)) H s'->(∃a,Heap.SameBut a s.heap s'.heap/\(a=X.env.locals\/X.env.cells.lookup x=some a))->Q () s') (hf:autoParam (X.fn x=true\/X.env.scope.names.lookup x=some .local) ℜ2):wpAny M A (storeName X.env x u) Q E s:=by
 obtain⟨m,hn,hl⟩:=id I.loc;have hcls:(X.env.scope.kind == .class || (X.env.scope.kind == .module && X.env.locals != X.env.globals))=false:=by rw[I.ok.kind];rfl
 have hiσ:i<σ.length:=by rw[I.len];exact (HZ.mp hi).1
 have uh:=I.uh;have tracked:∀{a:Addr} {h':Heap},(∃o,s.heap.get? a=some o/\H a=none)->Heap.SameBut a s.heap h'->dz X.prog X.w H h':=λ{a h'} ha hs b ob e=>by
  obtain⟨_,_,hfree⟩:=ha;refine (I.aI b ob e).gP (λc w' hc q=>(hs.2 c ?_).trans q) (λ_ q=>q) (λ_ _ q=>q) λ_ _ _ q=>q;rintro rfl;rcases hc with rfl|hc
  ·rw[hfree] at e;cases e
  ·rw[hfree] at hc;cases hc
 rcases hx with hk|hk
 ·refine wpAny_storeName_local hk hn (λh' hn' hs=>?_) hcls;obtain⟨oL,_,_,hoL,_⟩:=id hn;refine h _ ⟨I.ok,I.os,I.bare,⟨λb o e n hb hx=>?_,λb o e n hb hx=>?_,I.base.free,λb o e hx=>?_,I.base.iq,I.base.gy,I.base.gc⟩,⟨_,hn',λj y v' e1 e2 e3=>?_⟩,λy c e=>?_,I.free,I.bW,λp hp=>?_,tracked ⟨oL,hoL,I.free⟩ hs,by simpa using I.len⟩ ⟨_,hs,.inl rfl⟩
  ·exact (hs.2 b (Iz (ID (Io e) I.ok.above))).trans (I.base.keep b o e n hb hx)
  ·obtain⟨sl,e1⟩:=I.base.slot b o e n hb hx;exact⟨sl,(hs.2 b (Iz (ID (Io e) I.ok.above))).trans e1⟩
  ·obtain⟨o',e1⟩:=I.base.there b o e hx;exact⟨o',(hs.2 b (Iz (ID (Io e) I.ok.above))).trans e1⟩
  ·by_cases hj:j=i
   ·subst hj;rw[hi] at e1;cases e1;rw[Ke hiσ] at e2;cases e2;exact⟨u,r,.inl ⟨hk,by simp⟩⟩
   ·rw[KO (I_ hj)] at e2;obtain⟨u',r',q⟩:=hl j y v' e1 e2 e3;refine⟨u',r',?_⟩;rcases q with ⟨k,e⟩|⟨k,c,e,z⟩
    ·refine .inl ⟨k,?_⟩;have:y≠x:=λe=>hj (jx hN e1 (e ▸ hi));simp[this,e]
    ·exact .inr ⟨k,c,e,z.sameBut hs (uh y c e)⟩
  ·obtain⟨w',z⟩:=I.cell y c e;exact⟨w',z.sameBut hs (uh y c e)⟩
  ·obtain⟨e,n,ne,nf,d⟩:=I.pin p hp;exact⟨(hs.2 p.1 ne).trans e,n,ne,nf,d⟩
 ·have hfn:X.fn x=true:=by
   rcases hf with z|z
   ·exact z
   ·rw[z] at hk;cases hk
  obtain⟨c,hc⟩:=I.ok.has x (.inl hk);obtain⟨w',z⟩:=I.cell x c hc;refine wpAny_storeName_cell I.ok.kind hk hc z (λh' hc' hs=>?_);obtain⟨oc,hoc,hocd⟩:=id z;refine h {s with heap:=h'} ⟨I.ok,I.os,I.bare,⟨λb o e n hb hx=>?_,λb o e n hb hx=>?_,I.base.free,λb o e hx=>?_,I.base.iq,I.base.gy,I.base.gc⟩,⟨m,hn.sameBut hs (I_ (uh x c hc)),λj y v' e1 e2 e3=>?_⟩,λy c' e=>?_,I.free,I.bW,λp hp=>?_,tracked ⟨oc,hoc,I.bW x c hc⟩ hs,by simpa using I.len⟩ ⟨c,hs,.inr hc⟩
  ·exact (hs.2 b (Iz (ID (Io e) (I.ok.xT x c hfn hc)))).trans (I.base.keep b o e n hb hx)
  ·obtain⟨sl,e1⟩:=I.base.slot b o e n hb hx;exact⟨sl,(hs.2 b (Iz (ID (Io e) (I.ok.xT x c hfn hc)))).trans e1⟩
  ·obtain⟨o',e1⟩:=I.base.there b o e hx;exact⟨o',(hs.2 b (Iz (ID (Io e) (I.ok.xT x c hfn hc)))).trans e1⟩
  ·by_cases hj:j=i
   ·subst hj;rw[hi] at e1;cases e1;rw[Ke hiσ] at e2;cases e2;exact⟨u,r,.inr ⟨.inl hk,c,hc,hc'⟩⟩
   ·rw[KO (I_ hj)] at e2;obtain⟨u',r',q⟩:=hl j y v' e1 e2 e3;refine⟨u',r',?_⟩;rcases q with q|⟨k,c',e,z'⟩
    ·exact .inl q
    ·refine .inr ⟨k,c',e,z'.sameBut hs ?_⟩;rintro rfl;exact hj (jx hN e1 (I.ok.inj _ _ _ e hc ▸ hi))
  ·by_cases hcc:c'=c
   ·subst hcc;exact⟨_,hc'⟩
   ·obtain⟨w2,z2⟩:=I.cell y c' e;exact⟨w2,z2.sameBut hs hcc⟩
  ·obtain⟨e,n,ne,nf,d⟩:=I.pin p hp;refine⟨(hs.2 p.1 ?_).trans e,n,ne,nf,d⟩;intro q;rw[q,hoc] at e;have q':oc=p.2:=Option.some.inj e;exact d w' (by rw[<- q'];exact hocd)
theorem j9{A:Around}{v:V}{Q:Unit->Shared->Prop}(I:Inv X pins σ H s)(hN:X.N.Nodup)(hi:X.N[i]?=some x)(hx:Loc X.env.scope x)(r:RelV v u)
  (h:∀s',Inv X pins (σ.set i (some v)) H s'->Q () s') (hf:autoParam (X.fn x=true\/X.env.scope.names.lookup x=some .local) ℜ2):wpAny M A (storeName X.env x u) Q E s:=
 kK I hN hi hx r (λs' I' _=>h s' I') hf
theorem Inv.xX(I:Inv X pins σ H s)(ho:s'.os=s.os)(u:Un (gN X.stack) ch H H' s.heap s'.heap)(aI:dz X.prog X.w H' s'.heap)(hg:AllBare s'.gens)
  (hch:∀b∈ch,(b∈X.ex\/X.s₀.heap.objs.size<=b)/\b≠X.env.locals/\(∀x c,X.env.cells.lookup x=some c->c≠b)/\∀p∈X.pn++pins,p.1≠b):Inv X pins σ H' s':=by
 obtain⟨h',g',d',t',o'⟩:=s';have e:o'=s.os:=ho;subst e;exact I.call (g':=g') (t':=t') (d':=d') u aI hg hch
end
abbrev XK:=Value->Option Addr->Hp->Prop
abbrev St:=List (Option V)
variable{σ:St}
abbrev VK:=V->Hp->Prop
abbrev TE:=St->Hp->VK->Prop
abbrev TT:=St->Hp->(Bool->Hp->Prop)->Prop
abbrev TA:=St->Hp->(List V->Hp->Prop)->Prop
structure Ends where
 nx:St->Hp->Prop
 rt:VK
 bk:St->Hp->Prop:=λ_ _=>False
 ct:St->Hp->Prop:=λ_ _=>False
variable{D:Ends}
abbrev TS:=Ends->St->Hp->Prop
variable{tb:TS}
noncomputable def EP(X:Cx)(pins:List (Addr×Obj))(σ:St)(Q:VK)(u:Value)(s':Shared):Prop:=∃v H',Inv X pins σ H' s'/\RelV v u/\Q v H'
noncomputable def TP(X:Cx)(pins:List (Addr×Obj))(σ:St)(Q:Bool->Hp->Prop)(b:Bool)(s':Shared):Prop:=∃H',Inv X pins σ H' s'/\Q b H'
noncomputable def AP(X:Cx)(pins:List (Addr×Obj))(σ:St)(Q:List V->Hp->Prop)(us:List Value)(s':Shared):Prop:=∃vs H',Inv X pins σ H' s'/\Vals vs us/\Q vs H'
noncomputable def SP(X:Cx)(pins:List (Addr×Obj))(D:Ends)(f:Flow)(s':Shared):Prop:=
 match f with
 |.next=>∃σ' H',Inv X pins σ' H' s'/\D.nx σ' H'
 |.brk=>∃σ' H',Inv X pins σ' H' s'/\D.bk σ' H'
 |.cont=>∃σ' H',Inv X pins σ' H' s'/\D.ct σ' H'
 |.ret u=>∃v σ' H',Inv X pins σ' H' s'/\RelV v u/\D.rt v H'
noncomputable def PE(X:Cx)(e:Expr)(t:TE):Prop:=
 ∀(pins:List (Addr×Obj)) (s:Shared) (σ:St) (H:Hp) (Q:VK),Inv X pins σ H s->t σ H Q->wpAny (model X.prog X.w) X.A (eval e X.env) (EP X pins σ Q) X.xe s
noncomputable def PT(X:Cx)(e:Expr)(t:TT):Prop:=
 ∀(pins:List (Addr×Obj)) (s:Shared) (σ:St) (H:Hp) (Q:Bool->Hp->Prop),Inv X pins σ H s->t σ H Q->wpAny (model X.prog X.w) X.A (isTrue e X.env (eval e X.env)) (TP X pins σ Q) X.xe s
noncomputable def PW(X:Cx)(e:Expr)(t:TT):Prop:=
 ∀(whole:Sem Value) (pins:List (Addr×Obj)) (s:Shared) (σ:St) (H:Hp) (Q:Bool->Hp->Prop),Inv X pins σ H s->t σ H Q->wpAny (model X.prog X.w) X.A (isTrue e X.env whole) (TP X pins σ Q) X.xe s
theorem PW.pt{t:TT}(h:PW X e t):PT X e t:=h _
noncomputable def PA(X:Cx)(es:List Expr)(t:TA):Prop:=
 ∀(pos:Pos) (pins:List (Addr×Obj)) (s:Shared) (σ:St) (H:Hp) (Q:List V->Hp->Prop),Inv X pins σ H s->t σ H Q->wpAny (model X.prog X.w) X.A (spliced (backTo pos (starEach es X.env))) (AP X pins σ Q) X.xe s
noncomputable def PS(X:Cx)(st:Stmt)(t:TS):Prop:=
 ∀(pins:List (Addr×Obj)) (s:Shared) (σ:St) (H:Hp) (D:Ends),Inv X pins σ H s->t D σ H->wpAny (model X.prog X.w) X.A (exec st X.env) (SP X pins D) X.xe s
noncomputable def pj(X:Cx)(st:List Stmt)(t:TS):Prop:=
 ∀(pins:List (Addr×Obj)) (s:Shared) (σ:St) (H:Hp) (D:Ends),Inv X pins σ H s->t D σ H->wpAny (model X.prog X.w) X.A (execs st X.env) (SP X pins D) X.xe s
theorem bD{α:Type}{t:Sem α}{Q Q':α->Shared->Prop}{A:Around}{s:Shared}(h:wpAny M A t Q E s)(hQ:∀a s,Q a s->Q' a s):wpAny M A t Q' E s:=IZ h hQ λ_ _ x=>x
section
variable {X:Cx}
noncomputable def jf(i:Nat):TE:=λσ H Q=>∃v,σ[i]?=some (some v)/\Q v H
noncomputable def tC(v:V):TE:=λ_ H Q=>Q v H
theorem BY{pos:Pos}(hN:X.N[i]?=some x)(hv:Fs X.env.scope x)(hd:autoParam ((x ==("__debug__":Str))=false) ℜ1)(fM:autoParam ((x ==("__classdict__":Str))=false) ℜ1):PE X (.Name x pos) (jf i):=by
 intro pins s σ H Q I h;obtain⟨v,e,h⟩:=h;obtain⟨m,hn,hl⟩:=I.loc;obtain⟨u,r,l⟩:=hl i x v hN e hv;have fin:EP X pins σ Q u s:=⟨v,H,I,r,h⟩;rcases l with ⟨hk,hm⟩|⟨hk,c,hc,hcell⟩
 ·exact wpAny_Name (wpAny_loadName_local I.ok.kind hk hn hm fin) hd
 ·rcases hk with hk|hk
  ·exact wpAny_Name (wpAny_loadName_cell I.ok.kind hk hc hcell fin) hd
  ·exact wpAny_Name (wpAny_loadName_free I.ok.kind hk hc hcell fin fM) hd
theorem wH{i j pos}:PE X (.Constant (.int i) j pos) (tC (.int i)):=λ_ _ _ H _ I h=>wpAny_Constant_int ⟨.int i,H,I.tok _,⟨_,rfl⟩,h⟩
theorem AH{b j pos}:PE X (.Constant (.bool b) j pos) (tC (.bl b)):=λ_ _ _ H _ I h=>Constant_bool ⟨.bl b,H,I,rfl,h⟩
theorem vW{j pos}:PE X (.Constant .none j pos) (tC .aJ):=λ_ _ _ H _ I h=>Constant_none ⟨.aJ,H,I,rfl,h⟩
theorem uR{x j pos}:PE X (.Constant (.str x) j pos) (tC (.str x)):=λ_ _ _ H _ I h=>Calls.Constant_str ⟨.str x,H,I.tok _,⟨_,rfl⟩,h⟩
noncomputable def Gl(X:Cx)(x:Str):Prop:=X.env.kindOf x=some .globalImplicit
theorem d5{s:Shared}{pos:Pos}(I:Inv X pins σ H s)(hg:Gl X x)(hm:X.mg x=some u)(h:Q u s)
  (hd:autoParam ((x ==("__debug__":Str))=false) ℜ1):wpAny (model X.prog X.w) X.A (eval (.Name x pos) X.env) Q E s:=
 Ml I.ok.kind hg (Calls.loadGlobal_global (by rw[I.ok.glob];exact I.mod.glob.keeps I.bk) hm h) hd
theorem dO{s:Shared}{pos:Pos}(I:Inv X pins σ H s)(hg:Gl X x)(hm:X.mg x=none)(hv:bootBuiltins x=some u)(h:Q u s)
  (hn:autoParam (x≠"__name__") ℜ1) (hd:autoParam ((x ==("__debug__":Str))=false) ℜ1):wpAny (model X.prog X.w) X.A (eval (.Name x pos) X.env) Q E s:=by
 obtain⟨mb,h1,h2⟩:=I.mod.blt;exact Ml I.ok.kind hg (Calls.loadGlobal_builtin (by rw[I.ok.glob];exact I.mod.glob.keeps I.bk) hm (by rw[I.ok.blt];exact h1.keeps I.bk) ((h2 x hn).trans hv) h) hd
theorem rE{v:V}{pos:Pos}(hg:Gl X x)(hm:X.mg x=some u)(r:RelV v u)(hd:autoParam ((x ==("__debug__":Str))=false) ℜ1):PE X (.Name x pos) (tC v):=
 λ_ _ _ H _ I h=>d5 I hg hm ⟨v,H,I,r,h⟩ hd
theorem yD{v:V}{pos:Pos}(hg:Gl X x)(hm:X.mg x=none)(hv:bootBuiltins x=some u)(r:RelV v u)(hn:autoParam (x≠"__name__") ℜ1)(hd:autoParam ((x ==("__debug__":Str))=false) ℜ1):PE X (.Name x pos) (tC v):=
 λ_ _ _ H _ I h=>dO I hg hm hv ⟨v,H,I,r,h⟩ hn hd
variable {a b:Expr} {ta tb:TE} {pos:Pos}
variable {tA tB':TT} {rest:List Expr}
noncomputable def uO(t u:TT):TT:=λσ H Q=>t σ H λc H1=>if c=true then u σ H1 Q else Q false H1
noncomputable def E3(t u:TT):TT:=λσ H Q=>t σ H λc H1=>if c=true then Q true H1 else u σ H1 Q
noncomputable def wX(t:TT):TT:=λσ H Q=>t σ H λc H1=>Q (!c) H1
theorem z_(ha:PT X a tA):PW X (.BoolOp .And [a] pos) tA:=by
 intro wh pins s σ H Q I h;refine isTrue_and (bD (ha pins s σ H Q I h) λc s1 e=>?_)
 cases c with
 |true=>exact isTrue_and_nil e
 |false=>exact e
theorem Cy(ha:PT X a tA):PW X (.BoolOp .Or [a] pos) tA:=by
 intro wh pins s σ H Q I h;refine isTrue_or (bD (ha pins s σ H Q I h) λc s1 e=>?_)
 cases c with
 |false=>exact isTrue_or_nil e
 |true=>exact e
theorem BX(ha:PT X a tA)(hb:PW X (.BoolOp .And (b::rest) pos) tB'):PW X (.BoolOp .And (a::b::rest) pos) (uO tA tB'):=by
 intro wh pins s σ H Q I h;refine isTrue_and (bD (ha pins s σ H _ I h) λc s1 hq7=>?_);obtain⟨H1,I1,q1⟩:=hq7
 cases c with
 |true=>exact hb wh pins s1 σ H1 Q I1 q1
 |false=>exact⟨H1,I1,q1⟩
theorem Ey(ha:PT X a tA)(hb:PW X (.BoolOp .Or (b::rest) pos) tB'):PW X (.BoolOp .Or (a::b::rest) pos) (E3 tA tB'):=by
 intro wh pins s σ H Q I h;refine isTrue_or (bD (ha pins s σ H _ I h) λc s1 hq8=>?_);obtain⟨H1,I1,q1⟩:=hq8
 cases c with
 |true=>exact⟨H1,I1,q1⟩
 |false=>exact hb wh pins s1 σ H1 Q I1 q1
theorem BR(ha:PT X a tA):PT X (.UnaryOp .Not a pos) (wX tA):=by
 intro pins s σ H Q I h;exact isTrue_not (ha pins s σ H (λc H1=>Q (!c) H1) I h)
noncomputable def nF(ta tb:TE):TE:=λσ H Q=>ta σ H λx H1=>∃c,x=.bl c/\if c=true then tb σ H1 Q else Q (.bl false) H1
noncomputable def n_(ta:TE):TE:=λσ H Q=>ta σ H λx H1=>∃c,x=.bl c/\Q (.bl (!c)) H1
theorem CO{op}{t:TE}(h:PE X a t):PE X (.BoolOp op [a] pos) t:=λpins s σ H Q I hw=>BoolOp_one (h pins s σ H Q I hw)
theorem CD(ha:PE X a ta)(hb:PE X (.BoolOp .And (b::rest) pos) tb):PE X (.BoolOp .And (a::b::rest) pos) (nF ta tb):=by
 intro pins s σ H Q I h;refine BoolOp_and (bD (ha pins s σ H _ I h) λv s1 hq9=>?_);obtain⟨x,H1,I1,r1,q1⟩:=hq9;obtain⟨c,rfl,q1⟩:=q1;cases r1;refine Lz ?_
 cases c with
 |true=>exact hb pins s1 σ H1 Q I1 q1
 |false=>exact⟨.bl false,H1,I1,rfl,q1⟩
theorem Cg(ha:PE X a ta):PE X (.UnaryOp .Not a pos) (n_ ta):=by
 intro pins s σ H Q I h;refine UnaryOp_ (bD (ha pins s σ H _ I h) λv s1 hq11=>?_);obtain⟨x,H1,I1,r1,q1⟩:=hq11;obtain⟨c,rfl,q1⟩:=q1;cases r1;exact not_of (Lz ⟨.bl (!c),H1,I1,rfl,q1⟩)
noncomputable def DY(t:TT)(ta tb:TE):TE:=λσ H Q=>t σ H λc H1=>if c=true then ta σ H1 Q else tb σ H1 Q
theorem xF{c:Expr}(hc:PT X c tA)(ha:PE X a ta)(hb:PE X b tb):PE X (.IfExp c a b pos) (DY tA ta tb):=by
 intro pins s σ H Q I h;refine wpAny_IfExp (bD (hc pins s σ H _ I h) λd s1 hq12=>?_);obtain⟨H1,I1,q1⟩:=hq12
 cases d with
 |true=>exact ha pins s1 σ H1 Q I1 q1
 |false=>exact hb pins s1 σ H1 Q I1 q1
end
noncomputable def bz(K:W.Frag)(H:Hp)(a:Addr)(xs:List V):Prop:=
 Rd H a (.lst xs) \/
  ∃(o:Obj) (its:Array Value) (n:Nat),K.lookup a=some o/\o.cls=.type "list"/\o.dict=none/\o.data=.seq its n/\its.size<=sizeLine/\Vals xs its.toList
noncomputable def bq(K:W.Frag)(H:Hp)(a:Addr)(xs:List V):Prop:=
 Rd H a (.tup xs) \/
  ∃(o:Obj) (its:Array Value) (n:Nat),K.lookup a=some o/\o.cls=.type "tuple"/\o.data=.seq its n/\its.size<=sizeLine/\Vals xs its.toList
noncomputable def Gi:Value->Option V
 |.none=>some .aJ
 |.bool b=>some (.bl b)
 |.int i _=>some (.int i)
 |.str x _=>some (.str x)
 |.bytes b _=>some (.qe b)
 |.float b _=>some (.DT b)
 |.ref a=>some (.ref a)
 |.type n=>some (.ty n)
 |_=>none
theorem RelV.abs{x:V}(r:RelV x u):Gi u=some x:=by
 cases x with
 |aJ=>cases r;rfl
 |bl _=>cases r;rfl
 |int _=>obtain⟨t,rfl⟩:=r;rfl
 |str _=>obtain⟨t,rfl⟩:=r;rfl
 |qe _=>obtain⟨t,rfl⟩:=r;rfl
 |DT _=>obtain⟨t,rfl⟩:=r;rfl
 |ref _=>cases r;rfl
 |ty _=>cases r;rfl
theorem RelV.inj{x y:V}(r:RelV x u)(q:RelV y u):x=y:=Option.some.inj (r.abs.symm.trans q.abs)
theorem Vals.inj:∀{xs ys:List V} {us:List Value},Vals xs us->Vals ys us->xs=ys
 |_,_,_,.nil,.nil=>rfl
 |_,_,_,.cons r t,.cons r' t'=>by rw[r.inj r',Vals.inj t t']
section
variable {X:Cx} {pins:List (Addr×Obj)} {σ:St} {H:Hp} {s:Shared} {a:Addr} {xs ys:List V}
theorem bz.of(h:H a=some (.lst xs)):bz K H a xs:=.inl (.inl h)
theorem bq.of(h:H a=some (.tup xs)):bq K H a xs:=.inl (.inl h)
theorem Inv.list(I:Inv X pins σ H s)(h:bz X.K H a xs):∃its:List Value,Vals xs its/\PlainL s.heap a its.toArray/\xs.length<=sizeLine:=by
 rcases h with h|⟨o,its,n,hk,hc,hd,hs,hz,r⟩
 ·obtain⟨z,its,n,r,e⟩:=h.ok I.aI;exact⟨its,r,⟨_,n,e,rfl,rfl,rfl⟩,z⟩
 ·refine⟨its.toList,r,⟨o,n,I.fo a o hk,hc,hd,by simpa using hs⟩,?_⟩
  have e:=r.length;simp only[IU] at e;lia
theorem Inv.tuple(I:Inv X pins σ H s)(h:bq X.K H a xs):∃its:List Value,Vals xs its/\IsTup s.heap a its.toArray/\xs.length<=sizeLine:=by
 rcases h with h|⟨o,its,n,hk,hc,hs,hz,r⟩
 ·obtain⟨z,its,r,p⟩:=h.ok I.aI;exact⟨its,r,p.to,z⟩
 ·refine⟨its.toList,r,⟨o,I.fo a o hk,hc,n,by simpa using hs⟩,?_⟩
  have e:=r.length;simp only[IU] at e;lia
theorem Inv.jy(I:Inv X pins σ H s)(h:bz X.K H a xs)(h':bz X.K H a ys):xs=ys:=by
 obtain⟨its,r,⟨o,n,e,_,_,d⟩,_⟩:=I.list h;obtain⟨its',r',⟨o',n',e',_,_,d'⟩,_⟩:=I.list h';rw[e] at e';cases e';rw[d] at d'
 injection d' with d1 _
 have:its=its':=by simpa using IW Array.toList d1
 subst this;exact r.inj r'
theorem Inv.i4(I:Inv X pins σ H s)(h:bq X.K H a xs)(h':bq X.K H a ys):xs=ys:=by
 obtain⟨its,r,⟨o,e,_,n,d⟩,_⟩:=I.tuple h;obtain⟨its',r',⟨o',e',_,n',d'⟩,_⟩:=I.tuple h';rw[e] at e';cases e';rw[d] at d'
 injection d' with d1 _
 have:its=its':=by simpa using IW Array.toList d1
 subst this;exact r.inj r'
end
abbrev Cx.kh(X:Cx)(E:Value->Shared->Prop):Cx:={X with xe:=E}
abbrev Cx.AG(X:Cx):Cx:=X.kh λ_ _=>False
theorem Cx.Ok.kh(ok:X.Ok)(E:Value->Shared->Prop):(X.kh E).Ok:=
 ⟨ok.mod,ok.kind,ok.glob,ok.blt,ok.above,ok.inj,ok.has,ok.xT,ok.hd,ok.frames,ok.yn,ok.AU,ok.bs,ok.pd,ok.jP,ok.kr,ok.eX,ok.u0,ok.tabs⟩
theorem Cx.Ok.fv(ok:(X.kh E).Ok):X.Ok:=
 ⟨ok.mod,ok.kind,ok.glob,ok.blt,ok.above,ok.inj,ok.has,ok.xT,ok.hd,ok.frames,ok.yn,ok.AU,ok.bs,ok.pd,ok.jP,ok.kr,ok.eX,ok.u0,ok.tabs⟩
section
variable {X:Cx} {pins:List (Addr×Obj)} {σ:St} {H:Hp} {s:Shared} {E:Value->Shared->Prop}
theorem Inv.kh(I:Inv X pins σ H s)(E:Value->Shared->Prop):Inv (X.kh E) pins σ H s:=⟨I.ok.kh E,I.os,I.bare,I.base,I.loc,I.cell,I.free,I.bW,I.pin,I.aI,I.len⟩
theorem Inv.fv(I:Inv (X.kh E) pins σ H s):Inv X pins σ H s:=⟨I.ok.fv,I.os,I.bare,I.base,I.loc,I.cell,I.free,I.bW,I.pin,I.aI,I.len⟩
theorem SP.fv{f:Flow}(h:SP (X.kh E) pins D f s'):SP X pins D f s':=by
 cases f with
 |next=>obtain⟨σ',H',I,q⟩:=h;exact⟨σ',H',I.fv,q⟩
 |brk=>obtain⟨σ',H',I,q⟩:=h;exact⟨σ',H',I.fv,q⟩
 |cont=>obtain⟨σ',H',I,q⟩:=h;exact⟨σ',H',I.fv,q⟩
 |ret u=>obtain⟨v,σ',H',I,r,q⟩:=h;exact⟨v,σ',H',I.fv,r,q⟩
theorem pj.AG{st:List Stmt}{t:TS}(h:pj X.AG st t):pj X st t:=λpins s σ H D I hw =>
 IZ (h pins s σ H D (I.kh _) hw) (λ_ _ q=>q.fv) λ_ _ z=>False.elim z
end
section
variable {X:Cx} {st:Stmt} {rest:List Stmt} {t u:TS} {e:Expr} {te:TE} {pos:Pos}
noncomputable def ot:TS:=λD σ H=>D.nx σ H
noncomputable def u9(t u:TS):TS:=λD σ H=>t {D with nx:=u D} σ H
theorem yx:pj X [] ot:=λ_ _ σ H _ I h=>LJ ⟨σ,H,I,h⟩
theorem xU(h1:PS X st t)(h2:pj X rest u):pj X (st::rest) (u9 t u):=by
 intro pins s σ H D I h;refine wpAny_execs_cons (bD (h1 pins s σ H {D with nx:=u D} I h) λf s1 q=>?_)
 cases f with
 |next =>
  obtain⟨σ',H',I',q⟩:=q;exact h2 pins s1 σ' H' D I' q
 |ret v=>exact q
 |brk=>exact q
 |cont=>exact q
theorem zx(h1:PS X st t):pj X [st] t:=by
 intro pins s σ H D I h;refine wpAny_execs_cons (bD (h1 pins s σ H D I h) λf s1 q=>?_)
 cases f with
 |next=>exact LJ q
 |ret v=>exact q
 |brk=>exact q
 |cont=>exact q
theorem Inv.quiet{s:Shared}(I:Inv X pins σ H s):interactive X.env=false:=by simp[interactive,I.ok.kind]
noncomputable def mW(te:TE):TS:=λD σ H=>te σ H λ_ H1=>D.nx σ H1
theorem zH(he:PE X e te)(hs:autoParam (swapsWith e none pos.line X.env=pure false) ℜ0):PS X (.Expr e pos) (mW te):=by
 intro pins s σ H D I h;exact wpAny_Expr_any (bD (he pins s σ H _ I h) λv s1 ⟨x,H1,I1,r1,q1⟩=>⟨σ,H1,I1,q1⟩) I.quiet hs
noncomputable def vo(te:TE):TS:=λD σ H=>te σ H D.rt
theorem C4(he:PE X e te):PS X (.Return (some e) pos) (vo te):=by
 intro pins s σ H D I h;exact wpAny_Return_some (bD (he pins s σ H _ I h) λv s1 ⟨x,H1,I1,r1,q1⟩=>⟨x,σ,H1,I1,r1,q1⟩)
noncomputable def lN(c:TT)(t u:TS):TS:=λD σ H=>c σ H λb H1=>if b=true then t D σ H1 else u D σ H1
theorem Ft{c:Expr}{a b:List Stmt}{tc:TT}(hc:PT X c tc)(ha:pj X a t)(hb:pj X b u):PS X (.If c a b pos) (lN tc t u):=by
 intro pins s σ H D I h;refine wpAny_If (bD (hc pins s σ H _ I h) λd s1 hq13=>?_);obtain⟨H1,I1,q1⟩:=hq13
 cases d with
 |true=>exact ha pins s1 σ H1 D I1 q1
 |false=>exact hb pins s1 σ H1 D I1 q1
end
abbrev TG:=V->St->Hp->(St->Hp->Prop)->Prop
abbrev vm:=List V->St->Hp->(St->Hp->Prop)->Prop
noncomputable def PG(X:Cx)(target:Expr)(t:TG):Prop:=
 ∀(pins:List (Addr×Obj)) (s:Shared) (σ:St) (H:Hp) (v:V) (u:Value) (Q:St->Hp->Prop),Inv X pins σ H s->RelV v u->t v σ H Q ->
  wpAny (model X.prog X.w) X.A (assign target X.env u) (λ_ s'=>∃σ' H',Inv X pins σ' H' s'/\Q σ' H') X.xe s
noncomputable def FF(X:Cx)(ts:List Expr)(t:vm):Prop:=
 ∀(pins:List (Addr×Obj)) (s:Shared) (σ:St) (H:Hp) (vs:List V) (us:List Value) (Q:St->Hp->Prop),Inv X pins σ H s->Vals vs us->t vs σ H Q ->
  wpAny (model X.prog X.w) X.A (assignInOrder ((assignEach ts X.env).map (·.2)) us) (λ_ s'=>∃σ' H',Inv X pins σ' H' s'/\Q σ' H') X.xe s
abbrev zf:=V->V->V->Hp->(Hp->Prop)->Prop
noncomputable def Cb(X:Cx)(t:zf):Prop:=
 ∀(pins:List (Addr×Obj)) (s:Shared) (σ:St) (H:Hp) (o i v:V) (ov iv u:Value) (Q:Hp->Prop),Inv X pins σ H s->RelV o ov->RelV i iv->RelV v u->t o i v H Q ->
  wpAny (model X.prog X.w) X.A (setItem ov iv u) (λ_ s'=>∃H',Inv X pins σ H' s'/\Q H') X.xe s
section
variable {X:Cx} {pos:Pos}
noncomputable def aQ(i:Nat):TG:=λv σ H Q=>Q (σ.set i (some v)) H
theorem yt(hN:X.N.Nodup)(hi:X.N[i]?=some x)(hx:Loc X.env.scope x)(hf:autoParam (X.fn x=true\/X.env.scope.names.lookup x=some .local) ℜ2):PG X (.Name x pos) (aQ i):=by
 intro pins s σ H v u Q I r h;exact wpAny_assign_Name (j9 I hN hi hx r (λs' I'=>⟨_,H,I',h⟩) hf)
noncomputable def km:vm:=λvs σ H Q=>vs=[]/\Q σ H
noncomputable def cW(t:TG)(u:vm):vm:=λvs σ H Q=>∃v r,vs=v::r/\t v σ H λσ' H'=>u r σ' H' Q
theorem zo:FF X [] km:=by
 intro pins s σ H vs us Q I r h;obtain⟨e,h⟩:=h;subst e;cases r;exact assignInOrder_nil ⟨σ,H,I,h⟩
theorem xE{t:TG}{u:vm}(h1:PG X e t)(h2:FF X es u)
  (hs:autoParam ((assignEach (e::es) X.env).map (·.2)=assign e X.env::(assignEach es X.env).map (·.2)) ℜ0):FF X (e::es) (cW t u):=by
 intro pins s σ H vs us Q I r h;obtain⟨v,vr,e1,h⟩:=h;subst e1
 cases r with
 |cons r rr =>
  rw[hs];refine assignInOrder_cons (bD (h1 pins s σ H _ _ _ I r h) λ_ s1 hq14=>?_);obtain⟨σ1,H1,I1,q1⟩:=hq14;exact h2 pins s1 σ1 H1 _ _ Q I1 rr q1
noncomputable def pN(K:W.Frag)(n:Nat)(t:vm):TG:=λv σ H Q=>∃a xs,v=.ref a/\bq K H a xs/\xs.length=n/\t xs σ H Q
theorem B6{k:Nat}{t:vm}{n:Nat}(hc:X.calm=true)(h:FF X es t)
  (hn:autoParam ((assignEach es X.env).length=n) ℜ0) (hst:autoParam ((assignEach es X.env).findIdx? (·.1)=none) ℜ0):PG X (.Tuple es k pos) (pN X.K n t):=by
 intro pins s σ H v u Q I r hw;obtain⟨a,xs,e1,hq,hl,hw⟩:=hw;subst e1;cases r;obtain⟨its,rv,ht,hz⟩:=I.tuple hq;refine assign_Tuple_tuple (I.ok.hd hc) ht (by simp[hn,<- hl,rv.length]) hst λh' hx=>?_
 have I1:Inv X pins σ H {s with heap:=h'}:=I.kept (t':=s.toks) λb o e=>hx b o (Iz (Io e)) e
 exact h pins _ σ H xs _ Q I1 (by simpa using rv) hw
noncomputable def ya(to ti:TE)(t:zf):TG:=λv σ H Q=>to σ H λo H1=>ti σ H1 λi H2=>t o i v H2 λH3=>Q σ H3
theorem Dh{o i:Expr}{to ti:TE}{t:zf}(ho:PE X o to)(hi:PE X i ti)(hs:Cb X t)
  (ha:autoParam (∀v,assign (.Subscript o i pos) X.env v=(do
   let ov <- holding [v] (eval o X.env)
   let iv <- holding [v,ov] (eval i X.env)
   standAt pos
   holding [v,ov,iv] (setItem ov iv v)
   release [v,ov,iv] [])) ℜ3):PG X (.Subscript o i pos) (ya to ti t):=by
 intro pins s σ H v u Q I r h;rw[ha];refine HU (Jl (bD (ho pins s σ H _ I h) λov s1 hq15=>?_));obtain⟨x,H1,I1,r1,q1⟩:=hq15;refine HU (Jl (bD (hi pins s1 σ H1 _ I1 q1) λiv s2 hq16=>?_));obtain⟨y,H2,I2,r2,q2⟩:=hq16;refine HU (La (HU (Jl (bD (hs pins s2 σ H2 x y v ov iv u _ I2 r1 r2 r q2) λ_ s3 hq17=>?_))));obtain⟨H3,I3,q3⟩:=hq17;exact wpAny_release ⟨σ,H3,I3,q3⟩
noncomputable def jB(te:TE)(g:TG):TS:=λD σ H=>te σ H λx H1=>g x σ H1 D.nx
theorem Br{te:TE}{g:TG}(he:PE X e te)(hg:PG X tg g)(hs:autoParam (swapsWithSole [tg] e pos.line X.env=pure false) ℜ0)(hw:autoParam (swappedStores [tg] e X.env=pure none) ℜ0)
  (h1:autoParam ((assignEach [tg] X.env).map (·.2)=[assign tg X.env]) ℜ0):PS X (.Assign [tg] e pos) (jB te g):=by
 intro pins s σ H D I h;refine wpAny_Assign_stores (bD (he pins s σ H _ I h) λv s1 hq18=>?_) hs hw;obtain⟨x,H1,I1,r1,q1⟩:=hq18;rw[h1];exact bD (hg pins s1 σ H1 x v _ I1 r1 q1) λ_ s2 q=>q
theorem BP{te:TE}{pos':Pos}(hN:X.N.Nodup)(hi:X.N[i]?=some x)(hx:Loc X.env.scope x)(he:PE X e te)(hs:autoParam (swapsWith e (some (.Name x pos')) pos.line X.env=pure false) ℜ0)(hf:autoParam (X.fn x=true\/X.env.scope.names.lookup x=some .local) ℜ2):
  PS X (.Assign [.Name x pos'] e pos) (jB te (aQ i)):=by
 intro pins s σ H D I h;refine wpAny_Assign_Name (bD (he pins s σ H _ I h) λv s1 hq19=>?_) hs;obtain⟨y,H1,I1,r1,q1⟩:=hq19;exact j9 I1 hN hi hx r1 (λs2 I2=>⟨_,H1,I2,q1⟩) hf
end
section
variable {X:Cx} {pos:Pos}
noncomputable def vw(c:TT)(tb:TS):TS:=λD σ H=>∃W:Nat->St->Hp->Prop,(∃m,W m σ H)/\∀m σ H,W m σ H ->
 c σ H λb H1=>if b=true then ∃N:St->Hp->Prop,(∀σ' H',N σ' H'->∃m',m'<m/\W m' σ' H')/\tb {D with nx:=N,ct:=N,bk:=D.nx} σ H1 else D.nx σ H1
theorem v8{c:Expr}{tc:TT}(hp:PassesOwn (model X.prog X.w) X.A X.env X.xe)(hc:PT X c tc)(hb:pj X body tb):PS X (.While c body [] pos) (vw tc tb):=by
 intro pins s σ H D I h;obtain⟨W,⟨m0,w0⟩,turn⟩:=h;refine wpAny_While (codeAny_whileLoop (λn s'=>∃σ' H',Inv X pins σ' H' s'/\W n σ' H') ?_ m0 ⟨σ,H,I,w0⟩);rintro n s1 ⟨σ1,H1,I1,w1⟩;refine Kh hp (bD (hc pins s1 σ1 H1 _ I1 (turn n σ1 H1 w1)) λb s2 hq28=>?_);obtain⟨H2,I2,q2⟩:=hq28
 cases b with
 |true =>
  obtain⟨N,hN,q2⟩:=q2;rw[Ig rfl];refine Kh hp (bD (hb pins s2 σ1 H2 _ I2 q2) λf s3 q3=>?_)
  cases f with
  |next =>
   obtain⟨σ3,H3,I3,n3⟩:=q3;obtain⟨m',hm,w3⟩:=hN σ3 H3 n3;exact⟨m',hm,σ3,H3,I3,w3⟩
  |cont =>
   obtain⟨σ3,H3,I3,n3⟩:=q3;obtain⟨m',hm,w3⟩:=hN σ3 H3 n3;exact⟨m',hm,σ3,H3,I3,w3⟩
  |brk=>exact q3
  |ret v=>exact q3
 |false =>
  rw[H_ Il];exact LJ ⟨σ1,H2,I2,q2⟩
end
structure It where
 go:Nat->Hp->Prop
 AV:Nat->Hp->V->Hp->Prop
 stop:Nat->Hp->Prop
noncomputable def jd(X:Cx)(pins:List (Addr×Obj))(H:Hp)(b:Addr):Prop:=
 H b=none/\b≠X.env.locals/\b∉X.fs/\(b∈X.ex\/X.s₀.heap.objs.size<=b)/\(∀x c,X.env.cells.lookup x=some c->c≠b)/\∀p∈X.pn++pins,p.1≠b
theorem Inv.mH{H':Hp}{s:Shared}(I:Inv X pins σ H s)(hb:s.heap.objs.size<=b)(hn:H' b=none):jd X pins H' b:=by
 refine⟨hn,JM (ID I.lt hb),I.Ek hb,.inr (Ia I.sz hb),λx c e z=>?_,λp hp z=>?_⟩
 ·obtain⟨v,q⟩:=I.cell x c e;exact absurd (ID q.lt (by rw[z];exact hb)) (JN _)
 ·exact absurd (ID (Io (I.pin p hp).1) (by rw[z];exact hb)) (JN _)
structure Turn (P:Program) (w:World) (K:W.Frag) (tg:Expr) (J:It) (fp:List Addr) (it:Addr) (tn:Nat->Heap->Prop):Prop where
 mem:it∈fp
 obj:∀i h,tn i h->∀b∈fp,∃o,h.get? b=some o/\∀v,o.data≠.cell v
 keep:∀i h h',tn i h->(∀b∈fp,∀o,h.get? b=some o->h'.get? b=some o)->tn i h'
 item:∀(X:Cx),X.prog=P->X.w=w->X.K=K->X.calm=true->∀(i:Nat) (pins:List (Addr×Obj)) (s:Shared) (σ:St) (H:Hp) (E:Value->Shared->Prop),Inv X pins σ H s->(∀b∈fp,jd X pins H b)->tn i s.heap->J.go i H ->
  wpAny (model P w) X.A (pyNext (.ref it)) (λr s1=>∃u,r=some u /\
   wpAny (model P w) X.A (letOwnedTupleGo tg (.ref it) u) (λ_ s2=>∃x H',Inv X pins σ H' s2/\RelV x u/\J.AV i H x H'/\tn (i+1) s2.heap/\∀b∈fp,H' b=none) E s1) E s
 done:∀(X:Cx),X.prog=P->X.w=w->X.K=K->X.calm=true->∀(i:Nat) (pins:List (Addr×Obj)) (s:Shared) (σ:St) (H:Hp) (E:Value->Shared->Prop),Inv X pins σ H s->(∀b∈fp,jd X pins H b)->tn i s.heap->J.stop i H ->
  wpAny (model P w) X.A (pyNext (.ref it)) (λr s1=>r=none/\Inv X pins σ H s1) E s
 self:∀(A:Around) (i:Nat) (s:Shared) (Q:Value->Shared->Prop) (E:Value->Shared->Prop),tn i s.heap->Q (.ref it) s->wpAny (model P w) A (pyIter (.ref it)) Q E s
abbrev TI:=St->Hp->(It->Hp->Prop)->Prop
noncomputable def GL(X:Cx)(pins:List (Addr×Obj))(σ:St)(tg:Expr)(R:It->Hp->Prop)(itv:Value)(s2:Shared):Prop:=
 ∃(it:Addr) (fp:List Addr) (tn:Nat->Heap->Prop) (J:It) (H':Hp),itv=.ref it/\Inv X pins σ H' s2/\Turn X.prog X.w X.K tg J fp it tn/\tn 0 s2.heap/\(∀b∈fp,jd X pins H' b)/\R J H'
noncomputable def PI(X:Cx)(tg iter:Expr)(wi:TI):Prop:=
 ∀(pins:List (Addr×Obj)) (s:Shared) (σ:St) (H:Hp) (R:It->Hp->Prop),Inv X pins σ H s->wi σ H R ->
  wpAny (model X.prog X.w) X.A (eval iter X.env) (λv s1=>wpAny (model X.prog X.w) X.A (pyIter v) (GL X pins σ tg R) X.xe s1) X.xe s
theorem oX{A:Around}{s:Shared}{it:Addr}{o:Obj}{n:String}{vs:Array Value}{Q:Unit->Shared->Prop}(ho:s.heap.get? it=some o)(hc:o.cls=.type n)(hd:o.data=.fields vs)
    (hn:["enumerate","zip","dict_itemiterator","dict_reverseitemiterator","odict_iterator","itertools.zip_longest","itertools.pairwise"].contains n=false) (hQ:Q () s):wpAny M A (letOwnedTupleGo tg (.ref it) u) Q E s:=by
  unfold letOwnedTupleGo
  cases tg<;>first
    |exact Ii hQ
    | (cases u<;>first
        |exact Ii hQ
        | (refine HU (wpAny_load ho ?_)
           rw[hc,hd];show wpAny M A (if (["enumerate","zip","dict_itemiterator","dict_reverseitemiterator","odict_iterator","itertools.zip_longest","itertools.pairwise"].contains n && vs[0]? == some (rawInt _))=true then _ else _) Q E s
           rw[H_ (by intro h;rw[hn,Bool.false_and] at h;cases h)]
           exact Ii hQ))
noncomputable def yc(K:W.Frag)(a:Addr):It:=
 ⟨λi H=>∃xs x,bz K H a xs/\xs[i]?=some x,λi H x H'=>H'=H/\∀xs,bz K H a xs->xs[i]?=some x,λi H=>∃xs,bz K H a xs/\xs.length<=i⟩
noncomputable def tZ(K:W.Frag)(a:Addr):It:=
 ⟨λi H=>∃xs x,bq K H a xs/\xs[i]?=some x,λi H x H'=>H'=H/\∀xs,bq K H a xs->xs[i]?=some x,λi H=>∃xs,bq K H a xs/\xs.length<=i⟩
noncomputable def ym(lo:Int)(n:Nat):It:=⟨λi _=>i<n,λi H x H'=>H'=H/\x=.int (lo+i),λi _=>n<=i⟩
theorem kN(a it:Addr):Turn P w K tg (yc K a) [it] it (λi h=>h.IsListIter it a i) where
 mem:=by simp
 obj:=λi h st b hb=>by
  have e:b=it:=by simpa using hb
  subst e;obtain⟨o,e,c,d⟩:=st;exact⟨o,e,λv z=>by rw[d] at z;cases z⟩
 keep:=λi h h' st k=>st.at λo e=>k it (by simp) o e
 item:=by
  intro X hP hw hK hc i pins s σ H E I hf st hg;subst hP hw hK;obtain⟨xs,x,hq,hx⟩:=hg;obtain⟨its,rv,p,hz⟩:=I.list hq;obtain⟨u,hu,ru⟩:=rv.get hx;obtain⟨f0,f1,f2,f3,f4,f5⟩:=hf it (by simp)
  refine MR st p.isList (x:=u) (by simpa using hu) λh' st' sb=>?_
  have I1:Inv X pins σ H {s with heap:=h'}:=I.turned (t':=s.toks) (λb o hb e=>(sb.2 b hb).trans e) f0 f1 f3 f4 f5
  obtain⟨o,e,c,d⟩:=id st';exact⟨u,rfl,oX (s:={s with heap:=h'}) e c d (by decide) ⟨x,H,I1,ru,⟨rfl,λys hy=>by rw[I.jy hy hq];exact hx⟩,st',λb hb=>(hf b hb).1⟩⟩
 done:=by
  intro X hP hw hK hc i pins s σ H E I hf st hg;subst hP hw hK;obtain⟨xs,hq,hx⟩:=hg;obtain⟨its,rv,p,hz⟩:=I.list hq;obtain⟨f0,f1,f2,f3,f4,f5⟩:=hf it (by simp)
  have hl:=rv.length;exact wpAny_pyNext_list_end (I.ok.hd hc) st p.isList (by simp;lia) λh' eb=>⟨rfl,I.turned (t':=s.toks) (λb o hb e=>eb b o hb e) f0 f1 f3 f4 f5⟩
 self:=λ_ _ _ _ _ st h=>wpAny_pyIter_listiter st h
theorem jV(a it:Addr):Turn P w K tg (tZ K a) [it] it (λi h=>h.IsTupleIter it a i) where
 mem:=by simp
 obj:=λi h st b hb=>by
  have e:b=it:=by simpa using hb
  subst e;obtain⟨o,e,c,d⟩:=st;exact⟨o,e,λv z=>by rw[d] at z;cases z⟩
 keep:=λi h h' st k=>st.at λo e=>k it (by simp) o e
 item:=by
  intro X hP hw hK hc i pins s σ H E I hf st hg;subst hP hw hK;obtain⟨xs,x,hq,hx⟩:=hg;obtain⟨its,rv,p,hz⟩:=I.tuple hq;obtain⟨u,hu,ru⟩:=rv.get hx;obtain⟨f0,f1,f2,f3,f4,f5⟩:=hf it (by simp)
  refine wpAny_pyNext_tuple_item st (show s.heap.IsTuple a its.toArray from p) (x:=u) (by simpa using hu) λh' st' sb=>?_
  have I1:Inv X pins σ H {s with heap:=h'}:=I.turned (t':=s.toks) (λb o hb e=>(sb.2 b hb).trans e) f0 f1 f3 f4 f5
  obtain⟨o,e,c,d⟩:=id st';exact⟨u,rfl,oX (s:={s with heap:=h'}) e c d (by decide) ⟨x,H,I1,ru,⟨rfl,λys hy=>by rw[I.i4 hy hq];exact hx⟩,st',λb hb=>(hf b hb).1⟩⟩
 done:=by
  intro X hP hw hK hc i pins s σ H E I hf st hg;subst hP hw hK;obtain⟨xs,hq,hx⟩:=hg;obtain⟨its,rv,p,hz⟩:=I.tuple hq;obtain⟨f0,f1,f2,f3,f4,f5⟩:=hf it (by simp)
  have hl:=rv.length;exact wpAny_pyNext_tuple_end (I.ok.hd hc) st (show s.heap.IsTuple a its.toArray from p) (by simp;lia) λh' eb=>⟨rfl,I.turned (t':=s.toks) (λb o hb e=>eb b o hb e) f0 f1 f3 f4 f5⟩
 self:=λ_ _ _ _ _ st h=>wpAny_pyIter_tupleiter st h
theorem qd{w:World}{K:PySem.W.Frag}(it:Addr)(lo:Int)(n:Nat):Turn P w K tg (ym lo n) [it] it (λi h=>IsRangeIter h it (lo+(i:Nat)*1) ((n:Int)-(i:Nat)) 1) where
 mem:=by simp
 obj:=λi h st b hb=>by
  have e:b=it:=by simpa using hb
  subst e;exact⟨_,st,λv z=>by
   have z':Data.fields _=Data.cell v:=z
   cases z'⟩
 keep:=λi h h' st k=>k it (by simp) _ st
 item:=by
  intro X hP hw hK hc i pins s σ H E I hf st hg;subst hP hw hK;obtain⟨f0,f1,f2,f3,f4,f5⟩:=hf it (by simp)
  have W:=Walks.range (prog:=X.prog) (w:=X.w) (I.ok.hd hc) it lo 1 n;refine W.item i s _ _ hg st λv h' tk hv st' kk=>?_;obtain⟨t,rfl⟩:=hv;have I1:Inv X pins σ H {s with heap:=h',toks:=tk}:=I.turned (λb o hb e=>kk b o (by simpa using hb) e) f0 f1 f3 f4 f5
  refine⟨_,rfl,oX (s:={s with heap:=h',toks:=tk}) (n:="range_iterator") st' rfl rfl (by decide) ⟨.int (lo+i),H,I1,⟨t,?_⟩,⟨rfl,rfl⟩,st',λb hb=>(hf b hb).1⟩⟩
  rw[Int.mul_one]
 done:=by
  intro X hP hw hK hc i pins s σ H E I hf st hg;subst hP hw hK;obtain⟨f0,f1,f2,f3,f4,f5⟩:=hf it (by simp)
  exact wpAny_pyNext_range_end (I.ok.hd hc) st (by have:n<=i:=hg;lia) λh' eb=>⟨rfl,I.turned (t':=s.toks) (λb o hb e=>eb b o hb e) f0 f1 f3 f4 f5⟩
 self:=λ_ _ _ _ _ st h=>wpAny_pyIter_rangeiter st h
section
variable {X:Cx} {tg:Expr}
theorem nK{s:Shared}{R:It->Hp->Prop}{lo hi:Int}{t u v:Tok}{tk:Nat}(I:Inv X pins σ H s)(h1:-(2^62)<=lo)(h2:lo<2^62)(h3:-(2^62)<=hi)(h4:hi<2^62)
  (q:R (ym lo (hi-lo).toNat) H):wpAny (model X.prog X.w) X.A (pyIter (.ref s.heap.objs.size)) (GL X pins σ tg R) E {s with heap:=s.heap.push {cls:=.type "range",data:=.fields #[.int lo t,.int hi u,.int 1 v]},toks:=tk}:=by
 refine wpAny_pyIter_range (IsRange.new ..) (small_one h1 h2 h3 h4) ?_;have I1:Inv X pins σ H {s with heap:=s.heap.push {cls:=.type "range",data:=.fields #[.int lo t,.int hi u,.int 1 v]},toks:=tk}:=I.kept λb o e=>HW _ e
 refine⟨(s.heap.push {cls:=.type "range",data:=.fields #[.int lo t,.int hi u,.int 1 v]}).objs.size,[(s.heap.push {cls:=.type "range",data:=.fields #[.int lo t,.int hi u,.int 1 v]}).objs.size],_,_,H,rfl,
  I1.kept (t':=tk) λb o e=>HW _ e,qd _ lo (hi-lo).toNat,?_,λb hb=>?_,q⟩
 ·have e1:lo+((0:Nat):Int)*1=lo:=by simp
  have e2:(((hi-lo).toNat:Nat):Int)-((0:Nat):Int)=Builtin.Range.rangeSize lo hi 1:=by rw[rangeSize_one];split<;>lia
  show IsRangeIter _ _ (lo+((0:Nat):Int)*1) ((((hi-lo).toNat:Nat):Int)-((0:Nat):Int)) 1;rw[e1,e2];exact Ip _ rfl
 ·have e:b=(s.heap.push {cls:=.type "range",data:=.fields #[.int lo t,.int hi u,.int 1 v]}).objs.size:=by simpa using hb
  subst e;exact I1.mH (Ib _) (I1.aI.fresh (Ib _))
noncomputable def k_(ta:TA):TI:=λσ H R=>ta σ H λvs H1=>∃j:Int,vs=[.int j]/\-(2^62)<=j/\j<2^62/\R (ym 0 j.toNat) H1
noncomputable def ll(ta:TA):TI:=λσ H R=>ta σ H λvs H1=>∃i j:Int,vs=[.int i,.int j]/\(-(2^62)<=i/\i<2^62/\-(2^62)<=j/\j<2^62)/\R (ym i (j-i).toNat) H1
theorem u7{a:Expr}{ta:TA}{p pos:Pos}(hg:Gl X "range")(hm:X.mg "range"=none)(ha:PA X [a] ta)(hs:autoParam (starEach [a] X.env=[(false,eval a X.env)]) ℜ0):PI X tg (.Call (.Name "range" p) [a] [] pos) (k_ ta):=by
 intro pins s σ H R I h;refine Call_ (dO I hg hm boot_range (Jo (bD (ha pos pins s σ H _ I h) λus s1 hq31=>?_) hs rfl));obtain⟨vs,H1,I1,r1,q1⟩:=hq31;obtain⟨j,e,q1,q2,q⟩:=q1;subst e
 cases r1 with
 |cons r rr =>
  cases rr;obtain⟨t,rfl⟩:=r;exact call_range_1 (nK I1 (by lia) (by lia) q1 q2 (by simpa using q))
theorem tP{a b:Expr}{ta:TA}{p pos:Pos}(hg:Gl X "range")(hm:X.mg "range"=none)(ha:PA X [a,b] ta)(hs:autoParam (starEach [a,b] X.env=[(false,eval a X.env),(false,eval b X.env)]) ℜ0)(hs2:autoParam (starEach [b] X.env=[(false,eval b X.env)]) ℜ0):
  PI X tg (.Call (.Name "range" p) [a,b] [] pos) (ll ta):=by
 intro pins s σ H R I h;refine Call_ (dO I hg hm boot_range (Jo (bD (ha pos pins s σ H _ I h) λus s1 hq32=>?_) (by rw[hs,hs2]) (by rw[hs2];rfl)))
 obtain⟨vs,H1,I1,r1,q1⟩:=hq32;obtain⟨i,j,e,⟨q1,q2,q3,q4⟩,q⟩:=q1;subst e
 cases r1 with
 |cons r rr =>
  cases rr with
  |cons r' rr =>
   cases rr;obtain⟨t,rfl⟩:=r;obtain⟨t',rfl⟩:=r';exact call_range_2 (nK I1 q1 q2 q3 q4 q)
noncomputable def BF(wi:TI)(g:TG)(tb:TS):TS:=λD σ H=>wi σ H λJ H1=>∃W:Nat->Nat->St->Hp->Prop,(∃m,W 0 m σ H1)/\∀i m σ H,W i m σ H ->
 (J.stop i H/\D.nx σ H)\/(J.go i H/\∃N:St->Hp->Prop,(∀σ' H',N σ' H'->∃m',m'<m/\W (i+1) m' σ' H')/\∀x H',J.AV i H x H'->g x σ H' λσ2 H2=>tb {D with nx:=N,ct:=N,bk:=D.nx} σ2 H2)
noncomputable def i7(fp:List Addr)(h:Heap):List (Addr×Obj):=fp.filterMap λb=>(h.get? b).map λo=>(b,o)
theorem dc{o:Obj}(hb:b∈fp)(e:h.get? b=some o):(b,o)∈i7 fp h:=Lm.mpr ⟨b,hb,by rw[e];rfl⟩
theorem sR{p:Addr×Obj}(hp:p∈i7 fp h):p.1∈fp/\h.get? p.1=some p.2:=by
 obtain⟨b,hb,e⟩:=Lm.mp hp
 cases q:h.get? b with
 |none=>rw[q] at e;cases e
 |some o =>
  rw[q] at e;have e':(b,o)=p:=Option.some.inj e;subst e';exact⟨hb,q⟩
theorem Inv.pinned{s:Shared}(I:Inv X pins σ H s)(hf:∀b∈fp,jd X pins H b)(ho:∀b∈fp,∃o,s.heap.get? b=some o/\∀v,o.data≠.cell v):Inv X (pins++i7 fp s.heap) σ H s:=
 I.mD λp hp=>(Jk.mp hp).elim (λz=>I.pin p (Iy _ z)) λz=>by
  obtain⟨hb,e⟩:=sR z;obtain⟨f0,f1,f2,_⟩:=hf p.1 hb;obtain⟨o,e',d⟩:=ho p.1 hb;rw[e] at e';cases e';exact⟨e,f0,f1,f2,d⟩
theorem Inv.f7{pl:List (Addr×Obj)}{s:Shared}(I:Inv X (pins++pl) σ H s):Inv X pins σ H s:=I.mD λp hp=>I.pin p (Iy _ (Jv _ hp))
theorem CQ{iter:Expr}{wi:TI}{g:TG}{pos:Pos}(hp:PassesOwn (model X.prog X.w) X.A X.env X.xe)(hc:X.calm=true)(hi:PI X tg iter wi)(hg:PG X tg g)(hb:pj X body tb)
  (hs:autoParam (∀x,foldedSetIterable iter X.env x=pure x) ℜ3):PS X (.For tg iter body [] pos) (BF wi g tb):=by
 intro pins s σ H D I h;refine wpAny_For (bD (hi pins s σ H _ I h) λv s1 h1=>bD h1 λitv s2 h2=>?_) hs;obtain⟨it,fp,tn,J,H2,e,I2,T,st2,f2,W,⟨m0,w0⟩,turn⟩:=h2;subst e;have stat:∀{H':Hp},(∀b∈fp,H' b=none)->∀b∈fp,jd X pins H' b:=λhn b hb=>⟨hn b hb,(f2 b hb).2⟩;refine codeAny_forLoop_any (λn s'=>∃i σ' H',Inv X pins σ' H' s'/\tn i s'.heap/\(∀b∈fp,H' b=none)/\W i n σ' H') ?_ m0 ⟨0,σ,H2,I2,st2,λb hb=>(f2 b hb).1,w0⟩;rintro n s3 ⟨i,σ3,H3,I3,st3,fr3,w3⟩;rcases turn i n σ3 H3 w3 with ⟨stop,qn⟩|⟨go,N,hN,step⟩
 ·refine Kh hp (bD (T.done X rfl rfl rfl hc i pins s3 σ3 H3 X.xe I3 (stat fr3) st3 stop) λr s4 hq33=>?_);obtain⟨hr,I4⟩:=hq33;subst hr;exact LJ ⟨σ3,H3,I4,qn⟩
 ·refine Kh hp (bD (T.item X rfl rfl rfl hc i pins s3 σ3 H3 X.xe I3 (stat fr3) st3 go) λr s4 hq34=>?_);obtain⟨u,hr,h4⟩:=hq34;subst hr;refine Kh hp (bD h4 λ_ s5 hq35=>?_);obtain⟨x,H5,I5,r5,y5,st5,fr5⟩:=hq35;have I5':=I5.pinned (stat fr5) (T.obj _ _ st5);refine Kh hp (bD (hg _ s5 σ3 H5 x u _ I5' r5 (step x H5 y5)) λ_ s6 hq36=>?_);obtain⟨σ6,H6,I6,q6⟩:=hq36;refine Kh hp (bD (hb _ s6 σ6 H6 _ I6 q6) λf s7 q7=>?_);have again:∀{σ7:St} {H7:Hp},Inv X (pins++i7 fp s5.heap) σ7 H7 s7->N σ7 H7->∃m,m<n/\∃i σ' H',Inv X pins σ' H' s7/\tn i s7.heap/\(∀b∈fp,H' b=none)/\W i m σ' H':=λ{σ7 H7} I7 n7=>by
   obtain⟨m',hm,w7⟩:=hN σ7 H7 n7;refine⟨m',hm,i+1,σ7,H7,I7.f7,T.keep _ _ _ st5 λb hb o e=>(I7.pin (b,o) (Iy _ (Iy _ (dc hb e)))).1,λb hb=>?_,w7⟩;obtain⟨o,e,d⟩:=T.obj _ _ st5 b hb;exact (I7.pin (b,o) (Iy _ (Iy _ (dc hb e)))).2.1
  cases f with
  |next=>obtain⟨σ7,H7,I7,n7⟩:=q7;exact again I7 n7
  |cont=>obtain⟨σ7,H7,I7,n7⟩:=q7;exact again I7 n7
  |brk=>obtain⟨σ7,H7,I7,q7⟩:=q7;exact⟨σ7,H7,I7.f7,q7⟩
  |ret v=>obtain⟨x7,σ7,H7,I7,r7,q7⟩:=q7;exact⟨x7,σ7,H7,I7.f7,r7,q7⟩
end
theorem xR{K:PySem.W.Frag}{g:TG}(Pv:Nat->St->Hp->Prop)(h0:Pv 0 σ H)(hl:∀i σ H,i<=xs.length->Pv i σ H->bz K H a xs)
  (hs:∀i x σ H,xs[i]?=some x->Pv i σ H->g x σ H λσ2 H2=>tb {D with nx:=Pv (i+1),ct:=Pv (i+1),bk:=D.nx} σ2 H2) (hd:∀σ H,Pv xs.length σ H->D.nx σ H) :
  ∃W:Nat->Nat->St->Hp->Prop,(∃m,W 0 m σ H)/\∀i m σ H,W i m σ H ->
   ((yc K a).stop i H/\D.nx σ H)\/((yc K a).go i H/\∃N:St->Hp->Prop,(∀σ' H',N σ' H'->∃m',m'<m/\W (i+1) m' σ' H')/\∀x H',(yc K a).AV i H x H'->g x σ H' λσ2 H2=>tb {D with nx:=N,ct:=N,bk:=D.nx} σ2 H2):=by
 refine⟨λi m σ H=>m=xs.length-i/\i<=xs.length/\Pv i σ H,⟨xs.length,by simp,Iv _,h0⟩,?_⟩
 rintro i m σ H ⟨rfl,hi,p⟩;have q:=hl i σ H hi p;by_cases hlt:i<xs.length
 ·refine .inr ⟨⟨xs,xs[i],q,by simp[hlt]⟩,Pv (i+1),λσ' H' p'=>⟨xs.length-(i+1),by lia,rfl,hlt,p'⟩,λx H' y=>?_⟩
  obtain⟨e,y⟩:=y;subst e;exact hs i x σ _ (y xs q) p
 ·have e:i=xs.length:=by lia
  subst e;exact .inl ⟨⟨xs,q,Ib _⟩,hd σ H p⟩
theorem Ad{K:PySem.W.Frag}{g:TG}(Pv:Nat->St->Hp->Prop)(h0:Pv 0 σ H)(hl:∀i σ H,i<=xs.length->Pv i σ H->bq K H a xs)
  (hs:∀i x σ H,xs[i]?=some x->Pv i σ H->g x σ H λσ2 H2=>tb {D with nx:=Pv (i+1),ct:=Pv (i+1),bk:=D.nx} σ2 H2) (hd:∀σ H,Pv xs.length σ H->D.nx σ H) :
  ∃W:Nat->Nat->St->Hp->Prop,(∃m,W 0 m σ H)/\∀i m σ H,W i m σ H ->
   ((tZ K a).stop i H/\D.nx σ H)\/((tZ K a).go i H/\∃N:St->Hp->Prop,(∀σ' H',N σ' H'->∃m',m'<m/\W (i+1) m' σ' H')/\∀x H',(tZ K a).AV i H x H'->g x σ H' λσ2 H2=>tb {D with nx:=N,ct:=N,bk:=D.nx} σ2 H2):=by
 refine⟨λi m σ H=>m=xs.length-i/\i<=xs.length/\Pv i σ H,⟨xs.length,by simp,Iv _,h0⟩,?_⟩
 rintro i m σ H ⟨rfl,hi,p⟩;have q:=hl i σ H hi p;by_cases hlt:i<xs.length
 ·refine .inr ⟨⟨xs,xs[i],q,by simp[hlt]⟩,Pv (i+1),λσ' H' p'=>⟨xs.length-(i+1),by lia,rfl,hlt,p'⟩,λx H' y=>?_⟩
  obtain⟨e,y⟩:=y;subst e;exact hs i x σ _ (y xs q) p
 ·have e:i=xs.length:=by lia
  subst e;exact .inl ⟨⟨xs,q,Ib _⟩,hd σ H p⟩
theorem sM{lo:Int}{n:Nat}{g:TG}(Pv:Nat->St->Hp->Prop)(h0:Pv 0 σ H)
  (hs:∀i σ H,i<n->Pv i σ H->g (.int (lo+i)) σ H λσ2 H2=>tb {D with nx:=Pv (i+1),ct:=Pv (i+1),bk:=D.nx} σ2 H2) (hd:∀σ H,Pv n σ H->D.nx σ H) :
  ∃W:Nat->Nat->St->Hp->Prop,(∃m,W 0 m σ H)/\∀i m σ H,W i m σ H ->
   ((ym lo n).stop i H/\D.nx σ H)\/((ym lo n).go i H/\∃N:St->Hp->Prop,(∀σ' H',N σ' H'->∃m',m'<m/\W (i+1) m' σ' H')/\∀x H',(ym lo n).AV i H x H'->g x σ H' λσ2 H2=>tb {D with nx:=N,ct:=N,bk:=D.nx} σ2 H2):=by
 refine⟨λi m σ H=>m=n-i/\i<=n/\Pv i σ H,⟨n,by simp,Iv _,h0⟩,?_⟩
 rintro i m σ H ⟨rfl,hi,p⟩;by_cases hlt:i<n
 ·refine .inr ⟨hlt,Pv (i+1),λσ' H' p'=>⟨n-(i+1),by lia,rfl,hlt,p'⟩,λx H' y=>?_⟩
  obtain⟨e,y⟩:=y;subst e y;exact hs i σ _ hlt p
 ·have e:i=n:=by lia
  subst e;exact .inl ⟨Ib _,hd σ H p⟩
abbrev R2:=V->V->Hp->VK->Prop
variable{r:R2}
noncomputable def cR(X:Cx)(f:Value->Value->Sem Value)(r:R2):Prop:=
 ∀(pins:List (Addr×Obj)) (s:Shared) (σ:St) (H:Hp) (x y:V) (v u:Value) (Q:VK),Inv X pins σ H s->RelV x v->RelV y u->r x y H Q ->
  wpAny (model X.prog X.w) X.A (f v u) (EP X pins σ Q) X.xe s
noncomputable def Gb(X:Cx)(f:Value->Sem Value)(r:V->Hp->VK->Prop):Prop:=
 ∀(pins:List (Addr×Obj)) (s:Shared) (σ:St) (H:Hp) (x:V) (v:Value) (Q:VK),Inv X pins σ H s->RelV x v->r x H Q ->
  wpAny (model X.prog X.w) X.A (f v) (EP X pins σ Q) X.xe s
noncomputable def bc(X:Cx)(f:Value)(r:List V->Hp->VK->Prop):Prop:=
 ∀(pins:List (Addr×Obj)) (s:Shared) (σ:St) (H:Hp) (xs:List V) (us:List Value) (Q:VK),Inv X pins σ H s->Vals xs us->r xs H Q ->
  wpAny (model X.prog X.w) X.A (call f us) (EP X pins σ Q) X.xe s
noncomputable def Gy(X:Cx)(r:V->Hp->(Bool->Hp->Prop)->Prop):Prop:=
 ∀(pins:List (Addr×Obj)) (s:Shared) (σ:St) (H:Hp) (x:V) (v:Value) (Q:Bool->Hp->Prop),Inv X pins σ H s->RelV x v->r x H Q ->
  wpAny (model X.prog X.w) X.A (truthy v) (TP X pins σ Q) X.xe s
noncomputable def wa(r:R2)(ta tb:TE):TE:=λσ H Q=>ta σ H λx H1=>tb σ H1 λy H2=>r x y H2 Q
noncomputable def FP(r:V->Hp->VK->Prop)(ta:TE):TE:=λσ H Q=>ta σ H λx H1=>r x H1 Q
noncomputable def rI(C:Int->Int->Prop)(g:Int->Int->V):R2:=λx y H Q=>∃i j,x=.int i/\y=.int j/\C i j/\Q (g i j) H
noncomputable def vP(g:Int->Int->V):R2:=λx y H Q=>∃i j,x=.int i/\y=.int j/\Q (g i j) H
noncomputable def rU(g:Int->V):V->Hp->VK->Prop:=λx H Q=>∃i,x=.int i/\Q (g i) H
section
variable {X:Cx} {a b c:Expr} {ta tb tc:TE} {pos:Pos}
theorem Ce(ha:PE X a ta)(hb:PE X b tb){s:Shared}{R:V->V->Hp->Prop}(I:Inv X pins σ H s)
  (h:ta σ H λx H1=>tb σ H1 λy H2=>R x y H2)  
  (hf:∀v u s2 x y H2,Inv X pins σ H2 s2->RelV x v->RelV y u->R x y H2->wpAny (model X.prog X.w) X.A (f v u) Q X.xe s2) :
  wpAny (model X.prog X.w) X.A (eval a X.env) (λv s₁=>wpAny (model X.prog X.w) X.A (eval b X.env) (λu s₂=>wpAny (model X.prog X.w) X.A (f v u) Q X.xe s₂) X.xe s₁) X.xe s:=by
 refine bD (ha pins s σ H _ I h) λv s1 hq37=>?_;obtain⟨x,H1,I1,r1,q1⟩:=hq37;refine bD (hb pins s1 σ H1 _ I1 q1) λu s2 hq38=>?_;obtain⟨y,H2,I2,r2,q2⟩:=hq38;exact hf v u s2 x y H2 I2 r1 r2 q2
theorem E6{op:Operator}(ho:cR X (binaryOp op) r)(ha:PE X a ta)(hb:PE X b tb):PE X (.BinOp a op b pos) (wa r ta tb):=by
 intro pins s σ H Q I h;exact wpAny_BinOp (Ce ha hb I h λv u s2 x y H2 I2 rx ry q=>ho pins s2 σ H2 x y v u Q I2 rx ry q)
theorem FD{op:UnaryOp}{r:V->Hp->VK->Prop}(ho:Gb X (unaryOp op) r)(ha:PE X a ta):PE X (.UnaryOp op a pos) (FP r ta):=by
 intro pins s σ H Q I h;exact UnaryOp_ (bD (ha pins s σ H _ I h) λv s1 ⟨x,H1,I1,r1,q1⟩=>ho pins s1 σ H1 x v Q I1 r1 q1)
theorem ER{C:Int->Int->Prop}
  (rule:∀(i j:Int) (t u:Tok) (s:Shared) (Q:Value->Shared->Prop) (E:Value->Shared->Prop),C i j->Q (.int (g i j) s.toks) {s with toks:=s.toks+1}->wpAny (model X.prog X.w) X.A (f (.int i t) (.int j u)) Q E s) :
  cR X f (rI C λi j=>.int (g i j)):=by
 intro pins s σ H x y v u Q I rx ry h;obtain⟨i,j,rfl,rfl,hc,q⟩:=h;obtain⟨t,rfl⟩:=rx;obtain⟨t',rfl⟩:=ry;exact rule i j t t' s _ _ hc ⟨.int (g i j),H,I.tok _,⟨_,rfl⟩,q⟩
theorem ET
  (rule:∀(i j:Int) (t u:Tok) (s:Shared) (Q:Value->Shared->Prop) (E:Value->Shared->Prop),Q (.int (g i j) s.toks) {s with toks:=s.toks+1}->wpAny (model X.prog X.w) X.A (f (.int i t) (.int j u)) Q E s) :
  cR X f (vP λi j=>.int (g i j)):=by
 intro pins s σ H x y v u Q I rx ry h;obtain⟨i,j,rfl,rfl,q⟩:=h;obtain⟨t,rfl⟩:=rx;obtain⟨t',rfl⟩:=ry;exact rule i j t t' s _ _ ⟨.int (g i j),H,I.tok _,⟨_,rfl⟩,q⟩
theorem yA{g:Int->Int->Bool}
  (rule:∀(i j:Int) (t u:Tok) (s:Shared) (Q:Value->Shared->Prop) (E:Value->Shared->Prop),Q (.bool (g i j)) s->wpAny (model X.prog X.w) X.A (f (.int i t) (.int j u)) Q E s) :
  cR X f (vP λi j=>.bl (g i j)):=by
 intro pins s σ H x y v u Q I rx ry h;obtain⟨i,j,rfl,rfl,q⟩:=h;obtain⟨t,rfl⟩:=rx;obtain⟨t',rfl⟩:=ry;exact rule i j t t' s _ _ ⟨.bl (g i j),H,I,rfl,q⟩
noncomputable def Gn(i j:Int):Prop:=0<j/\j<1073741824
noncomputable def EB(i j:Int):Prop:=0<=j/\j<=1000000/\i.natAbs<2^64
noncomputable def s_(i j:Int):Prop:=(-(2^64)<i/\i<2^64)\/(-(2^64)<j/\j<2^64)
theorem s_.ok{i j:Int}(h:s_ i j):IntMulOk i j:=by
 rcases h with ⟨h1,h2⟩|⟨h1,h2⟩
 ·exact .of_left (intBits_le_64 h1 h2)
 ·exact .of_right (intBits_le_64 h1 h2)
theorem Dp:cR X (binaryOp .Add) (vP λi j=>.int (i+j)):=ET λ_ _ _ _ _ _ _ q=>add_int q
theorem bY:cR X (binaryOp .Sub) (vP λi j=>.int (i-j)):=ET λ_ _ _ _ _ _ _ q=>sub_int q
theorem Di:cR X (binaryOp .Mult) (rI s_ λi j=>.int (i*j)):=ER λ_ _ _ _ _ _ _ hc q=>mul_int q hc.ok
theorem lT:cR X (binaryOp .FloorDiv) (rI Gn λi j=>.int (i / j)):=ER λi j _ _ _ _ _ hc q=>by
 have h1:(0:Int)<j:=hc.1;have h2:j<1073741824:=hc.2;exact floordiv_int (by lia) (by rw[Int.fdiv_eq_ediv_of_nonneg i (by lia)];exact q) (.inl (PyProof.noPylong_small (by lia)))
theorem dy:cR X (binaryOp .Mod) (rI (λ_ j=>0<j) λi j=>.int (i % j)):=ER λi j _ _ _ _ _ hc q=>by
 have h1:(0:Int)<j:=hc;exact mod_int' (by lia) (by rw[Int.fmod_eq_emod_of_nonneg i (by lia)];exact q)
theorem B9:cR X (binaryOp .Pow) (rI EB λi j=>.int (i^j.toNat)):=ER λ_ _ _ _ _ _ _ hc q=>pow_int_small hc.1 hc.2.1 hc.2.2 q
theorem Ca:cR X (binaryOp .LShift) (rI EB λi j=>.int (i*2^j.toNat)):=ER λ_ _ _ _ _ _ _ hc q=>lshift_int_small hc.1 hc.2.1 hc.2.2 q
theorem HP{f:Value->Sem Value}{g:Int->Int}
  (rule:∀(i:Int) (t:Tok) (s:Shared) (Q:Value->Shared->Prop) (E:Value->Shared->Prop),Q (.int (g i) s.toks) {s with toks:=s.toks+1}->wpAny (model X.prog X.w) X.A (f (.int i t)) Q E s) :
  Gb X f (rU λi=>.int (g i)):=by
 intro pins s σ H x v Q I rx h;obtain⟨i,rfl,q⟩:=h;obtain⟨t,rfl⟩:=rx;exact rule i t s _ _ ⟨.int (g i),H,I.tok _,⟨_,rfl⟩,q⟩
theorem cF:Gb X (unaryOp .USub) (rU λi=>.int (-i)):=HP λ_ _ _ _ _ q=>neg_int q
end
noncomputable def Fu:V->V->Bool
 |.aJ,.aJ=>true|.aJ,.int _=>true|.int _,.aJ=>true|.aJ,.bl _=>true|.bl _,.aJ=>true|.aJ,.str _=>true|.str _,.aJ=>true
 |.int _,.int _=>true|.bl _,.bl _=>true|.str _,.str _=>true|.qe _,.qe _=>true
 |.int _,.str _=>true|.str _,.int _=>true|.bl _,.str _=>true|.str _,.bl _=>true
 |_,_=>false
noncomputable def DQ:R2:=λx y H Q=>Fu x y=true/\Q (.bl (decide (x=y))) H
noncomputable def DU:R2:=λx y H Q=>Fu x y=true/\Q (.bl (!decide (x=y))) H
theorem r_{i j:Int}:decide (V.int i=V.int j)=(i == j):=by
 rw[Kz];simp
theorem vO{i j:Bool}:decide (V.bl i=V.bl j)=(i == j):=by
 rw[Kz];simp
theorem rM{i j:Str}:decide (V.str i=V.str j)=(i == j):=by
 rw[Kz];simp
theorem rV{i j:Array UInt8}:decide (V.qe i=V.qe j)=(i.toList == j.toList):=by
 rw[Kz];cases i;cases j;simp
section
variable {X:Cx} {a b c:Expr} {ta tb tc:TE} {pos:Pos}
theorem aO{s:Shared}{Q:VK}{k k':Bool}(I:Inv X pins σ H s)(q:Q (.bl k) H)(e:k=k'):EP X pins σ Q (.bool k') s:=by
 subst e;exact⟨.bl k,H,I,rfl,q⟩
theorem EI:cR X (compareOp .Eq) DQ:=by
 intro pins s σ H x y v u Q I rx ry h;obtain⟨hs,q⟩:=h
 cases x with
 |aJ =>
  cases rx
  cases y with
  |aJ=>cases ry;exact PySem.EqNone.eq_none_none (aO I q (by simp))
  |bl j=>cases ry;exact PySem.EqNone.eq_none_bool (aO I q (by simp))
  |int j=>obtain⟨t',rfl⟩:=ry;exact PySem.EqNone.eq_none_int (aO I q (by simp))
  |str j=>obtain⟨t',rfl⟩:=ry;exact PySem.EqNone.eq_none_str (aO I q (by simp))
  |_=>exact absurd (show false=true from hs) Il
 |bl i =>
  cases rx
  cases y with
  |aJ=>cases ry;exact PySem.EqNone.eq_bool_none (aO I q (by simp))
  |bl j=>cases ry;exact eq_bool (aO I q vO)
  |str j=>obtain⟨t',rfl⟩:=ry;exact PySem.EqMixed.eq_bool_str (aO I q (by simp))
  |_=>exact absurd (show false=true from hs) Il
 |int i =>
  obtain⟨t,rfl⟩:=rx
  cases y with
  |aJ=>cases ry;exact PySem.EqNone.eq_int_none (aO I q (by simp))
  |int j=>obtain⟨t',rfl⟩:=ry;exact eq_int (aO I q r_)
  |str j=>obtain⟨t',rfl⟩:=ry;exact PySem.EqMixed.eq_int_str (aO I q (by simp))
  |_=>exact absurd (show false=true from hs) Il
 |str i =>
  obtain⟨t,rfl⟩:=rx
  cases y with
  |aJ=>cases ry;exact PySem.EqNone.eq_str_none (aO I q (by simp))
  |bl j=>cases ry;exact PySem.EqMixed.eq_str_bool (aO I q (by simp))
  |int j=>obtain⟨t',rfl⟩:=ry;exact PySem.EqMixed.eq_str_int (aO I q (by simp))
  |str j=>obtain⟨t',rfl⟩:=ry;exact eq_str (aO I q rM)
  |_=>exact absurd (show false=true from hs) Il
 |qe i =>
  obtain⟨t,rfl⟩:=rx
  cases y with
  |qe j=>obtain⟨t',rfl⟩:=ry;exact W.eq_bytes (aO I q rV)
  |_=>exact absurd (show false=true from hs) Il
 |_=>cases y<;>exact absurd (show false=true from hs) Il
theorem E9:cR X (compareOp .NotEq) DU:=by
 intro pins s σ H x y v u Q I rx ry h;obtain⟨hs,q⟩:=h
 cases x with
 |aJ =>
  cases rx
  cases y with
  |aJ=>cases ry;exact PySem.EqNone.ne_none_none (aO I q (by simp))
  |bl j=>cases ry;exact PySem.EqNone.ne_none_bool (aO I q (by simp))
  |int j=>obtain⟨t',rfl⟩:=ry;exact PySem.EqNone.ne_none_int (aO I q (by simp))
  |str j=>obtain⟨t',rfl⟩:=ry;exact PySem.EqNone.ne_none_str (aO I q (by simp))
  |_=>exact absurd (show false=true from hs) Il
 |bl i =>
  cases rx
  cases y with
  |aJ=>cases ry;exact PySem.EqNone.ne_bool_none (aO I q (by simp))
  |bl j=>cases ry;exact ne_bool (aO I q (IW not vO))
  |str j=>obtain⟨t',rfl⟩:=ry;exact PySem.EqMixed.ne_bool_str (aO I q (by simp))
  |_=>exact absurd (show false=true from hs) Il
 |int i =>
  obtain⟨t,rfl⟩:=rx
  cases y with
  |aJ=>cases ry;exact PySem.EqNone.ne_int_none (aO I q (by simp))
  |int j=>obtain⟨t',rfl⟩:=ry;exact ne_int (aO I q (IW not r_))
  |str j=>obtain⟨t',rfl⟩:=ry;exact PySem.EqMixed.ne_int_str (aO I q (by simp))
  |_=>exact absurd (show false=true from hs) Il
 |str i =>
  obtain⟨t,rfl⟩:=rx
  cases y with
  |aJ=>cases ry;exact PySem.EqNone.ne_str_none (aO I q (by simp))
  |bl j=>cases ry;exact PySem.EqMixed.ne_str_bool (aO I q (by simp))
  |int j=>obtain⟨t',rfl⟩:=ry;exact PySem.EqMixed.ne_str_int (aO I q (by simp))
  |str j=>obtain⟨t',rfl⟩:=ry;exact ne_str (aO I q (IW not rM))
  |_=>exact absurd (show false=true from hs) Il
 |qe i =>
  obtain⟨t,rfl⟩:=rx
  cases y with
  |qe j=>obtain⟨t',rfl⟩:=ry;exact W.ne_bytes (aO I q (IW not rV))
  |_=>exact absurd (show false=true from hs) Il
 |_=>cases y<;>exact absurd (show false=true from hs) Il
theorem iK:cR X (compareOp .Lt) (vP λi j=>.bl (decide (i<j))):=yA λ_ _ _ _ _ _ _ q=>lt_int q
theorem Eo:cR X (compareOp .LtE) (vP λi j=>.bl (decide (i<=j))):=yA λ_ _ _ _ _ _ _ q=>le_int q
theorem A_:cR X (compareOp .Gt) (vP λi j=>.bl (decide (j<i))):=yA λ_ _ _ _ _ _ _ q=>gt_int q
theorem u_:cR X (compareOp .GtE) (vP λi j=>.bl (decide (j<=i))):=yA λ_ _ _ _ _ _ _ q=>ge_int q
theorem t8:cR X (compareOp .In) (λx y H Q=>∃i j,x=.str i/\y=.str j/\Q (.bl (!(Builtin.Str.occurrences j i 0 j.length 1).isEmpty)) H):=by
 intro pins s σ H x y v u Q I rx ry h;obtain⟨i,j,rfl,rfl,q⟩:=h;obtain⟨t,rfl⟩:=rx;obtain⟨t',rfl⟩:=ry;exact in_str (aO I q rfl)
theorem bQ:cR X (compareOp .Is) (λx y H Q=>y=.aJ/\Q (.bl (decide (x=.aJ))) H):=by
 intro pins s σ H x y v u Q I rx ry h;obtain⟨rfl,q⟩:=h;cases ry;refine is_none_gen (aO I q ?_)
 cases x<;>first
  | (cases rx;rfl)
  | (obtain⟨t,rfl⟩:=rx;rfl)
theorem cR.or{r':R2}(h:cR X f r)(h':cR X f r'):cR X f (λx y H Q=>r x y H Q\/r' x y H Q):=by
 intro pins s σ H x y v u Q I rx ry q;rcases q with q|q
 ·exact h pins s σ H x y v u Q I rx ry q
 ·exact h' pins s σ H x y v u Q I rx ry q
theorem yO{op:CmpOp}(ho:cR X (compareOp op) r)(ha:PE X a ta)(hb:PE X b tb)(hm:behindInMarks op b=false):PE X (.Compare a [op] [b] pos) (wa r ta tb):=by
 intro pins s σ H Q I h;exact wpAny_Compare1 (Ce ha hb I h λv u s2 x y H2 I2 rx ry q=>ho pins s2 σ H2 x y v u Q I2 rx ry q) hm
noncomputable def oo(t:TE):TT:=λσ H Q=>t σ H λx H'=>∃k,x=.bl k/\Q k H'
theorem Ai{op:CmpOp}(ho:cR X (compareOp op) r)(ha:PE X a ta)(hb:PE X b tb)(hm:behindInMarks op b=false):PT X (.Compare a [op] [b] pos) (oo (wa r ta tb)):=by
 intro pins s σ H Q I h;refine wpAny_isTrue_Compare1 (bD (ha pins s σ H _ I h) λv s1 ⟨x,H1,I1,r1,q1⟩=>bD (hb pins s1 σ H1 _ I1 q1) λu s2 ⟨y,H2,I2,r2,q2⟩=>
  bD (ho pins s2 σ H2 x y v u _ I2 r1 r2 q2) λc s3 ⟨z,H3,I3,r3,k,e,q3⟩=>?_) hm
 subst e;cases r3;exact Lz ⟨H3,I3,q3⟩
noncomputable def v9(K:W.Frag)(x:V)(H:Hp)(k:Bool):Prop:=
 match x with
 |.aJ=>k=false
 |.bl b=>k=b
 |.int i=>k=(i != 0)
 |.str y=>y.length<=sizeLine/\k=((y.length:Int) != 0)
 |.qe y=>y.size<=sizeLine/\k=((y.size:Int) != 0)
 |.ref p=>(∃xs,bz K H p xs/\k=!xs.isEmpty)\/(∃xs,bq K H p xs/\k=!xs.isEmpty)\/∃kvs,H p=some (.dK kvs)/\k=!kvs.isEmpty
 |_=>False
theorem qG{κ:Type}{kvs:List (κ×V)}{vs:List (κ×Value)}(r:KV kvs vs):(!vs.isEmpty)=!kvs.isEmpty:=by
 cases r<;>rfl
theorem jz{its:List Value}(r:Vals xs its):(!its.toArray.isEmpty)=!xs.isEmpty:=by
 cases r<;>simp
theorem ia:(sizeLine:Nat)<2^63:=by rw[Js];decide
theorem C1:Gy X (λx H Q=>∃k,v9 X.K x H k/\Q k H):=by
 intro pins s σ H x v Q I rx h;obtain⟨k,e,q⟩:=h;have hl:=ia;have hs:sizeLine=16777216:=Js
 cases x with
 |aJ =>
  cases rx;have e':k=false:=e;subst e';exact truthy_none ⟨H,I,q⟩
 |bl b =>
  cases rx;have e':k=b:=e;subst e';exact Lz ⟨H,I,q⟩
 |int i =>
  obtain⟨t,rfl⟩:=rx;have e':k=(i != 0):=e;subst e';exact PySem.P.truthy_int ⟨H,I,q⟩
 |str y =>
  obtain⟨t,rfl⟩:=rx;obtain⟨hy,e'⟩:y.length<=sizeLine/\k=((y.length:Int) != 0):=e;subst e';exact PySem.P.truthy_str (by lia) ⟨H,I.tok _,q⟩
 |qe y =>
  obtain⟨t,rfl⟩:=rx;obtain⟨hy,e'⟩:y.size<=sizeLine/\k=((y.size:Int) != 0):=e;subst e';exact W.truthy_bytes (by lia) ⟨H,I.tok _,q⟩
 |ref p =>
  cases rx;have e':(∃xs,bz X.K H p xs/\k=!xs.isEmpty)\/(∃xs,bq X.K H p xs/\k=!xs.isEmpty)\/∃kvs,H p=some (.dK kvs)/\k=!kvs.isEmpty:=e;rcases e' with ⟨xs,hx,e'⟩|⟨xs,hx,e'⟩|⟨kvs,hx,e'⟩
  ·subst e';obtain⟨its,r,pl,hz⟩:=I.list hx;have hlen:=r.length;exact wpAny_truthy_list pl.isList (by simp only[Im];lia) ⟨H,I.tok _,by rw[jz r];exact q⟩
  ·subst e';obtain⟨its,r,pl,hz⟩:=I.tuple hx;have hlen:=r.length;exact truthy_tuple pl (by simp only[Im];lia) ⟨H,I.tok _,by rw[jz r];exact q⟩
  ·subst e';obtain⟨hz,hS,vs,r,m⟩:kvs.length<=sizeLine/\(p == sysModules)=false/\∃vs,KV kvs vs/\s.heap.DictOf (bJ X.prog X.w) p vs:=I.aI p _ hx;have hlen:kvs.length=vs.length:=Paired.length r;exact wpAny_truthy_dict hS m (by lia) ⟨H,I.tok _,by rw[qG r];exact q⟩
 |_=>exact (show False from e).elim
theorem xM(ha:PE X a ta)(he:∀whole,isTrue a X.env whole=(do let v <- whole;standAt a.pos;holding [v] (truthy v))):
  PT X a (λσ H Q=>ta σ H λx H'=>∃k,v9 X.K x H' k/\Q k H'):=by
 intro pins s σ H Q I h;exact isTrue_plain (bD (ha pins s σ H _ I h) λv s1 ⟨x,H1,I1,r1,q1⟩=>C1 pins s1 σ H1 x v Q I1 r1 q1) (he _)
theorem p7:cR X (binaryOp .Add) (λx y H Q=>∃i j,x=.str i/\y=.str j/\i.length+j.length<=sizeLine/\Q (.str (i++j)) H):=by
 intro pins s σ H x y v u Q I rx ry h;obtain⟨i,j,rfl,rfl,hz,q⟩:=h;obtain⟨t,rfl⟩:=rx;obtain⟨t',rfl⟩:=ry;exact add_str (λt' tk=>⟨.str (i++j),H,I.tok _,⟨_,rfl⟩,q⟩) hz
theorem vals1{x:V}(r:Vals [x] us):∃u,us=[u]/\RelV x u:=by
 cases r with
 |cons r1 r2=>cases r2;exact⟨_,rfl,r1⟩
theorem vals2{x y:V}(r:Vals [x,y] us):∃u w',us=[u,w']/\RelV x u/\RelV y w':=by
 cases r with
 |cons r1 r2 =>
  cases r2 with
  |cons r3 r4=>cases r4;exact⟨_,_,rfl,r1,r3⟩
theorem xV:bc X (.builtin "abs") (λxs H Q=>∃i,xs=[.int i]/\Q (.int (if i<0 then -i else i)) H):=by
 intro pins s σ H xs us Q I r h;obtain⟨i,rfl,q⟩:=h;obtain⟨u,rfl,t,rfl⟩:=vals1 r;exact call_abs_int λu tk=>⟨.int (if i<0 then -i else i),H,I.tok _,⟨_,rfl⟩,q⟩
theorem sX(hc:X.calm=true):bc X (.builtin "max") (λxs H Q=>∃i j,xs=[.int i,.int j]/\Q (.int (if j > i then j else i)) H):=by
 intro pins s σ H xs us Q I r h;obtain⟨i,j,rfl,q⟩:=h;obtain⟨u,w',rfl,⟨t,rfl⟩,⟨t',rfl⟩⟩:=vals2 r;refine max_two_ints (I.ok.hd hc) λh' tk k=>⟨_,H,I.kept k,?_,q⟩;by_cases hj:j > i
 ·rw[Ig hj,Ig hj];exact⟨_,rfl⟩
 ·rw[H_ hj,H_ hj];exact⟨_,rfl⟩
theorem tX(hc:X.calm=true):bc X (.builtin "min") (λxs H Q=>∃i j,xs=[.int i,.int j]/\Q (.int (if j<i then j else i)) H):=by
 intro pins s σ H xs us Q I r h;obtain⟨i,j,rfl,q⟩:=h;obtain⟨u,w',rfl,⟨t,rfl⟩,⟨t',rfl⟩⟩:=vals2 r;refine min_two_ints (I.ok.hd hc) λh' tk k=>⟨_,H,I.kept k,?_,q⟩;by_cases hj:j<i
 ·rw[Ig hj,Ig hj];exact⟨_,rfl⟩
 ·rw[H_ hj,H_ hj];exact⟨_,rfl⟩
theorem kC:bc X (.type "int") (λxs H Q=>(∃i,xs=[.int i]/\Q (.int i) H)\/∃k,xs=[.bl k]/\Q (.int (if k then 1 else 0)) H):=by
 intro pins s σ H xs us Q I r h;rcases h with ⟨i,rfl,q⟩|⟨k,rfl,q⟩
 ·obtain⟨u,rfl,t,rfl⟩:=vals1 r;exact call_int_int ⟨.int i,H,I,⟨_,rfl⟩,q⟩
 ·obtain⟨u,rfl,r1⟩:=vals1 r;cases r1;exact call_int_bool ⟨.int (if k then 1 else 0),H,I.tok _,⟨_,rfl⟩,q⟩
noncomputable def Eg(K:W.Frag)(x:V)(H:Hp)(n:Nat):Prop:=
 match x with
 |.str y=>y.length<=sizeLine/\n=y.length
 |.qe y=>y.size<=sizeLine/\n=y.size
 |.ref p=>(∃xs,bz K H p xs/\n=xs.length)\/∃xs,bq K H p xs/\n=xs.length
 |_=>False
theorem gz:bc X (.builtin "len") (λxs H Q=>∃x n,xs=[x]/\Eg X.K x H n/\Q (.int n) H):=by
 intro pins s σ H xs us Q I r h;obtain⟨x,n,rfl,e,q⟩:=h;obtain⟨u,rfl,rx⟩:=vals1 r;have hl:=ia;have hs:sizeLine=16777216:=Js
 cases x with
 |str y =>
  obtain⟨t,rfl⟩:=rx;obtain⟨hy,e'⟩:y.length<=sizeLine/\n=y.length:=e;subst e';exact len_str (by lia) ⟨.int _,H,I.tok _,⟨_,rfl⟩,q⟩
 |qe y =>
  obtain⟨t,rfl⟩:=rx;obtain⟨hy,e'⟩:y.size<=sizeLine/\n=y.size:=e;subst e';exact W.len_bytes (by lia) ⟨.int _,H,I.tok _,⟨_,rfl⟩,q⟩
 |ref p =>
  cases rx;have e':(∃xs,bz X.K H p xs/\n=xs.length)\/∃xs,bq X.K H p xs/\n=xs.length:=e;rcases e' with ⟨xs,hx,e'⟩|⟨xs,hx,e'⟩
  ·subst e';obtain⟨its,r',pl,hz⟩:=I.list hx;have hlen:=r'.length;exact Calls.call_len_list pl.isList (by simp only[Im];lia) ⟨.int xs.length,H,I.tok _,⟨_,by simp only[Im];rw[hlen]⟩,q⟩
  ·subst e';obtain⟨its,r',pl,hz⟩:=I.tuple hx;have hlen:=r'.length;exact len_tuple pl (by simp only[Im];lia) ⟨.int xs.length,H,I.tok _,⟨_,by simp only[Im];rw[hlen]⟩,q⟩
 |_=>exact (show False from e).elim
end
structure BJ (h:Heap) (x dx C:Addr) (mA:Str->Option Value):Prop where
 obj:h.get? x=some (W.instObj C dx)
 ns:h.Ns1 dx mA
 ne:dx≠x
theorem lu{dx:Addr}(n:h.Ns1 dx mA):∃od,h.get? dx=some od/\∀name,W.lookIn name od=some (mA name):=by
 obtain⟨o,es,ep,ho,hd,hk,_,hm⟩:=n;refine⟨o,ho,λname=>?_⟩;have e:=hm name;unfold nsFind findBy at e;rw[<- Array.find?_toList] at e;unfold W.lookIn;rw[hd];dsimp only;split
 ·rename_i y q;rw[q] at e;exact IW some e
 ·rename_i q;rw[q] at e;have a:es.toList.any (·.refKey)=false:=by
   rw[List.any_eq_false];intro y hy;obtain⟨z,t,hkey⟩:=hk y (Array.mem_toList_iff.mp hy);simp[DictEntry.refKey,hkey]
  have a':¬ es.toList.any (·.refKey)=true:=by rw[a];exact Il
  rw[H_ a'];exact IW some e
theorem BJ.look{x dx:Addr}(I:BJ h x dx C mA):∃od,W.InstAt h x (W.instObj C dx) C (some od)/\∀name,W.lookIn name od=some (mA name):=
 let ⟨od,ho,hl⟩:=lu I.ns
 ⟨od,⟨I.obj,rfl,rfl,ho⟩,hl⟩
theorem iO.some_of{v:V}{o:Option Value}(r:iO (some v) o):∃u,o=some u/\RelV v u:=by
 cases o with
 |none=>exact (show False from r).elim
 |some u=>exact⟨u,rfl,r⟩
section
variable {P:Program} {w:World} {H H':Hp} {h h':Heap} {a C dx:Addr} {fs fs':List (Str×V)}
theorem zL(aI:dz P w H h)(e:H a=some (.ins C dx fs)):∃mA,BJ h a dx C mA/\(∀f,iO (fs.lookup f) (mA f))/\PySem.Within mA (fs.map (·.1))/\fs.length<=1000/\H dx=some (.own a):=by
 obtain⟨d,z,ne,ob,mA,n,r,q⟩:=(show aM P w H h a (.ins C dx fs) from aI a _ e);exact⟨mA,⟨ob,n,ne⟩,r,q,z,d⟩
end
structure GO (K:W.Frag) (C:Addr):Prop where
 pg:W.plainGet K C Str.empty=true
 hd:W.hasDictIn K C=true
 po:W.plainOver K C=true
 sa:W.findIn K (.ref C) "__setattr__"=some (some (.builtin "object.__setattr__"))
theorem GO.get(c:GO K C)(f:Str):W.plainGet K C f=true:=c.pg
section
variable {X:Cx} {pins:List (Addr×Obj)} {σ:St} {H:Hp} {s:Shared} {a C dx:Addr} {fs:List (Str×V)} {f:Str} {v:V} {A:Around} {E:Value->Shared->Prop}
theorem zc{prog:Program}{env:Env}{f:Str}{pos:Pos}{s:Shared}(hb:attributeBase e f env (eval e env)=eval e env)
  (h:wpAny (model prog w) A (eval e env) (λo s₁=>wpAny (model prog w) A (getAttr o f true) Q E s₁) E s):wpAny (model prog w) A (eval (.Attribute e f pos) env) Q E s:=
 Attribute_any_ h (by rw[arm_eval_Attribute,hb])
end
section
variable {X:Cx} {pins:List (Addr×Obj)} {σ:St} {H:Hp} {s:Shared} {A:Around} {E:Value->Shared->Prop} {Q:Value->Shared->Prop} {c:Value} {b:Bool}
inductive gq (K:W.Frag) (H:Hp):V->Value->Prop where
 |aJ:gq K H .aJ (.type "NoneType")
 |bl (x:Bool):gq K H (.bl x) (.type "bool")
 |int (i:Int):gq K H (.int i) (.type "int")
 |str (x:Str):gq K H (.str x) (.type "str")
 |DT (x:UInt64):gq K H (.DT x) (.type "float")
 |lst {a:Addr} {xs:List V} (e:H a=some (.lst xs)):gq K H (.ref a) (.type "list")
 |hU {a:Addr} {o:Obj} {xs:List V} (e:H a=some (.hU o (.lst xs))):gq K H (.ref a) (.type "list")
 |tup {a:Addr} {xs:List V} (e:H a=some (.tup xs)):gq K H (.ref a) (.type "tuple")
 |dK {a:Addr} {kvs:List (Key×V)} (e:H a=some (.dK kvs)):gq K H (.ref a) (.type "dict")
 |dT {a:Addr} {kvs:List (List Key×V)} (e:H a=some (.dT kvs)):gq K H (.ref a) (.type "dict")
 |ins {a C dx:Addr} {fs:List (Str×V)} (e:H a=some (.ins C dx fs)) (cl:GO K C) (ha:W.findIn K (.ref C) "__class__"=some (some (.builtin "object.__class__")))
   (hn:W.specialIn K (.builtin "object.__class__") "__get__"=some (some (.builtin "getset_descriptor.__get__"))) (htk:W.takesIn K (.builtin "object.__class__")=some true)
   (hm:W.mroIn K C (.type "object")=some true):gq K H (.ref a) (.ref C)
theorem kW{x:V}{t:Value}(I:Inv X pins σ H s)(rx:RelV x u)(ty:gq X.K H x t)(e:W.kitOne X.K t c=some b)(h:∀tk,Q (.bool b) {s with toks:=tk}):
  wpAny (model X.prog X.w) A (call (.builtin "isinstance") [u,c]) Q E s:=by
 cases ty with
 |aJ=>cases (show u=Value.none from rx);exact Kl W.kitx_none I.fo True.intro e (λz=>nomatch z) h
 |bl y=>cases (show u=Value.bool y from rx);exact Kl W.kitx_bool I.fo True.intro e (λz=>nomatch z) h
 |int i=>obtain⟨t,q⟩:=(show ∃t,u=Value.int i t from rx);cases q;exact Kl W.kitx_int I.fo True.intro e (λz=>nomatch z) h
 |str y=>obtain⟨t,q⟩:=(show ∃t,u=Value.str y t from rx);cases q;exact Kl W.kitx_str I.fo True.intro e (λz=>nomatch z) h
 |DT y=>obtain⟨t,q⟩:=(show ∃t,u=Value.float y t from rx);cases q;exact Kl W.kitx_float I.fo True.intro e (λz=>nomatch z) h
 |@lst a xs ea =>
  cases (show u=Value.ref a from rx)
  obtain⟨_,_,n,_,h1⟩:=(show aM X.prog X.w H s.heap a (.lst xs) from I.aI a _ ea);exact Kl W.kitx_list I.fo ⟨_,h1,rfl⟩ e (λz=>nomatch z) h
 |@hU a ob xs ea =>
  cases (show u=Value.ref a from rx)
  obtain⟨_,_,_,n,_,h1⟩:=(show aM X.prog X.w H s.heap a (.hU ob (.lst xs)) from I.aI a _ ea);exact Kl W.kitx_list I.fo ⟨_,h1,rfl⟩ e (λz=>nomatch z) h
 |@tup a xs ea =>
  cases (show u=Value.ref a from rx)
  obtain⟨_,_,_,p⟩:=(show aM X.prog X.w H s.heap a (.tup xs) from I.aI a _ ea);obtain⟨o,h1,h2,_⟩:=p;exact Kl W.kitx_tuple I.fo ⟨o,h1,h2⟩ e (λz=>nomatch z) h
 |@dK a kvs ea =>
  cases (show u=Value.ref a from rx)
  obtain⟨_,_,vs,_,p⟩:=(show aM X.prog X.w H s.heap a (.dK kvs) from I.aI a _ ea);obtain⟨o,es,ep,h1,h2,_⟩:=p;exact Kl W.kitx_dict I.fo ⟨o,h1,h2.1⟩ e (λz=>nomatch z) h
 |@dT a kvs ea =>
  cases (show u=Value.ref a from rx)
  obtain⟨_,_,xs,_,o,es,ep,h1,h2,_⟩:=(show aM X.prog X.w H s.heap a (.dT kvs) from I.aI a _ ea);exact Kl W.kitx_dict I.fo ⟨o,h1,h2.1⟩ e (λz=>nomatch z) h
 |@ins a C dx fs ea cl ha hn htk hm =>
  cases (show u=Value.ref a from rx)
  obtain⟨mA,O,_⟩:=zL I.aI ea;obtain⟨od,J,_⟩:=O.look;exact Kl (W.kitx_own (cl.get _) cl.hd ha hn htk hm) I.fo J e (λz=>nomatch z) h
end
structure bj (k:Nat) (A:Around):Prop where
 hd:A.handled=none
 dp:A.depth+3*k+5<recursionLimit
 un:A.units+16*k+200<cLine
 gd:A.guards=some []
theorem bj.mono{k:Nat}{A:Around}(r:bj k A)(h:j<=k):bj j A:=⟨r.hd,by have:=r.dp;lia,by have:=r.un;lia,r.gd⟩
theorem bj.deeper{k:Nat}{A:Around}(r:bj (k+1) A)(env:Env):bj k (A.deeper env):=
 ⟨r.hd,by have:=r.dp;show A.depth+1+3*k+5<_;lia,by have:=r.un;show A.units+3+16*k+200<_;lia,r.gd⟩
theorem bj.in1{k:Nat}{A:Around}(r:bj (k+1) A):bj k A.in1:=
 ⟨r.hd,by have:=r.dp;show A.depth+3*k+5<_;lia,by have:=r.un;show A.units+1+16*k+200<_;lia,r.gd⟩
theorem qz{A:Around}:(A.under (.builtin "type.__call__" ⟨.ref C::us,kw⟩)).depth=A.depth+1:=by
 first|rfl|simp[Around.under,Code.weight,Code.isCreation,Code.isGuard,Code.isCaller,Code.frames,Code.isFrame,guardIds]
theorem qa{A:Around}:(A.under (.builtin "type.__call__" ⟨.ref C::us,kw⟩)).units=A.units+1:=by
 first|rfl|simp[Around.under,Code.cUnits,Code.frames,Code.isFrame]
theorem bj.make{k:Nat}{A:Around}(r:bj (k+1) A)(C:Addr)(us:List Value)(kw:List (Str×Value)):bj k (A.under (.builtin "type.__call__" ⟨.ref C::us,kw⟩)):=
 ⟨r.hd,by have:=r.dp;rw[qz];lia,by have:=r.un;rw[qa];lia,by have h:=r.gd;first|exact h | (simp[Around.under,Code.guards,Code.isGuard,guardIds];exact h)⟩
theorem bj.depth{k:Nat}{A:Around}(r:bj k A):A.depth<recursionLimit:=by have:=r.dp;lia
theorem bj.units{k:Nat}{A:Around}(r:bj k A):A.units+64<cLine:=by have:=r.un;lia
noncomputable def jj:TA:=λ_ H Q=>Q [] H
noncomputable def gS(ta:TE)(tr:TA):TA:=λσ H Q=>ta σ H λx H1=>tr σ H1 λxs H2=>Q (x::xs) H2
section
variable {X:Cx} {e:Expr} {es:List Expr} {te:TE} {t:TA} {pos:Pos}
theorem qh:PA X [] jj:=λ_ _ _ _ H Q I h=>Calls.spliced_nil ⟨[],H,I,.nil,h⟩
theorem iW(ha:PE X e te)(hr:PA X es t)(hs:autoParam (starEach (e::es) X.env=(false,eval e X.env)::starEach es X.env) ℜ0):PA X (e::es) (gS te t):=by
 intro pos pins s σ H Q I h;rw[hs];show wpAny _ _ (spliced ((false,eval e X.env)::backTo pos (starEach es X.env))) _ _ s;refine Calls.spliced_cons (bD (ha pins s σ H _ I h) λu s1 hq46=>?_);obtain⟨x,H1,I1,r1,q1⟩:=hq46;exact bD (hr pos pins s1 σ H1 _ I1 q1) λus s2 ⟨xs,H2,I2,r2,q2⟩=>⟨x::xs,H2,I2,.cons r1 r2,q2⟩
noncomputable def xf(t:TA):TE:=λσ H Q=>t σ H λxs H1=>xs.length<=sizeLine/\∀p,H1 p=none->Q (.ref p) (upd H1 p (.tup xs))
noncomputable def yb(t:TA):TE:=λσ H Q=>t σ H λxs H1=>xs.length<=sizeLine/\∀p,H1 p=none->Q (.ref p) (upd H1 p (.lst xs))
theorem BB{x1}(h:PA X es t):PE X (.Tuple es x1 pos) (xf t):=by
 intro pins s σ H Q I hq;refine wpAny_Tuple_spliced (bD (h pos pins s σ H _ I hq) λus s1 ⟨xs,H1,I1,r,z,q⟩=>⟨by rw[<- r.length];exact z,?_⟩)
 have hf:H1 s1.heap.objs.size=none:=I1.aI.fresh (Ib _);refine⟨.ref s1.heap.objs.size,upd H1 s1.heap.objs.size (.tup xs),I1.laid (t':=s1.toks) (λb u e=>HW _ e) (Ib _) ?_,rfl,q _ hf⟩;exact⟨z,us,r,⟨_,Ip _ rfl,rfl,_,rfl,rfl⟩⟩
theorem BE(h:PA X es t):PE X (.List es pos) (yb t):=by
 intro pins s σ H Q I hq;refine wpAny_List_spliced (bD (h pos pins s σ H _ I hq) λus s1 ⟨xs,H1,I1,r,z,q⟩=>⟨by rw[<- r.length];exact z,?_⟩)
 have hf:H1 s1.heap.objs.size=none:=I1.aI.fresh (Ib _);refine⟨.ref s1.heap.objs.size,upd H1 s1.heap.objs.size (.lst xs),I1.laid (t':=s1.toks) (λb u e=>HW _ e) (Ib _) ?_,rfl,q _ hf⟩;exact⟨z,us,0,r,Ip _ rfl⟩
end
abbrev Sp:=List V->Hp->VK->XK->Prop
abbrev mQ:=List Env->Hp->Shared->XK->Value->Shared->Prop
variable{CX:mQ}
structure qy (P:Program) (w:World) (K:W.Frag) (mg:Str->Option Value) (base:Heap) (A:Around) (outer:List Env) (s:Shared) (H:Hp):Prop where
 frames:A.frames=some outer
 mod:Mod K mg base
 bs:∀b o,base.get? b=some o->s.heap.get? b=some o/\H b=none
 pd:base.objs.size<=s.heap.objs.size
 eX:s.heap.FunFrames base outer
 u0:∀b∈gN outer,H b=none
 aI:dz P w H s.heap
 bare:AllBare s.gens
 tabs:TabsOk K H
noncomputable def CE(outer:List Env)(P:Program)(w:World)(H:Hp)(s:Shared)(Q:VK)(u:Value)(s':Shared):Prop:=
 ∃v H',s'.os=s.os/\AllBare s'.gens/\Un (gN outer) [] H H' s.heap s'.heap/\dz P w H' s'.heap/\RelV v u/\Q v H'
noncomputable def CR(CX:mQ)(outer:List Env)(P:Program)(w:World)(H:Hp)(s:Shared)(Q:VK)(E:XK)(r:Result)(s':Shared):Prop:=
 match r with
 |.ok (.ret u)=>CE outer P w H s Q u s'
 |.ok _=>False
 |.error e=>CX outer H s E e s'
structure d2 (P:Program) (w:World) (K:W.Frag) (mg:Str->Option Value) (base:Heap) (CX:mQ) (k:Nat) (f:Addr) (fd:FuncData) (ps:List Str) (sp:Sp):Prop where
 len:∀vs H Q E,sp vs H Q E->vs.length=ps.length
 run:∀(A:Around) (outer:List Env) (s:Shared) (H:Hp) (args:Args) (us:List Value) (vs:List V) (Q:VK) (E:XK),bj k A->qy P w K mg base A outer s H->BindsTo s fd args (ps.zip us)->Vals vs us->sp vs H Q E ->
  codeAny (model P w) A (.call (.ref f) args) (CR CX outer P w H s Q E) s
theorem d2.mono{k:Nat}{f:Addr}{ps:List Str}{sp:Sp}(F:d2 P w K mg base CX j f fd ps sp)(h:j<=k):
  d2 P w K mg base CX k f fd ps sp:=⟨F.len,λA outer s H args us vs Q E hr=>F.run A outer s H args us vs Q E (hr.mono h)⟩
theorem qy.make{A:Around}{s:Shared}(e:qy P w K mg base A outer s H)(C:Addr)(us:List Value)(kw:List (Str×Value)):
  qy P w K mg base (A.under (.builtin "type.__call__" ⟨.ref C::us,kw⟩)) outer s H:=⟨by first|exact e.frames | (simpa[Around.under,Code.envs,Code.isFrame,pushEnvs] using e.frames),e.mod,e.bs,e.pd,e.eX,e.u0,e.aI,e.bare,e.tabs⟩
section
variable {X:Cx} {pins:List (Addr×Obj)} {σ:St} {H:Hp} {s s':Shared}
theorem Inv.A2(I:Inv X pins σ H s):qy X.prog X.w X.K X.mg X.base X.A X.stack s H:=
 ⟨I.ok.frames,I.ok.mod,I.bs,Ia I.ok.pd I.sz,I.stack,I.iR,I.aI,I.bare,I.ok.tabs.un I.base⟩
theorem Inv.after{Q:VK}(I:Inv X pins σ H s)(h:CE X.stack X.prog X.w H s Q u s'):EP X pins σ Q u s':=by
 obtain⟨v,H',os,bare,un,aI,r,q⟩:=h;obtain⟨hh,g,d,t,os'⟩:=s';obtain rfl:os'=s.os:=os;exact⟨v,H',I.call (h':=hh) (g':=g) (d':=d) (t':=t) (ch:=[]) un aI bare (λb z=>absurd z (by simp)),r,q⟩
end
noncomputable def fQ(sp:Sp)(dvs:List V)(E:XK)(t:TA):TE:=λσ H Q=>t σ H λvs H1=>sp (vs++dvs) H1 Q E
noncomputable def Binds(K:W.Frag)(fd:FuncData)(ps:List Str)(ds:List Value):Prop:=
 ∀(s:Shared) (us:List Value),K.In s.heap->(us++ds).length=ps.length->BindsTo s fd ⟨us,[]⟩ (ps.zip (us++ds))
theorem Binds.all{ps:List Str}(h:∀us:List Value,us.length=ps.length->bindArgs fd ⟨us,[]⟩=pure (ps.zip us)):Binds K fd ps []:=λs us _ hl=>by
 rw[Jd] at hl ⊢;exact .of_eq (h us hl)
noncomputable def Passes(CX:mQ)(X:Cx)(E:XK):Prop:=∀(pins:List (Addr×Obj)) (σ:St) (H:Hp) (s:Shared) (e:Value) (s':Shared),Inv X pins σ H s->CX X.stack H s E e s'->X.xe e s'
section
variable {X:Cx} {CX:mQ} {k:Nat} {f C:Addr} {fd:FuncData} {ps:List Str} {sp:Sp} {dvs:List V} {ds:List Value} {E:XK} {x m:Str} {p pos apos:Pos} {e o:Expr} {es:List Expr} {ta:TE} {t:TA}
theorem yk{s:Shared}{Q:VK}{vs:List V}(F:d2 X.prog X.w X.K X.mg X.base CX k f fd ps sp)(hr:bj k X.A)(hb:Binds X.K fd ps ds)(hd:Vals dvs ds)(hx:Passes CX X E)
  (I:Inv X pins σ H s) (r:Vals vs us) (h:sp (vs++dvs) H Q E):wpAny (model X.prog X.w) X.A (call (.ref f) us) (EP X pins σ Q) X.xe s:=by
 have r2:Vals (vs++dvs) (us++ds):=r.append hd;have hl:(us++ds).length=ps.length:=by rw[<- r2.length];exact F.len _ _ _ _ h
 refine KP (LK (F.run X.A X.stack s H ⟨us,[]⟩ (us++ds) (vs++dvs) Q E hr I.A2 (hb s us I.fo hl) r2 h) λr s' hq=>?_)
 cases r with
 |error e=>exact hx pins σ H s e s' I hq
 |ok fl =>
  cases fl with
  |ret u=>exact I.after hq
  |next=>exact False.elim hq
  |brk=>exact False.elim hq
  |cont=>exact False.elim hq
theorem An(F:d2 X.prog X.w X.K X.mg X.base CX k f fd ps sp)(hr:bj k X.A)(hg:Gl X x)(hm:X.mg x=some (.ref f))(hk:W.keepIn X.K (.ref f)=true)(hb:Binds X.K fd ps ds)(hd:Vals dvs ds)(hx:Passes CX X E)
  (ha:PA X (e::es) t) (hdb:autoParam ((x ==("__debug__":Str))=false) ℜ1) (he:autoParam (starEach (e::es) X.env=(false,eval e X.env)::starEach es X.env) ℜ0) (hpl:autoParam ((backTo pos (starEach es X.env)).any (·.1)=false) ℜ0) :
  PE X (.Call (.Name x p) (e::es) [] pos) (fQ sp dvs E t):=by
 intro pins s σ H Q I h;refine JC (d5 I hg hm ?_ hdb);refine M0 (h₀:=X.base) I.ok.mod.j_ hk (bD (ha pos pins s σ H _ I h) λus s1 ⟨vs,H1,I1,r,q⟩=>⟨I1.fo,?_⟩) he hpl;exact yk F hr hb hd hx I1 r q
theorem vH(F:d2 X.prog X.w X.K X.mg X.base CX k f fd ps sp)(hr:bj k X.A)(hg:Gl X x)(hm:X.mg x=some (.ref f))(hk:W.keepIn X.K (.ref f)=true)(hb:Binds X.K fd ps ds)(hd:Vals dvs ds)(hx:Passes CX X E)
  (hdb:autoParam ((x ==("__debug__":Str))=false) ℜ1):PE X (.Call (.Name x p) [] [] pos) (fQ sp dvs E jj):=by
 intro pins s σ H Q I h;refine JC (d5 I hg hm ?_ hdb);exact W.callWith_K0 I.fo hk (yk (us:=[]) F hr hb hd hx I .nil h)
end
noncomputable def PK(X:Cx)(kws:List Keyword)(t:TA):Prop:=
 ∀(pos:Pos) (pins:List (Addr×Obj)) (s:Shared) (σ:St) (H:Hp) (Q:List V->Hp->Prop),Inv X pins σ H s->t σ H Q->wpAny (model X.prog X.w) X.A (evalAll ((backToKw pos (keywordEach kws X.env)).map (·.2))) (AP X pins σ Q) X.xe s
section
variable {X:Cx} {CX:mQ} {k:Nat} {f C:Addr} {fd:FuncData} {ps ks:List Str} {sp:Sp} {E:XK} {x m:Str} {p pos apos kpos:Pos} {e o:Expr} {es:List Expr} {kws:List Keyword} {te ta:TE} {t tk:TA} {nm:Option Str}
theorem Cp:PK X [] jj:=λ_ _ _ _ H Q I h=>wpAny_evalAll_nil ⟨[],H,I,.nil,h⟩
theorem AA(ha:PE X e te)(hr:PK X kws t):PK X (⟨nm,e,kpos⟩::kws) (gS te t):=by
 intro pos pins s σ H Q I h;show wpAny _ _ (evalAll ((do let v <- eval e X.env;standAt pos;pure v)::(backToKw pos (keywordEach kws X.env)).map (·.2))) _ _ s
 refine wpAny_evalAll_cons (HU (bD (ha pins s σ H _ I h) λu s1 ⟨x,H1,I1,r1,q1⟩=>HU (La (Ii ?_))));exact bD (hr pos pins s1 σ H1 _ I1 q1) λus s2 ⟨xs,H2,I2,r2,q2⟩=>⟨x::xs,H2,I2,.cons r1 r2,q2⟩
variable {g:List Value->List Value->List Value} {gV:List V->List V->List V}
end
structure ar (N P:List Str) (sc:Scope):Prop where
 kind:sc.kind=.function
 co:sc.isCoroutine=false
 gen:sc.isGenerator=false
 nd:N.Nodup
 pre:N.take P.length=P
 par:∀x∈P,sc.names.lookup x=some .local\/sc.names.lookup x=some .cell
 Dk:∀y∈sc.names,y.2≠.free
theorem lr:∀{binds:List (Str×Value)} {m:Str->Option Value},(∀v,(x,v)∉binds)->bindL kindOf binds m x=m x
 |[],_,_=>rfl
 | (n,v)::r,m,h=>by
  unfold bindL;rw[lr λw hw=>h w (Ik _ hw)];split
  ·have:x≠n:=by rintro rfl;exact h v Ij
   simp[this]
  ·rfl
theorem kR:∀{binds:List (Str×Value)} {m:Str->Option Value},(∀v,(x,v)∉binds)->bindC kindOf binds m x=m x
 |[],_,_=>rfl
 | (n,v)::r,m,h=>by
  unfold bindC;rw[kR λw hw=>h w (Ik _ hw)];split
  ·rfl
  ·have:x≠n:=by rintro rfl;exact h v Ij
   simp[this]
theorem kB{v:Value}:∀{P:List Str} {vs:List Value} {i:Nat} {m:Str->Option Value},P.Nodup->P[i]?=some x->vs[i]?=some v->kindOf x=some .local ->
  bindL kindOf (P.zip vs) m x=some v
 |[],_,_,_,_,h,_,_=>by simp at h
 |_::_,[],_,_,_,_,h,_=>by simp at h
 |p::P,w::vs,0,m,nd,h1,h2,hk=>by
  simp at h1 h2;subst h1;subst h2;show bindL kindOf ((p,w)::P.zip vs) m p=_;unfold bindL;rw[lr λv hv=>(JK.mp nd).1 (MK hv).1,Ig hk];simp
 |p::P,w::vs,i+1,m,nd,h1,h2,hk=>by
  show bindL kindOf ((p,w)::P.zip vs) m x=_;unfold bindL;exact kB (i:=i) (JK.mp nd).2 (by simpa using h1) (by simpa using h2) hk
theorem lg{v:Value}:∀{P:List Str} {vs:List Value} {i:Nat} {m:Str->Option Value},P.Nodup->P[i]?=some x->vs[i]?=some v->kindOf x≠some .local ->
  bindC kindOf (P.zip vs) m x=some v
 |[],_,_,_,_,h,_,_=>by simp at h
 |_::_,[],_,_,_,_,h,_=>by simp at h
 |p::P,w::vs,0,m,nd,h1,h2,hk=>by
  simp at h1 h2;subst h1;subst h2;show bindC kindOf ((p,w)::P.zip vs) m p=_;unfold bindC;rw[kR λv hv=>(JK.mp nd).1 (MK hv).1,H_ hk];simp
 |p::P,w::vs,i+1,m,nd,h1,h2,hk=>by
  show bindC kindOf ((p,w)::P.zip vs) m x=_;unfold bindC;exact lg (i:=i) (JK.mp nd).2 (by simpa using h1) (by simpa using h2) hk
noncomputable def start(N:List Str)(vs:List V):St:=vs.map some++List.replicate (N.length-vs.length) none
noncomputable def i9(CX:mQ)(P:Program)(w:World)(K:W.Frag)(mg:Str->Option Value)(base:Heap)(N:List Str)(qual:Str)(scope:Scope)(f:Addr)(cd:Value)(A:Around)(outer:List Env)(s:Shared)(H:Hp)(E:XK):Cx where
 prog:=P
 w:=w
 K:=K
 mg:=mg
 base:=base
 A:=A.deeper (envOfC qual scope s.heap.objs.size f cd)
 N:=N
 s₀:=s
 H₀:=H
 env:=envOfC qual scope s.heap.objs.size f cd
 outer:=outer
 stack:=envOfC qual scope s.heap.objs.size f cd::outer
 ex:=[]
 calm:=true
 fn:=λ_=>true
 pn:=[]
 xe:=λe s'=>wpAny (model P w) (A.deeper (envOfC qual scope s.heap.objs.size f cd)) (leaving (envOfC qual scope s.heap.objs.size f cd) e) (λ_ s''=>CX outer H s E e s'') (λe' s''=>CX outer H s E e' s'') s'
theorem mV{sc:Scope}{n:Nat}(h:sc.names.lookup x=some .cell):∃c,(cellsFrom n sc.names []).lookup x=some c:=by
 have q:=W.cellsFrom_some sc.names n [] (.inl h);exact Ln.mp q
theorem ug{ps:List Str}{qual:Str}{f:Addr}{cd:Value}{A:Around}{s s1:Shared}{E:XK}{vs:List V}
  (S:ar N ps scope) (hd:A.handled=none) (e0:qy P w K mg base A outer s H) (hl:vs.length=ps.length) (r:Vals vs us)
  (x:InCallC s s.heap.objs.size (bindL (envOfC qual scope s.heap.objs.size f cd).kindOf (ps.zip us) λ_=>none) (cellsFrom (s.heap.objs.size+1) scope.names []) (bindC (envOfC qual scope s.heap.objs.size f cd).kindOf (ps.zip us) λ_=>none) s1) :
  Inv (i9 CX P w K mg base N qual scope f cd A outer s H E) [] (start N vs) H s1:=by
 have hpl:ps.length<=N.length:=by have:=IW List.length S.pre;rw[IF] at this;lia
 obtain⟨h1,tk,rfl,hk⟩:=x.done;have noA:∀b:Addr,b∉(i9 CX P w K mg base N qual scope f cd A outer s H E).ex:=λb z=>absurd (show b∈([]:List Addr) from z) (by simp)
 refine⟨⟨e0.mod,S.kind,rfl,rfl,Ib _,λy z c h1 h2=>?_,λy hy=>?_,λy c _ h=>?_,λ_=>hd,Around.frames_deeper e0.frames,.inr ⟨rfl,rfl⟩,λb z=>absurd z (noA b),e0.bs,e0.pd,λb _ _=>noA b,λb z=>absurd z (noA b),e0.eX,e0.u0,e0.tabs⟩,
  rfl,e0.bare,Un.kept hk,⟨_,x.toInCall.ns,λi y v h1 h2 h3=>?_⟩,λy c h=>⟨_,x.cell y c h⟩,e0.aI.fresh (Ib _),λy c h=>?_,λp hp=>absurd (show p∈([]:List (Addr×Obj)) from hp) (by simp),e0.aI.kept hk,?_⟩
 ·exact name_of_addr x.apart (PySem.mem_of_lookup h1) (PySem.mem_of_lookup h2)
 ·have hy:scope.names.lookup y=some .cell\/scope.names.lookup y=some .free:=hy;rcases hy with hy|hy
  ·exact mV hy
  ·exact absurd rfl (S.Dk _ (PySem.mem_of_lookup hy))
 ·exact JU (x.above y c (PySem.mem_of_lookup h))
 ·have hi:i<vs.length:=by
   unfold start at h2;by_cases hi:i<vs.length
   ·exact hi
   ·rw[IG (by simpa using hi)] at h2
    rw[MG] at h2
    split at h2<;>cases h2
  have ha:vs[i]?=some v:=by
   unfold start at h2;rw[IJ (by simpa using hi),Ie] at h2
   cases e:vs[i]? with
   |none=>rw[e] at h2;cases h2
   |some a=>rw[e] at h2;cases h2;rfl
  obtain⟨u,hu,rv⟩:=r.get ha;have hp:ps[i]?=some y:=by
   rw[<- S.pre,List.getElem?_take_of_lt (by lia)];exact h1
  have ndP:ps.Nodup:=by rw[<- S.pre];exact S.nd.sublist (List.take_sublist _ _)
  refine⟨u,rv,?_⟩;rcases S.par y (Jw hp) with k|k
  ·exact .inl ⟨k,kB ndP hp hu k⟩
  ·obtain⟨c,e⟩:=mV (n:=s.heap.objs.size+1) k;refine .inr ⟨.inl k,c,e,?_⟩;have q:=x.cell y c e;rw[lg ndP hp hu (by show scope.names.lookup y≠_;rw[k];decide)] at q
   exact q
 ·exact e0.aI.fresh (JU (x.above y c (PySem.mem_of_lookup h)))
 ·unfold start;show _=N.length;rw[HX,HY,Iu];lia
theorem uJ{k:Nat}{f:Addr}{name qual:Str}{params:Arguments}{dV kV doc pm cdv ct oc:Value}{an od:Option Addr}
  {osl:Array (Option Value)} {ps:List Str} {sp:Sp} (lk:K.lookup f=some ⟨oc,od,.func (W.fnOf name qual params body scope dV kV doc pm an cdv ct),osl⟩) (fM:W.codeIn K cdv qual=true) (S:ar N ps scope)
  (len:∀vs H Q E,sp vs H Q E->vs.length=ps.length)
  (hbody:∀(A:Around) (outer:List Env) (s:Shared) (H:Hp) (vs:List V) (Q:VK) (E:XK),bj k (A.deeper (envOfC qual scope s.heap.objs.size f cdv))->sp vs H Q E ->
   ∃t,pj (i9 CX P w K mg base N qual scope f cdv A outer s H E) body t/\t {nx:=λ_ H'=>Q .aJ H',rt:=Q} (start N vs) H) :
  d2 P w K mg base CX (k+1) f (W.fnOf name qual params body scope dV kV doc pm an cdv ct) ps sp:=by
 refine⟨len,λA outer s H args us vs Q E hr e0 hb r iM=>?_⟩;have hl:=len _ _ _ _ iM;have KX:K.In s.heap:=e0.mod.j_.keeps λb o e=>(e0.bs b o e).1;have lim:s.heap.NoLimit:=e0.mod.nolimit.keeps λb o e=>(e0.bs b o e).1;have hkind:∀y∈ps.zip us,scope.names.lookup y.1=some .local\/(scope.names.lookup y.1=some .cell/\((cellsFrom (s.heap.objs.size+1) scope.names []).lookup y.1).isSome=true):=λ⟨n,v⟩ hy=>by
  rcases S.par n (MK hy).1 with q|q
  ·exact .inl q
  ·exact .inr ⟨q,W.cellsFrom_some _ _ _ (.inl q)⟩
 refine codeAny_call_function hr.depth (KX _ _ lk) rfl S.co S.gen rfl (W.codeRec_of KX fM) (hb _ _ _ _ ?_);refine wpAny_newFunctionEnv_cells S.kind hkind λenv he s1 x=>?_;subst he;refine⟨lim.keeps x.toInCall.keep,codeAny_func ?_⟩;obtain⟨t,ht,hq⟩:=hbody A outer s H vs Q E (hr.deeper _) iM;have I:Inv (i9 CX P w K mg base N qual scope f cdv A outer s H E) [] (start N vs) H s1:=ug S hr.hd e0 hl r x;refine IZ (ht [] s1 (start N vs) H _ I hq) (λfl s' hs=>?_) λe s' hs=>hs;have fin:∀{σ':St} {H':Hp} {v:V} {u:Value},Inv (i9 CX P w K mg base N qual scope f cdv A outer s H E) [] σ' H' s'->RelV v u->Q v H'->CE outer P w H s Q u s':=
  λ{σ' H' v u} J rv q=>⟨v,H',J.os,J.bare,J.base,J.aI,rv,q⟩
 cases fl with
 |ret u =>
  obtain⟨v,σ',H',J,rv,q⟩:=hs;exact fin J rv q
 |next =>
  obtain⟨σ',H',J,q⟩:=hs;exact fin (v:=V.aJ) (u:=Value.none) J rfl q
 |brk =>
  obtain⟨_,_,_,q⟩:=hs;exact False.elim q
 |cont =>
  obtain⟨_,_,_,q⟩:=hs;exact False.elim q
section
variable {X:Cx} {x:Str} {p pos:Pos} {e:Expr} {es:List Expr} {t:TA} {id T:String} {r:List V->Hp->VK->Prop}
noncomputable def zE(r:List V->Hp->VK->Prop)(t:TA):TE:=λσ H Q=>t σ H λvs H1=>r vs H1 Q
theorem yh(hc:bc X (.builtin id) r)(hg:Gl X x)(hm:X.mg x=none)(hv:bootBuiltins x=some (.builtin id))(ha:PA X (e::es) t)(hn:autoParam (x≠"__name__") ℜ1)(hdb:autoParam ((x ==("__debug__":Str))=false) ℜ1)
  (he:autoParam (starEach (e::es) X.env=(false,eval e X.env)::starEach es X.env) ℜ0) (hpl:autoParam ((backTo pos (starEach es X.env)).any (·.1)=false) ℜ0):PE X (.Call (.Name x p) (e::es) [] pos) (zE r t):=by
 intro pins s σ H Q I h;refine JC (dO I hg hm hv ?_ hn hdb);exact PyProof.Rows.callWith_builtin1 (bD (ha pos pins s σ H _ I h) λus s1 ⟨vs,H1,I1,r1,q1⟩=>hc pins s1 σ H1 vs us Q I1 r1 q1) he hpl
theorem sO(hc:bc X (.type T) r)(hg:Gl X x)(hm:X.mg x=none)(hv:bootBuiltins x=some (.type T))(ha:PA X (e::es) t)(hn:autoParam (x≠"__name__") ℜ1)(hdb:autoParam ((x ==("__debug__":Str))=false) ℜ1)
  (he:autoParam (starEach (e::es) X.env=(false,eval e X.env)::starEach es X.env) ℜ0) (hpl:autoParam ((backTo pos (starEach es X.env)).any (·.1)=false) ℜ0):PE X (.Call (.Name x p) (e::es) [] pos) (zE r t):=by
 intro pins s σ H Q I h;refine JC (dO I hg hm hv ?_ hn hdb);exact Jo (bD (ha pos pins s σ H _ I h) λus s1 ⟨vs,H1,I1,r1,q1⟩=>hc pins s1 σ H1 vs us Q I1 r1 q1) he hpl
end
end L2
namespace HT
open PySem PyProof.Rows
section
variable {prog:Program} {w:World} {A:Around} {E:Value->Shared->Prop} {s:Shared}
theorem zg{t b:Addr}{vs ws:List Value}{Q:Value->Shared->Prop}(ht:IsTup s.heap t vs.toArray)(hb:IsTup s.heap b ws.toArray)(hv:vs≠[])
  (h1:ws=[]->Q (.ref t) s) (h2:ws≠[]->Q (.ref s.heap.objs.size) {s with heap:=s.heap.push {cls:=.type "tuple",data:=.seq (vs++ws).toArray}})
  (hsz:vs.length+ws.length<=sizeLine):wpAny (model prog w) A (binaryOp .Add (.ref t) (.ref b)) Q E s:=by
 obtain⟨⟨cls,dd,data,sl⟩,ho,hc,n,hd⟩:=id ht;obtain⟨⟨cls2,dd2,data2,sl2⟩,ho2,hc2,n2,hd2⟩:=id hb;simp only at hc hd hc2 hd2;subst hc hd hc2 hd2;have e:vs.toArray++ws.toArray=(vs++ws).toArray:=by simp
 by_cases hw:ws=[]
 ·exact concat_meets ⟨_,ho,rfl⟩ ⟨_,ho2,rfl⟩ noFill_tuple_add seq_tuple_add PySem.F.slot_tuple_add PySem.F.entry_tuple_add (PySem.F.args_tuple_add_2 _ _)
   (tuple_addW1 t b vs.toArray ws.toArray n n2 dd dd2 sl sl2 (by simpa using hv) (by simp[hw])) ⟨ho,ho2,h1 hw⟩
 ·refine concat_meets ⟨_,ho,rfl⟩ ⟨_,ho2,rfl⟩ noFill_tuple_add seq_tuple_add PySem.F.slot_tuple_add PySem.F.entry_tuple_add (PySem.F.args_tuple_add_2 _ _)
   (tuple_addW2 t b vs.toArray ws.toArray n n2 dd dd2 sl sl2 (by simpa using hv) (by simpa using hw) (by rw[List.size_toArray,List.size_toArray];exact hsz)) ⟨ho,ho2,?_⟩
  rw[e];exact h2 hw
noncomputable def bE(n d:Nat):Option Int->Nat
 |none=>d
 |some v=>if v<0 then (v+(n:Int)).toNat else min v.toNat n
theorem dh(n d:Nat):bE n d none=d:=rfl
theorem cK(n d k:Nat):bE n d (some (k:Int))=min k n:=by
 show (if (k:Int)<0 then ((k:Int)+(n:Int)).toNat else min (k:Int).toNat n)=min k n
 rw[if_neg (by lia),Int.toNat_natCast]
theorem pR(n d:Nat)(hd:d<=n)(o:Option Int):bE n d o<=n:=by
 cases o with
 |none=>exact hd
 |some v =>
  show (if v<0 then (v+(n:Int)).toNat else min v.toNat n)<=n
  by_cases hv:v<0
  ·rw[if_pos hv];lia
  ·rw[if_neg hv];exact Nat.min_le_right _ _
theorem rS(v:Int)(n d:Nat):(if v<0 then max (v+(n:Int)) 0 else min v (n:Int))=((bE n d (some v):Nat):Int):=by
 show (if v<0 then max (v+(n:Int)) 0 else min v (n:Int))=(((if v<0 then (v+(n:Int)).toNat else min v.toNat n):Nat):Int)
 by_cases hv:v<0
 ·simp only[if_pos hv];lia
 ·simp only[if_neg hv];lia
theorem qA(lo hi:Option Int)(n:Nat):Builtin.Slice.sliceAdjust lo hi 1 (n:Int)=(((bE n 0 lo:Nat):Int),((bE n n hi:Nat):Int)):=by
 have h1:¬ ((1:Int)<0):=by lia
 unfold Builtin.Slice.sliceAdjust;simp only[h1,if_false];refine Prod.ext ?_ ?_
 ·cases lo with
  |none=>rfl
  |some v=>exact rS v n 0
 ·cases hi with
  |none=>rfl
  |some v=>exact rS v n n
theorem pW(i j:Nat):Builtin.Slice.slicePlaces (i:Int) (j:Int) 1=j-i:=by
 unfold Builtin.Slice.slicePlaces;have h1:(1:Int) > 0:=by lia
 simp only[h1,if_true,Int.ediv_one]
 split<;>lia
theorem jX{v:Value}{o:Option Int}{Q:Option Int->Shared->Prop}(p:IsPart v o)(h:Q o s):wpAny (model prog w) A (Builtin.Slice.slicePartIndex v) Q E s:=by
 cases p with
 |none=>exact slicePart_none h
 |int i t=>exact slicePart_int h
theorem ik{sl:Addr}{vl vu:Value}{lo hi:Option Int}{n:Nat}{Q:Int×Int×Nat->Shared->Prop}(hs:s.heap.IsSliceOf sl vl vu .none)(pl:IsPart vl lo)(pu:IsPart vu hi)
  (h:Q (((bE n 0 lo:Nat):Int),1,bE n n hi-bE n 0 lo) s):wpAny (model prog w) A (Builtin.Slice.sliceApplied (.ref sl) (pure (n:Int))) Q E s:=by
 obtain⟨os,hos,hcs,mK⟩:=id hs;unfold Builtin.Slice.sliceApplied Builtin.Slice.sliceFields;refine wpAny_bind (wpAny_bind (wpAny_field hos mK (x:=vl) rfl (wpAny_bind (wpAny_field hos mK (x:=vu) rfl (wpAny_bind (wpAny_field hos mK (x:=.none) rfl (wpAny_pure ?_)))))));refine wpAny_bind (slicePart_none ?_);show wpAny _ _ (if ((1:Int) == 0)=true then _ else _) _ _ s
 rw[if_neg (by decide)]
 refine wpAny_bind (jX pl (wpAny_bind (jX pu (wpAny_bind (wpAny_pure ?_)))));show wpAny _ _ (match Builtin.Slice.sliceAdjust lo hi 1 (n:Int) with | (lo,hi)=>pure (lo,(1:Int),Builtin.Slice.slicePlaces lo hi 1)) _ _ s
 rw[qA lo hi n];show wpAny _ _ (pure (((bE n 0 lo:Nat):Int),(1:Int),Builtin.Slice.slicePlaces ((bE n 0 lo:Nat):Int) ((bE n n hi:Nat):Int) 1)) _ _ s;rw[pW];exact wpAny_pure h
theorem w_(xs:Array Value)(i k:Nat):((List.range k).filterMap λ(m:Nat)=>xs[((i:Int)+(m:Int)*1).toNat]?).toArray=((xs.toList.drop i).take k).toArray:=by
 have e:(λ(m:Nat)=>xs[((i:Int)+(m:Int)*1).toNat]?)=λm=>xs[i+m]?:=by
  funext m
  have:((i:Int)+(m:Int)*1).toNat=i+m:=by lia
  rw[this]
 rw[e];have:=pick_run xs i k;rw[List.filterMap_map] at this;have e2:((λx=>xs[x]?) ∘ λx=>i+x)=λm=>xs[i+m]?:=rfl;rw[e2] at this;rw[this]
theorem gY{t sl:Addr}{items:Array Value}{vl vu:Value}{lo hi:Option Int}{Q:Value->Shared->Prop}(ht:IsTup s.heap t items)(hs:s.heap.IsSliceOf sl vl vu .none)(pl:IsPart vl lo)(pu:IsPart vu hi)
  (hw:¬ (bE items.size 0 lo=0/\bE items.size items.size hi=items.size))
  (h:Q (.ref s.heap.objs.size) {s with heap:=s.heap.push {cls:=.type "tuple",data:=.seq ((items.toList.drop (bE items.size 0 lo)).take (bE items.size items.size hi-bE items.size 0 lo)).toArray}})
  (hsz:items.size<=sizeLine):wpAny (model prog w) A (getItem (.ref t) (.ref sl)) Q E s:=by
 have htake:sizeOk (.seq ((items.toList.drop (bE items.size 0 lo)).take (bE items.size items.size hi-bE items.size 0 lo)).toArray):=by
  show ((items.toList.drop (bE items.size 0 lo)).take (bE items.size items.size hi-bE items.size 0 lo)).toArray.size<=sizeLine;rw[List.size_toArray,List.length_take,List.length_drop,Array.length_toList];exact Nat.le_trans (Nat.min_le_right _ _) (Nat.le_trans (Nat.sub_le _ _) hsz)
 have hj:bE items.size items.size hi<=items.size:=pR _ _ (Nat.le_refl _) hi;obtain⟨os,hos,hcs,mK⟩:=id hs;have hTs:s.TypeIs (.ref sl) "slice":=⟨os,hos,hcs⟩;unfold getItem
 try with_reducible refine wpAny_holding ?_
 first|refine wpAny_bind (wpAny_pure ?_)|skip
 refine wpAny_bind (wpAny_sequenceKey ht.typeIs (by decide) ?_)
 refine wpAny_bind (wpAny_callSpecial?_slot (name:=Str.ofString "__getitem__") ht.typeIs PyProof.Rows.slot_tuple_getitem
  (wpAny_call_entry PyProof.Rows.slot_tuple_getitem ht.typeIs entry_tuple_getitem ?_ (args_tuple_getitem _ _)))
 show wpAny _ _ (Builtin.Tuple.tupleItemsOf (.ref t) >>= _) _ _ s;refine wpAny_bind (tupleItemsOf_ ht ?_);refine wpAny_bind (wpAny_typeOf hTs ?_);rw[if_pos (by decide)]
 refine wpAny_bind (ik hs pl pu ?_);have hno:¬ ((((bE items.size 0 lo:Nat):Int) == 0 && (1:Int) == 1 && (bE items.size items.size hi-bE items.size 0 lo) == items.size)=true):=by
  intro q;rw[Bool.and_eq_true,Bool.and_eq_true] at q;have q1:((bE items.size 0 lo:Nat):Int)=0:=eq_of_beq q.1.1;have q2:bE items.size items.size hi-bE items.size 0 lo=items.size:=eq_of_beq q.2;exact hw ⟨by lia,by lia⟩
 show wpAny _ _ (if (((bE items.size 0 lo:Nat):Int) == 0 && (1:Int) == 1 && (bE items.size items.size hi-bE items.size 0 lo) == items.size)=true then _ else _) _ _ s
 rw[if_neg hno,w_]
 first
  |exact wpAny_bind (m:=Builtin.Tuple.tupleExact _) (wpAny_newObj_type (wpAny_pure ⟨_,rfl,wpAny_pure h⟩) htake)
  |exact wpAny_bind (m:=Builtin.Tuple.tupleExact _) (wpAny_newObj_type (wpAny_bind (wpAny_pure (wpAny_pure ⟨_,rfl,wpAny_pure h⟩))) htake)
  |exact wpAny_bind (wpAny_bind (m:=Builtin.Tuple.tupleExact _) (wpAny_newObj_type (wpAny_pure (wpAny_pure ⟨_,rfl,wpAny_pure h⟩)) htake))
  |exact wpAny_bind (wpAny_bind (m:=Builtin.Tuple.tupleExact _) (wpAny_newObj_type (wpAny_pure ⟨_,rfl,wpAny_pure h⟩) htake))
end
end HT
namespace L2
open PySem PySem.Spec PyProof.Rows
variable{xs:List (List Key×Addr×Value)}{its its' us:List Value}{α:Type}{pins:List (Addr×Obj)}{σ:St}{H H':Hp}{x y:V}{u:Value}{o:Option V}{P:Program}{w:World}{kvs:List (List Key×V)}{a:Addr}{Q:Value->Shared->Prop}
abbrev TO:=St->Hp->(Option Int->Hp->Prop)->Prop
noncomputable def PO(X:Cx)(e:Option Expr)(t:TO):Prop:=
 ∀(pins:List (Addr×Obj)) (s:Shared) (σ:St) (H:Hp) (Q:Option Int->Hp->Prop),Inv X pins σ H s->t σ H Q ->
  wpAny (model X.prog X.w) X.A (evalPart e X.env) (λu s'=>∃o H',Inv X pins σ H' s'/\IsPart u o/\Q o H') X.xe s
noncomputable def gJ:TO:=λ_ H Q=>Q none H
noncomputable def oC(t:TE):TO:=λσ H Q=>t σ H λx H1=>∃i,x=.int i/\Q (some i) H1
theorem intsAre_of{ns:List Int}:∀{us:List Value},Vals (ns.map V.int) us->IntsAre us ns:=by
 induction ns with
 |nil=>intro us r;rw[KD] at r;cases r;exact .nil
 |cons n ns ih =>
  intro us r;rw[IA] at r
  cases r with
  |cons r1 r2 =>
   obtain⟨t,e⟩:=r1;subst e;exact .cons n t (ih r2)
section
variable {X:Cx} {e:Expr} {te:TE} {lo hi:Option Expr} {tl th:TO} {pos p2:Pos}
theorem yJ:PO X none gJ:=by
 intro pins s σ H Q I h;rw[evalPart_none];exact Ii ⟨none,H,I,.none,h⟩
theorem zI(h:PE X e te):PO X (some e) (oC te):=by
 intro pins s σ H Q I hw;rw[evalPart_some];refine bD (h pins s σ H _ I hw) λu s1 hq50=>?_;obtain⟨x,H1,I1,r1,q1⟩:=hq50;obtain⟨i,rfl,q⟩:=q1;obtain⟨t,rfl⟩:=r1;exact⟨some i,H1,I1,.int i t,q⟩
noncomputable def Bp(X:Cx)(r:V->Option Int->Option Int->Hp->VK->Prop):Prop:=
 ∀(pins:List (Addr×Obj)) (s:Shared) (σ:St) (H:Hp) (x:V) (v vl vu:Value) (lo hi:Option Int) (sl:Addr) (Q:VK),Inv X pins σ H s->RelV x v->s.heap.IsSliceOf sl vl vu .none->IsPart vl lo->IsPart vu hi->r x lo hi H Q ->
  ∃T id,typeLookup (.type T) "__getitem__"=pure (some (.builtin id))/\s.TypeIs v T/\wpAny (model X.prog X.w) X.A (getItem v (.ref sl)) (EP X pins σ Q) X.xe s
noncomputable def Fz(r:V->Option Int->Option Int->Hp->VK->Prop)(te:TE)(tl th:TO):TE:=λσ H Q=>te σ H λx H1=>tl σ H1 λl H2=>th σ H2 λu H3=>r x l u H3 Q
theorem wL{r:V->Option Int->Option Int->Hp->VK->Prop}(hr:Bp X r)(he:PE X e te)(hl:PO X lo tl)(hu:PO X hi th):PE X (.Subscript e (.Slice lo hi none p2) pos) (Fz r te tl th):=by
 intro pins s σ H Q I h;refine Subscript_ (bD (he pins s σ H _ I h) λv s1 hq51=>?_);obtain⟨x,H1,I1,r1,q1⟩:=hq51;refine wpAny_Slice (bD (hl pins s1 σ H1 _ I1 q1) λvl s2 ⟨l,H2,I2,pl,q2⟩=>bD (hu pins s2 σ H2 _ I2 q2) λvu s3 hq52=>?_);obtain⟨u,H3,I3,pu,q3⟩:=hq52;rw[evalPart_none];refine Ii ?_;have I4:Inv X pins σ H3 {s3 with heap:=s3.heap.push {cls:=.type "slice",data:=.fields #[vl,vu,.none]}}:=I3.kept (t':=s3.toks) λb ob q=>HW _ q
 obtain⟨T,id,hT,ht,hg⟩:=hr pins {s3 with heap:=s3.heap.push {cls:=.type "slice",data:=.fields #[vl,vu,.none]}} σ H3 x v vl vu l u s3.heap.objs.size Q I4 r1 (Heap.IsSliceOf.new ..) pl pu q3
 show wpAny (model X.prog X.w) X.A (subscriptTail e (.Slice lo hi none p2) v (.ref s3.heap.objs.size)) (EP X pins σ Q) X.xe {s3 with heap:=s3.heap.push {cls:=.type "slice",data:=.fields #[vl,vu,.none]}}
 exact tail_any (ops:=[.ref s3.heap.objs.size,v]) ht hT hg (by with_unfolding_all rfl)
noncomputable def eE(xs:List V)(lo hi:Option Int):List V:=(xs.drop (HT.bE xs.length 0 lo)).take (HT.bE xs.length xs.length hi-HT.bE xs.length 0 lo)
theorem iG(xs:List V)(lo hi:Option Int):(eE xs lo hi).length<=xs.length:=by
 unfold eE;rw[IF,IQ];exact Ia (Nat.min_le_right _ _) (Nat.sub_le _ _)
noncomputable def xp(K:W.Frag):V->Option Int->Option Int->Hp->VK->Prop:=λx lo hi H Q=>∃a xs,x=.ref a/\bq K H a xs /\
 ¬ (HT.bE xs.length 0 lo=0/\HT.bE xs.length xs.length hi=xs.length)/\∀p,H p=none->Q (.ref p) (upd H p (.tup (eE xs lo hi)))
theorem wA:Bp X (xp X.K):=by
 intro pins s σ H x v vl vu lo hi sl Q I rx hs pl pu h;obtain⟨a,xs,rfl,hx,hw,q⟩:=h;cases rx;obtain⟨its,r,ht,hz⟩:=I.tuple hx;have hlen:its.toArray.size=xs.length:=by rw[Im];exact r.length.symm
 refine⟨"tuple",_,PyProof.Rows.slot_tuple_getitem.lookup,ht.typeIs,?_⟩;refine HT.gY ht hs pl pu (by rw[hlen];exact hw) ?_ (by rw[hlen];exact hz)
 rw[hlen];refine⟨.ref s.heap.objs.size,_,I.laid (t':=s.toks) (o:=.tup (eE xs lo hi)) (λb ob q=>HW _ q) (Ib _) ?_,rfl,q _ (I.aI.fresh (Ib _))⟩;exact⟨Ia (iG xs lo hi) hz,_,(r.drop (HT.bE xs.length 0 lo)).take (HT.bE xs.length xs.length hi-HT.bE xs.length 0 lo),dn.new _ _⟩
noncomputable def FH(K:W.Frag):R2:=λx y H Q=>∃a b xs ys,x=.ref a/\y=.ref b/\bq K H a xs/\bq K H b ys/\xs≠[]/\xs.length+ys.length<=sizeLine /\
 (ys=[]->Q (.ref a) H)/\(ys≠[]->∀p,H p=none->Q (.ref p) (upd H p (.tup (xs++ys))))
theorem Vals.lX{xs:List V}(r:Vals xs us):us=[] ↔ xs=[]:=by
 cases r with
 |nil=>simp
 |cons _ _=>simp
theorem y_:cR X (binaryOp .Add) (FH X.K):=by
 intro pins s σ H x y v u Q I rx ry h;obtain⟨a,b,xs,ys,rfl,rfl,ha,hb,hx,hz,q1,q2⟩:=h;cases rx;cases ry;obtain⟨its,r1,p1,_⟩:=I.tuple ha;obtain⟨its2,r2,p2,_⟩:=I.tuple hb;refine HT.zg p1 p2 (λz=>hx (r1.lX.mp z)) (λz=>⟨.ref a,H,I,rfl,q1 (r2.lX.mp z)⟩) (λz=>?_) (by rw[<- r1.length,<- r2.length];exact hz)
 refine⟨.ref s.heap.objs.size,_,I.laid (t':=s.toks) (o:=.tup (xs++ys)) (λb ob q=>HW _ q) (Ib _) ?_,rfl,q2 (λw=>z (r2.lX.mpr w)) _ (I.aI.fresh (Ib _))⟩;exact⟨by rw[HX];exact hz,_,r1.append r2,dn.new _ _⟩
end
noncomputable def ke(n:Nat)(i:Int):Option Nat:=if 0<=i then (if i<n then some i.toNat else none) else if -(n:Int)<=i then some (i+n).toNat else none
noncomputable def cq(xs:List α)(i:Int):Option α:=(ke xs.length i).bind λj=>xs[j]?
theorem r9{n:Nat}{i:Int}{j:Nat}(h:ke n i=some j):seqIndex? i n=some j/\j<n/\-(n:Int)<=i/\i<n:=by
 unfold ke at h;by_cases h0:0<=i
 ·rw[Ig h0] at h;by_cases h1:i<n
  ·rw[Ig h1] at h;have e:i.toNat=j:=Option.some.inj h;exact⟨by rw[seqIndex_of h0 h1,e],by lia,by lia,h1⟩
  ·rw[H_ h1] at h;cases h
 ·rw[H_ h0] at h;by_cases h1:-(n:Int)<=i
  ·rw[Ig h1] at h;have e:(i+n).toNat=j:=Option.some.inj h;exact⟨by rw[Nv (by lia) h1,e],by lia,h1,by lia⟩
  ·rw[H_ h1] at h;cases h
theorem lP{xs:List α}{i:Int}{v:α}(h:cq xs i=some v):∃j,seqIndex? i xs.length=some j/\xs[j]?=some v/\j<xs.length/\-(xs.length:Int)<=i/\i<xs.length:=by
 unfold cq at h
 cases e:ke xs.length i with
 |none=>rw[e] at h;cases h
 |some j =>
  rw[e] at h;obtain⟨h1,h2,h3,h4⟩:=r9 e;exact⟨j,h1,h,h2,h3,h4⟩
theorem bI{xs:List α}{j:Nat}{v:α}(h:xs[j]?=some v):cq xs (j:Int)=some v:=by
 have hj:j<xs.length:=(HZ.mp h).1;have e:ke xs.length (j:Int)=some j:=by
  unfold ke;rw[Ig (by lia),Ig (by lia)];simp
 unfold cq;rw[e];exact h
theorem gZ(xs:List α)(v:α):cq (xs++[v]) (-1)=some v:=by
 have hl:(xs++[v]).length=xs.length+1:=by simp
 have e:ke (xs++[v]).length (-1)=some xs.length:=by
  unfold ke;rw[hl,H_ (by decide),Ig (by lia)]
  congr 1;lia
 unfold cq;rw[e];show (xs++[v])[xs.length]?=some v;simp
noncomputable def rR(b:Expr):Prop:=∀o i,subscripted b false o i=operate [o,i] (getItem o i)
noncomputable def uf(X:Cx)(r:R2):Prop:=
 ∀(value slice:Expr) (pins:List (Addr×Obj)) (s:Shared) (σ:St) (H:Hp) (x y:V) (v u:Value) (Q:VK),Inv X pins σ H s->RelV x v->RelV y u->r x y H Q ->
  subscripted slice false v u=operate [v,u] (getItem v u)->wpAny (model X.prog X.w) X.A (subscriptTail value slice v u) (EP X pins σ Q) X.xe s
noncomputable def uI(X:Cx)(id:String)(r:V->List V->Hp->VK->Prop):Prop:=
 ∀(pins:List (Addr×Obj)) (s:Shared) (σ:St) (H:Hp) (x:V) (xs:List V) (v:Value) (us:List Value) (Q:VK),Inv X pins σ H s->RelV x v->Vals xs us->r x xs H Q ->
  wpAny (model X.prog X.w) X.A (call (.builtin id) (v::us)) (EP X pins σ Q) X.xe s
section
variable {X:Cx} {a b:Expr} {ta tb:TE} {pos:Pos}
theorem uf.or{r r':R2}(h:uf X r)(h':uf X r'):uf X (λx y H Q=>r x y H Q\/r' x y H Q):=by
 intro value slice pins s σ H x y v u Q I rx ry q hs;rcases q with q|q
 ·exact h value slice pins s σ H x y v u Q I rx ry q hs
 ·exact h' value slice pins s σ H x y v u Q I rx ry q hs
theorem Bl{r:R2}(hr:uf X r)(ha:PE X a ta)(hb:PE X b tb)(hs:rR b):PE X (.Subscript a b pos) (wa r ta tb):=by
 intro pins s σ H Q I h;exact Subscript_ (Ce ha hb I h λv u s2 x y H2 I2 rx ry q=>hr a b pins s2 σ H2 x y v u Q I2 rx ry q (hs _ _))
noncomputable def Er(K:W.Frag):R2:=λx y H Q=>∃p xs i v,x=.ref p/\y=.int i/\bz K H p xs/\cq xs i=some v/\Q v H
noncomputable def BN(K:W.Frag):R2:=λx y H Q=>∃p xs i v,x=.ref p/\y=.int i/\bq K H p xs/\cq xs i=some v/\Q v H
noncomputable def Ee:R2:=λx y H Q=>∃z i c,x=.str z/\y=.int i/\z.length<=sizeLine/\cq z.cps.toList i=some c/\Q (.str ⟨#[c]⟩) H
theorem yU:uf X (Er X.K):=by
 intro value slice pins s σ H x y v u Q I rx ry h hs;obtain⟨p,xs,i,z,rfl,rfl,hq,he,q⟩:=h;cases rx;obtain⟨t,rfl⟩:=ry;obtain⟨its,r,pl,hz⟩:=I.list hq;obtain⟨j,h1,h2,h3,h4,h5⟩:=lP he;obtain⟨w,ew,rw'⟩:=r.get h2;have hl:=r.length;have hn:=ia;have fin:EP X pins σ Q w s:=⟨z,H,I,rw',q⟩;by_cases h0:0<=i
 ·have hj:i.toNat=j:=by
   rw[seqIndex_of h0 h5] at h1;exact Option.some.inj h1
  exact item_listR pl.isList h0 (by lia) (by rw[hj];simpa using ew) fin hs
 ·have hj:(i+(its.toArray.size:Int)).toNat=j:=by
   rw[Nv (by lia) h4] at h1
   rw[Im,<- hl];exact Option.some.inj h1
  exact subscriptTail_builtinR (x:=w) pl.isList.typeIs slot_list_getitem.lookup
   (wpAny_getItem_list_neg (Q:=λr s'=>r=w/\EP X pins σ Q r s') pl.isList (by lia) (by rw[Im]<;>lia) (by lia) (by rw[hj];simpa using ew) ⟨rfl,fin⟩) hs
theorem pG:uf X (BN X.K):=by
 intro value slice pins s σ H x y v u Q I rx ry h hs;obtain⟨p,xs,i,z,rfl,rfl,hq,he,q⟩:=h;cases rx;obtain⟨t,rfl⟩:=ry;obtain⟨its,r,pl,hz⟩:=I.tuple hq;obtain⟨j,h1,h2,h3,h4,h5⟩:=lP he;obtain⟨w,ew,rw'⟩:=r.get h2;have hl:=r.length;have hn:=ia;have fin:EP X pins σ Q w s:=⟨z,H,I,rw',q⟩;exact subscriptTail_builtinR (x:=w) pl.typeIs slot_tuple_getitem.lookup
  (getItem_tuple (j:=j) (Q:=λr s'=>r=w/\EP X pins σ Q r s') pl (by lia) (by lia) (by rw[Im,<- hl];exact h1) (by simpa using ew) ⟨rfl,fin⟩) hs
theorem Ct:uf X Ee:=by
 intro value slice pins s σ H x y v u Q I rx ry h hs;obtain⟨z,i,c,rfl,rfl,hz,he,q⟩:=h;obtain⟨t,rfl⟩:=rx;obtain⟨t',rfl⟩:=ry;obtain⟨j,h1,h2,h3,h4,h5⟩:=lP he;have hl:z.cps.toList.length=z.length:=by simp[Str.length]
 rw[hl] at h1 h4 h5;have hn:=ia;exact tail_any (Nn s z t) slot_str_getitem.lookup (getItem_str (c:=c) (by
  have e1:decide (i < -(2^63:Int))=false:=IE (by lia)
  have e2:decide (i >= 2^63)=false:=IE (by lia)
  rw[e1,e2,Bool.or_false]) (by rw[h1];simpa using h2) ⟨.str ⟨#[c]⟩,H,I.tok _,⟨_,rfl⟩,q⟩) hs
noncomputable def HK(K:W.Frag):R2:=λx y H Q=>Er K x y H Q\/BN K x y H Q\/Ee x y H Q
theorem C9:uf X (HK X.K):=yU.or (pG.or Ct)
theorem qu(its:List Value)(n j:Nat)(u:Value):Obj.mapSeq (·.setIfInBounds j u) {cls:=.type "list",data:=.seq its.toArray n}={cls:=.type "list",data:=.seq (its.set j u).toArray n}:=by
 simp[Obj.mapSeq]
theorem Inv.lst{s:Shared}{p:Addr}{xs:List V}(I:Inv X pins σ H s)(h:H p=some (.lst xs)):
  ∃(its:List Value) (n:Nat),Vals xs its/\s.heap.get? p=some {cls:=.type "list",data:=.seq its.toArray n}/\xs.length<=sizeLine:=by
 obtain⟨z,its,n,r,e⟩:=I.aI p _ h;exact⟨its,n,r,e,z⟩
theorem Inv.BC{s:Shared}{p:Addr}{xs ys:List V}{n n':Nat}{f:Obj->Obj}(I:Inv X pins σ H s)(h:H p=some (.lst xs))
  (ho:s.heap.get? p=some {cls:=.type "list",data:=.seq its.toArray n}) (hf:f {cls:=.type "list",data:=.seq its.toArray n}={cls:=.type "list",data:=.seq its'.toArray n'}) (r:Vals ys its') (hz:ys.length<=sizeLine) (t:Nat) :
  Inv X pins σ (upd H p (.lst ys)) {s with heap:=s.heap.update p f,toks:=t}:=by
 have e:(s.heap.update p f).get? p=some {cls:=.type "list",data:=.seq its'.toArray n'}:=by
  rw[JA f ho (by rw[hf]<;>rfl),hf]
 refine I.write (x:=p) (e:=p) (by rw[h];trivial) (.inl rfl) (λb u hb q=>(K8 _ _ (I_ hb)).trans q) ⟨_,e⟩ ?_
 exact⟨hz,its',n',r,e⟩
noncomputable def Ei:V->V->V->Hp->(Hp->Prop)->Prop:=λo i v H Q=>∃p xs k j,o=.ref p/\i=.int k/\H p=some (.lst xs)/\ke xs.length k=some j/\Q (upd H p (.lst (xs.set j v)))
theorem set_list:Cb X Ei:=by
 intro pins s σ H o i v ov iv u Q I ro ri rv h;obtain⟨p,xs,k,j,rfl,rfl,hp,hj,q⟩:=h;cases ro;obtain⟨t,rfl⟩:=ri;obtain⟨its,n,r,ho,hz⟩:=I.lst hp;obtain⟨h1,h2,h3,h4⟩:=r9 hj;have hl:=r.length;have hn:=ia;have I':Inv X pins σ (upd H p (.lst (xs.set j v))) {s with heap:=s.heap.update p (Obj.mapSeq (·.setIfInBounds j u))}:=
  I.BC hp ho (qu its n j u) (r.set rv j) (by rw[K0];exact hz) s.toks
 by_cases h0:0<=k
 ·have hk:k.toNat=j:=by
   rw[seqIndex_of h0 h4] at h1;exact Option.some.inj h1
  exact W.ki_setAt ho h0 (by lia) (by rw[Im,<- hl];exact h4) (by rw[hk];exact⟨_,I',q⟩)
 ·have hk:(k+(its.toArray.size:Int)).toNat=j:=by
   rw[Nv (by lia) h3] at h1
   rw[Im,<- hl];exact Option.some.inj h1
  exact W.ki_setBack ho (by lia) (by rw[Im,<- hl];exact h3) (by lia) (by rw[hk];exact⟨_,I',q⟩)
theorem lY(lo hi:Option Int)(n:Nat):(sliceBounds lo hi none n).1=((HT.bE n 0 lo:Nat):Int)/\(sliceBounds lo hi none n).2.1=((HT.bE n n hi:Nat):Int)/\(sliceBounds lo hi none n).2.2=1:=by
 refine⟨?_,?_,rfl⟩
 ·cases lo with
  |none=>simp[sliceBounds,HT.bE]
  |some i =>
   simp only[sliceBounds,HT.bE,Option.getD_none,show (1:Int) > 0 by decide,KG]
   by_cases h:i<0
   ·simp only[h,KG]<;>lia
   ·simp only[h,Km]<;>lia
 ·cases hi with
  |none=>simp[sliceBounds,HT.bE]
  |some i =>
   simp only[sliceBounds,HT.bE,Option.getD_none,show (1:Int) > 0 by decide,KG]
   by_cases h:i<0
   ·simp only[h,KG]<;>lia
   ·simp only[h,Km]<;>lia
theorem kl(its:List Value)(lo hi:Option Int):slicePick its.toArray lo hi none=((its.drop (HT.bE its.length 0 lo)).take (HT.bE its.length its.length hi-HT.bE its.length 0 lo)).toArray:=by
 obtain⟨h1,h2,h3⟩:=lY lo hi its.toArray.size;unfold slicePick;rw[h1,h2,h3];simp only[sliceRange_one,pick_run,Im]<;>rfl
noncomputable def FN(K:W.Frag):V->Option Int->Option Int->Hp->VK->Prop:=λx lo hi H Q=>∃a xs,x=.ref a/\bz K H a xs/\∀p,H p=none->Q (.ref p) (upd H p (.lst (eE xs lo hi)))
theorem rG:Bp X (FN X.K):=by
 intro pins s σ H x v vl vu lo hi sl Q I rx hs pl pu h;obtain⟨a,xs,rfl,hx,q⟩:=h;cases rx;obtain⟨its,r,ht,hz⟩:=I.list hx;have hlen:=r.length;refine⟨"list",_,slot_list_getitem.lookup,ht.isList.typeIs,?_⟩;refine wpAny_getItem_list_slice ht.isList hs pl pu .none (by simp) ?_ (by rw[Im]<;>lia)
 rw[kl,<- hlen];refine⟨.ref s.heap.objs.size,_,I.laid (t':=s.toks) (o:=.lst (eE xs lo hi)) (λb ob q=>HW _ q) (Ib _) ?_,rfl,q _ (I.aI.fresh (Ib _))⟩;exact⟨Ia (iG xs lo hi) hz,_,0,(r.drop (HT.bE xs.length 0 lo)).take (HT.bE xs.length xs.length hi-HT.bE xs.length 0 lo),Ip _ rfl⟩
noncomputable def cA:V->Bool
 |.aJ=>true
 |.bl _=>true
 |.int _=>true
 |.str _=>true
 |_=>false
noncomputable def Bb:V->V->Bool
 |.aJ,.aJ=>true
 |.bl a,.bl b=>a == b
 |.bl a,.int b=>(if a then 1 else 0) == b
 |.int a,.bl b=>a ==(if b then 1 else 0)
 |.int a,.int b=>a == b
 |.str a,.str b=>a == b
 |_,_=>false
theorem C5{A:Around}{s:Shared}{v:Value}(ry:RelV y u)(rx:RelV x v)(fy:cA y=true)(fx:cA x=true):SeqAt.EqAt A s u v (Bb y x):=by
 cases y with
 |aJ =>
  cases ry
  cases x with
  |aJ=>cases rx;exact SeqAt.EqAt.same _
  |bl b=>cases rx;exact SeqAt.EqAt.none_bool b
  |int b=>obtain⟨t,rfl⟩:=rx;exact SeqAt.EqAt.none_int b t
  |str b=>obtain⟨t,rfl⟩:=rx;exact SeqAt.EqAt.none_str b t
  |_=>exact absurd (show false=true from fx) Il
 |bl a =>
  cases ry
  cases x with
  |aJ=>cases rx;exact SeqAt.EqAt.bool_none a
  |bl b=>cases rx;exact SeqAt.EqAt.bool_bool a b
  |int b=>obtain⟨t,rfl⟩:=rx;exact SeqAt.EqAt.bool_int a b t
  |str b=>obtain⟨t,rfl⟩:=rx;exact SeqAt.EqAt.bool_str a b t
  |_=>exact absurd (show false=true from fx) Il
 |int a =>
  obtain⟨t',rfl⟩:=ry
  cases x with
  |aJ=>cases rx;exact SeqAt.EqAt.int_none a t'
  |bl b=>cases rx;exact SeqAt.EqAt.int_bool a t' b
  |int b=>obtain⟨t,rfl⟩:=rx;exact SeqAt.EqAt.int_int a t' b t
  |str b=>obtain⟨t,rfl⟩:=rx;exact SeqAt.EqAt.int_str a t' b t
  |_=>exact absurd (show false=true from fx) Il
 |str a =>
  obtain⟨t',rfl⟩:=ry
  cases x with
  |aJ=>cases rx;exact SeqAt.EqAt.str_none a t'
  |bl b=>cases rx;exact SeqAt.EqAt.str_bool a t' b
  |int b=>obtain⟨t,rfl⟩:=rx;exact SeqAt.EqAt.str_int a t' b t
  |str b=>obtain⟨t,rfl⟩:=rx;exact SeqAt.EqAt.str_str a t' b t
  |_=>exact absurd (show false=true from fx) Il
 |_=>exact absurd (show false=true from fy) Il
noncomputable def pP(x:V)(u:Value):Bool:=match u with
 |.none=>Bb .aJ x
 |.bool b=>Bb (.bl b) x
 |.int i _=>Bb (.int i) x
 |.str z _=>Bb (.str z) x
 |_=>false
theorem xx(r:RelV y u)(f:cA y=true):pP x u=Bb y x:=by
 cases y with
 |aJ=>cases r;rfl
 |bl b=>cases r;rfl
 |int i=>obtain⟨t,rfl⟩:=r;rfl
 |str z=>obtain⟨t,rfl⟩:=r;rfl
 |_=>exact absurd (show false=true from f) Il
theorem g_:∀{xs:List V} {us:List Value},Vals xs us->xs.all cA=true->us.any (pP x)=xs.any λy=>Bb y x
 |_,_,.nil,_=>rfl
 |y::xs,u::us,.cons r t,f=>by
  rw[JO,Jq] at f;rw[Lb,Lb,xx r f.1,g_ t f.2]
theorem fq{A:Around}{s:Shared}{v:Value}(rx:RelV x v)(fx:cA x=true):∀{xs:List V} {us:List Value},Vals xs us->xs.all cA=true->∀u∈us,SeqAt.EqAt A s u v (pP x u)
 |_,_,.nil,_=>λu hu=>by cases hu
 |y::xs,u::us,.cons r t,f=>λu' hu=>by
  rw[JO,Jq] at f;rcases Ih.mp hu with rfl|hu
  ·rw[xx r f.1];exact C5 r rx f.1 fx
  ·exact fq rx fx t f.2 u' hu
noncomputable def iU(x:V)(xs:List V):Bool:=xs.any λy=>Bb y x
noncomputable def FU(K:W.Frag)(neg:Bool):R2:=λx y H Q=>∃p xs,y=.ref p/\(bz K H p xs\/bq K H p xs)/\cA x=true/\xs.all cA=true/\Q (.bl (if neg then !iU x xs else iU x xs)) H
theorem kJ:cR X (compareOp .In) (FU X.K false):=by
 intro pins s σ H x y v u Q I rx ry h;obtain⟨p,xs,rfl,hq,fx,fs,q⟩:=h;cases ry;rcases hq with hq|hq
 ·obtain⟨its,r,pl,hz⟩:=I.list hq;refine SeqAt.in_listAt (pP x) pl.isList (λw hw=>fq rx fx r fs w (by simpa using hw)) ⟨.bl _,H,I,rfl,?_⟩
  rw[show its.toArray.any (pP x)=its.any (pP x) by simp,g_ r fs]
  exact q
 ·obtain⟨its,r,pl,hz⟩:=I.tuple hq;refine SeqAt.in_tupleAt (pP x) pl (λw hw=>fq rx fx r fs w (by simpa using hw)) ⟨.bl _,H,I,rfl,?_⟩
  rw[show its.toArray.any (pP x)=its.any (pP x) by simp,g_ r fs]
  exact q
theorem lL:cR X (compareOp .NotIn) (FU X.K true):=by
 intro pins s σ H x y v u Q I rx ry h;obtain⟨p,xs,rfl,hq,fx,fs,q⟩:=h;cases ry;rcases hq with hq|hq
 ·obtain⟨its,r,pl,hz⟩:=I.list hq;refine SeqAt.notIn_listAt (pP x) pl.isList (λw hw=>fq rx fx r fs w (by simpa using hw)) ⟨.bl _,H,I,rfl,?_⟩
  rw[show its.toArray.any (pP x)=its.any (pP x) by simp,g_ r fs]
  exact q
 ·obtain⟨its,r,pl,hz⟩:=I.tuple hq;refine SeqAt.notIn_tupleAt (pP x) pl (λw hw=>fq rx fx r fs w (by simpa using hw)) ⟨.bl _,H,I,rfl,?_⟩
  rw[show its.toArray.any (pP x)=its.any (pP x) by simp,g_ r fs]
  exact q
theorem lU:cR X (compareOp .NotIn) (λx y H Q=>∃i j,x=.str i/\y=.str j/\Q (.bl (!(!(Builtin.Str.occurrences j i 0 j.length 1).isEmpty))) H):=by
 intro pins s σ H x y v u Q I rx ry h;obtain⟨i,j,rfl,rfl,q⟩:=h;obtain⟨t,rfl⟩:=rx;obtain⟨t',rfl⟩:=ry;exact notIn_str ⟨.bl _,H,I,rfl,q⟩
theorem bc.or{f:Value}{r r':List V->Hp->VK->Prop}(h:bc X f r)(h':bc X f r'):bc X f (λxs H Q=>r xs H Q\/r' xs H Q):=by
 intro pins s σ H xs us Q I rs q;rcases q with q|q
 ·exact h pins s σ H xs us Q I rs q
 ·exact h' pins s σ H xs us Q I rs q
theorem dN:bc X (.type "tuple") (λxs H Q=>∃p ys,xs=[.ref p]/\((bz X.K H p ys/\∀l,H l=none->Q (.ref l) (upd H l (.tup ys)))\/(bq X.K H p ys/\Q (.ref p) H))):=by
 intro pins s σ H xs us Q I r h;obtain⟨p,ys,rfl,h⟩:=h;obtain⟨u,rfl,rx⟩:=vals1 r;cases rx;rcases h with ⟨hq,q⟩|⟨hq,q⟩
 ·obtain⟨its,r',pl,hz⟩:=I.list hq;have hlen:=r'.length;refine call_tuple_list pl.isList (λh' kp=>?_) (by simp only[Im]<;>lia)
  have I1:Inv X pins σ H {s with heap:=h'}:=I.kept (t':=s.toks) kp
  have I2:Inv X pins σ (upd H h'.objs.size (.tup ys)) {s with heap:=h'.push {cls:=.type "tuple",data:=.seq its.toArray}}:=
   I1.laid (t':=s.toks) (λb o e=>HW _ e) (Ib _) (show aM X.prog X.w _ _ _ (.tup ys) from⟨hz,its,r',dn.new _ _⟩)
  exact⟨.ref h'.objs.size,_,I2,rfl,q _ (I1.aI.fresh (Ib _))⟩
 ·obtain⟨its,r',pl,hz⟩:=I.tuple hq;exact call_tuple_same pl ⟨.ref p,H,I,rfl,q⟩
noncomputable def D_(K:W.Frag)(T:String)(x:V)(H:Hp):Prop:=match x with
 |.str _=>T="str"
 |.int _=>T="int"
 |.ref p=>(T="list"/\∃xs,bz K H p xs)\/(T="tuple"/\∃o,K.lookup p=some o/\o.cls=.type "tuple"/\o.dict=none) \/
   (T="dict"/\((∃kvs,H p=some (.dK kvs))\/∃kvs,H p=some (.dT kvs)))\/(T="set"/\∃S n,H p=some (.set S n))
 |_=>False
theorem vy{s:Shared}{T:String}{v:Value}(I:Inv X pins σ H s)(r:RelV x v)(ty:D_ X.K T x H):
  s.TypeIs v T/\∀a,v=.ref a->∃ob,s.heap.get? a=some ob/\ob.dict=none:=by
 cases x with
 |str z =>
  obtain⟨t,rfl⟩:=r
  cases (show T="str" from ty)
  exact⟨Nn s z t,λ_ e=>nomatch e⟩
 |int i =>
  obtain⟨t,rfl⟩:=r
  cases (show T="int" from ty)
  exact⟨Mr s i t,λ_ e=>nomatch e⟩
 |ref p =>
  cases r;rcases ty with ⟨rfl,xs,hq⟩|⟨rfl,o,hk,hc,hd⟩|⟨rfl,hk⟩|⟨rfl,S,n,hk⟩
  ·obtain⟨its,_,pl,_⟩:=I.list hq;refine⟨pl.isList.typeIs,λa e=>?_⟩;cases e;obtain⟨o,n,e,c,hd,_⟩:=pl;exact⟨o,e,hd⟩
  ·refine⟨⟨o,I.fo p o hk,hc⟩,λa e=>?_⟩;cases e;exact⟨o,I.fo _ o hk,hd⟩
  ·have z:∃o,s.heap.get? p=some o/\o.ExactDict:=by
    rcases hk with ⟨kvs,hk⟩|⟨kvs,hk⟩
    ·obtain⟨_,_,_,_,o,_,_,e,ex,_⟩:=I.aI p _ hk;exact⟨o,e,ex⟩
    ·obtain⟨_,_,_,_,o,_,_,e,ex,_⟩:=I.aI p _ hk;exact⟨o,e,ex⟩
   obtain⟨o,e,ex⟩:=z;refine⟨⟨o,e,ex.1⟩,λa e2=>?_⟩;cases e2;exact⟨o,e,ex.2.1⟩
  ·obtain⟨o,_,_,_,e,ex,_⟩:=I.aI p _ hk;refine⟨⟨o,e,ex.1⟩,λa e2=>?_⟩;cases e2;exact⟨o,e,ex.2.1⟩
 |_=>exact False.elim ty
noncomputable def vJ(K:W.Frag)(T:String)(r:V->List V->Hp->VK->Prop)(to:TE):TE:=λσ H Q=>to σ H λx H1=>D_ K T x H1/\r x [] H1 Q
noncomputable def Bs(K:W.Frag)(T:String)(r:V->List V->Hp->VK->Prop)(to:TE)(t:TA):TE:=λσ H Q=>to σ H λx H1=>D_ K T x H1/\t σ H1 λxs H2=>r x xs H2 Q
variable {o e:Expr} {es:List Expr} {to:TE} {t:TA} {name:Str} {apos cpos:Pos} {T id:String} {r:V->List V->Hp->VK->Prop}
theorem CF(pa:PlainAttrs T)(slot:Slot T name id)(hty:typeOf (.builtin id)=pure (.type "method_descriptor"))(hm:uI X id r)(ho:PE X o to)
  (hbase:autoParam (attributeBase o name X.env (eval o X.env)=eval o X.env) ℜ0) (hline:autoParam ((apos.endLine == cpos.line)=true) ℜ0):PE X (.Call (.Attribute o name apos) [] [] cpos) (vJ X.K T r to):=by
 intro pins s σ H Q I h;refine wpAny_Call_method0_late hbase hline (bD (ho pins s σ H _ I h) λv s1 hq53=>?_);obtain⟨x,H1,I1,r1,ty,q1⟩:=hq53;obtain⟨h1,h2⟩:=vy I1 r1 ty;exact⟨T,id,pa,slot,hty,h1,h2,L6 rfl (PySem.evalArgs_none (hm pins s1 σ H1 x [] v [] Q I1 r1 .nil q1))⟩
theorem Fi(pa:PlainAttrs T)(slot:Slot T name id)(hty:typeOf (.builtin id)=pure (.type "method_descriptor"))(hm:uI X id r)(ho:PE X o to)(ha:PA X (e::es) t)
  (hbase:autoParam (attributeBase o name X.env (eval o X.env)=eval o X.env) ℜ0)
  (hfew:autoParam (((backTo cpos (starEach (e::es) X.env)).all (λx=>!x.1) && (backToKw cpos (keywordEach [] X.env)).all (λx=>x.1.isSome)
   && decide ((e::es).length+([]:List Keyword).length+(if ([]:List Keyword).isEmpty then 0 else 1)<30))=true) ℜ0)
  (hline:autoParam ((apos.endLine == cpos.line)=true) ℜ0) (hs:autoParam (starEach (e::es) X.env=(false,eval e X.env)::starEach es X.env) ℜ0) (hplain:autoParam ((backTo cpos (starEach es X.env)).any (·.1)=false) ℜ0) :
  PE X (.Call (.Attribute o name apos) (e::es) [] cpos) (Bs X.K T r to t):=by
 intro pins s σ H Q I h;refine wpAny_Call_method_late hbase hfew hline rfl (bD (ho pins s σ H _ I h) λv s1 hq54=>?_);obtain⟨x,H1,I1,r1,ty,q1⟩:=hq54;obtain⟨h1,h2⟩:=vy I1 r1 ty;refine⟨T,id,pa,slot,hty,h1,h2,?_⟩;have hA:=ha cpos pins s1 σ H1 _ I1 q1;rw[hs] at hA ⊢;refine L6 (by show (false || (backTo cpos (starEach es X.env)).any (·.1))=false;rw[hplain]<;>rfl) (Calls.evalArgs_plain ?_)
 exact bD hA λus s2 ⟨vs,H2,I2,r2,q2⟩=>hm pins s2 σ H2 x vs v us Q I2 r1 r2 q2
/- xs.append(e),list.index on a module's tuple .. are uI facts of 06m -/
end
noncomputable def E5(X:Cx)(id:String)(r:V->List V->Hp->VK->Prop):Prop:=
 ∀(pins:List (Addr×Obj)) (s:Shared) (σ:St) (H:Hp) (x:V) (xs:List V) (v:Value) (us:List Value) (Q:VK),Inv X pins σ H s->RelV x v->Vals xs us->r x xs H Q ->
  wpAny (model X.prog X.w) X.A (call (.builtin id) (v::us)) (EP X pins σ Q) X.xe s
theorem Vals.one:∀{x:V} {us:List Value},Vals [x] us->∃u,us=[u]/\RelV x u
 |_,_,.cons r .nil=>⟨_,rfl,r⟩
theorem Vals.eraseIdx:∀{xs:List V} {us:List Value} (i:Nat),Vals xs us->Vals (xs.eraseIdx i) (us.eraseIdx i)
 |_,_,_,.nil=>.nil
 |_,_,0,.cons _ t=>t
 |_,_,i+1,.cons r t=>.cons r (Vals.eraseIdx i t)
theorem Vals.rep{xs:List V}(h:Vals xs us):∀k:Nat,Vals (List.replicate k xs).flatten (List.replicate k us).flatten
 |0=>.nil
 |k+1=>by
  rw[IV,IV,Kj,Kj];exact Vals.append h (Vals.rep h k)
theorem kX:∀(l:List α) (i:Nat),(l.eraseIdx i).length<=l.length
 |[],_=>Ib _
 |_::_,0=>JT _
 |_::r,i+1=>Nat.succ_le_succ (kX r i)
theorem foldl_rep(its:List Value):∀(k:Nat) (acc:List Value),
  List.foldl (λx1 x2=>x1++x2) acc.toArray (List.replicate k its.toArray)=(acc++(List.replicate k its).flatten).toArray
 |0,acc=>by simp
 |k+1,acc=>by
  have e:acc.toArray++its.toArray=(acc++its).toArray:=by simp
  have e2:(acc++its)++(List.replicate k its).flatten=acc++(List.replicate (k+1) its).flatten:=by
   rw[IV,Kj,II]
  rw[<- e2,<- foldl_rep its k (acc++its),<- e,IV,ML]
section
variable {X:Cx} {pins:List (Addr×Obj)} {σ:St} {H:Hp} {s:Shared} {l b:Addr} {xs ys zs:List V}
theorem Inv.Dj{n:Nat}{f:Array Value->Array Value}{t':Nat}(I:Inv X pins σ H s)(hH:H l=some (.lst xs))
  (e:s.heap.get? l=some {cls:=.type "list",data:=.seq its.toArray n}) (hf:f its.toArray=its'.toArray) (hv:Vals ys its') (hz:ys.length<=sizeLine) :
  Inv X pins σ (upd H l (.lst ys)) {s with heap:=s.heap.update l (Obj.mapSeq f),toks:=t'}:=by
 have q:=PySem.IsL.update e f;rw[hf] at q;refine I.write (x:=l) (e:=l) (by rw[hH];exact trivial) (.inl rfl) (λb' u hb hu=>(K8 s.heap (Obj.mapSeq f) (I_ hb)).trans hu) ⟨_,q⟩ ?_
 exact⟨hz,its',_,hv,q⟩
theorem Inv.DG{t':Nat}(I:Inv X pins σ H s)(hv:Vals ys its)(hz:ys.length<=sizeLine):
  Inv X pins σ (upd H s.heap.objs.size (.lst ys)) {s with heap:=s.heap.push {cls:=.type "list",data:=.seq its.toArray},toks:=t'}:=
 I.laid (λ_ _ q=>HW _ q) (Ib _) ⟨hz,its,0,hv,Ip _ rfl⟩
theorem Inv.fresh(I:Inv X pins σ H s):H s.heap.objs.size=none:=I.aI.fresh (Ib _)
theorem Inv.nv(I:Inv X pins σ H s)(hH:H l=some (.lst xs)):xs.length<=sizeLine/\∃(its:List Value) (n:Nat),Vals xs its/\xs.length=its.length/\s.heap.get? l=some {cls:=.type "list",data:=.seq its.toArray n}:=by
 obtain⟨z,its,n,r,e⟩:=I.aI l _ hH;exact⟨z,its,n,r,r.length,e⟩
theorem uV{n:Nat}(h:n<=sizeLine):Builtin.List.listTooLong n=false:=by
 unfold Builtin.List.listTooLong;exact IE (by lia)
end
section
variable {X:Cx}
noncomputable def rB:V->List V->Hp->VK->Prop:=λx vs H Q=>∃l xs y,x=.ref l/\vs=[y]/\H l=some (.lst xs)/\xs.length<sizeLine/\Q .aJ (upd H l (.lst (xs++[y])))
theorem kZ:E5 X "list.append" rB:=by
 intro pins s σ H x vs v us Q I rx rv h;obtain⟨l,xs,y,rfl,rfl,hH,hz,q⟩:=h;cases rx;obtain⟨u,rfl,ru⟩:=rv.one;obtain⟨z,its,n,r,hl,e⟩:=I.nv hH;refine K1 F.slot_list_append ⟨_,e,rfl⟩ F.entry_list_append (F.args_list_append_2 _ _) (PySem.list_append l its.toArray n u (by rw[Im];lia)) ⟨e,?_⟩
 refine⟨.aJ,_,I.Dj (its':=its++[u]) hH e (by simp) (r.append (.cons ru .nil)) ?_,rfl,q⟩
 rw[HX,KH];lia
noncomputable def Cq:V->List V->Hp->VK->Prop:=λx vs H Q=>∃l xs i k y,x=.ref l/\vs=[.int i]/\H l=some (.lst xs)/\-(2^63)<=i/\i<2^63/\seqIndex? i xs.length=some k/\xs[k]?=some y/\Q y (upd H l (.lst (xs.eraseIdx k)))
theorem xN:E5 X "list.pop" Cq:=by
 intro pins s σ H x vs v us Q I rx rv h;obtain⟨l,xs,i,k,y,rfl,rfl,hH,h1,h2,hk,hy,q⟩:=h;cases rx;obtain⟨u,rfl,ru⟩:=rv.one;obtain⟨t,rfl⟩:=ru;obtain⟨z,its,n,r,hl,e⟩:=I.nv hH;obtain⟨w,hw,rw'⟩:=r.get hy;refine K1 F.slot_list_pop ⟨_,e,rfl⟩ F.entry_list_pop (F.args_list_pop_2 _ _)
  (MeetsSeq.list_pop_at l its.toArray n i t k w (Nc h1 h2) (by rw[Im,<- hl];exact hk) (by rw[<- IL];exact hw) (by rw[Im];lia)) ⟨e,?_⟩
 refine⟨y,_,I.Dj (its':=its.eraseIdx k) hH e ?_ (r.eraseIdx k) ?_,rw',q⟩
 ·show its.toArray.eraseIdxIfInBounds k=(its.eraseIdx k).toArray;rw[List.eraseIdxIfInBounds_toArray]
 ·have:=kX xs k;lia
noncomputable def GA:R2:=λx y H Q=>∃l b xs zs,x=.ref l/\y=.ref b/\H l=some (.lst xs)/\H b=some (.lst zs)/\xs.length+zs.length<=sizeLine/\∀p,H p=none->Q (.ref p) (upd H p (.lst (xs++zs)))
theorem Dy:cR X (binaryOp .Add) GA:=by
 intro pins s σ H x y v u Q I rx ry h;obtain⟨l,b,xs,zs,rfl,rfl,hH,hB,hz,q⟩:=h;cases rx;cases ry;obtain⟨z,its,n,r,hl,e⟩:=I.nv hH;obtain⟨z2,its2,n2,r2,hl2,e2⟩:=I.nv hB;refine PySem.P.add_list e e2 ?_ (by rw[Im,Im];lia)
 have ea:its.toArray++its2.toArray=(its++its2).toArray:=by simp
 rw[ea];exact⟨.ref _,_,I.DG (t':=s.toks) (r.append r2) (by rw[HX];lia),rfl,q _ I.fresh⟩
noncomputable def FG:R2:=λx y H Q=>∃l k xs,x=.ref l/\y=.int k/\H l=some (.lst xs)/\-(2^63)<=k/\k<2^63/\xs.length*k.toNat<=sizeLine /\
 ∀p,H p=none->Q (.ref p) (upd H p (.lst (List.replicate k.toNat xs).flatten))
theorem len_rep(xs:List α)(k:Nat):(List.replicate k xs).flatten.length=k*xs.length:=by
 induction k with
 |zero=>simp
 |succ k ih=>rw[IV,Kj,HX,ih,Lo,Nat.add_comm]
theorem BK:cR X (binaryOp .Mult) FG:=by
 intro pins s σ H x y v u Q I rx ry h;obtain⟨l,k,xs,rfl,rfl,hH,h1,h2,hz,q⟩:=h;cases rx;obtain⟨t,rfl⟩:=ry;obtain⟨z,its,n,r,hl,e⟩:=I.nv hH;have hlen:its.toArray.size*k.toNat<=sizeLine:=by rw[Im,<- hl];exact hz
 have hcap:¬ its.toArray.size*k.toNat >(2^63-1) / 8:=by
  have:(sizeLine:Nat)<=(2^63-1) / 8:=by decide
  lia
 have hfit:¬ (!Builtin.List.listFitsIndex k)=true:=by
  rw[Nc h1 h2];exact Il
 have hlong:¬ Builtin.List.listTooLong (its.toArray.size*k.toNat)=true:=by
  rw[uV hlen];exact Il
 have hnew:List.foldl (λx1 x2=>x1++x2) #[] (List.replicate (if its.toArray.isEmpty=true then 0 else k.toNat) its.toArray)=(List.replicate k.toNat its).flatten.toArray:=by
  have f0:∀m:Nat,List.foldl (λx1 x2=>x1++x2) #[] (List.replicate m its.toArray)=(List.replicate m its).flatten.toArray:=λm=>by
   have:=foldl_rep its m [];rw[Jt] at this;exact this
  rw[f0]
  cases its with
  |nil=>simp
  |cons a r'=>rw[H_ (by simp)]
 refine Ms (T:="list") (U:="int") (by decide) ⟨_,e,rfl⟩ (λs'=>Mr s' k t) noFill_list_mul F.fills_int_mul F.slot_int_rmul repeat_list F.slot_int_index.lookup
  (K1 F.slot_int_rmul (Mr s k t) F.entry_int_rmul (F.args_int_rmul_2 _ _) (int___rmul___int_list k t l its.toArray n)
   ⟨e,rfl,⟨_,e,rfl⟩,K1 F.slot_list_mul ⟨_,e,rfl⟩ F.entry_list_mul (F.args_list_mul_2 _ _) (AutoListH.list___mul___list_int_3 l its.toArray n k t hfit hcap hlong) ⟨e,?_⟩⟩)
 rw[hnew];exact⟨.ref _,_,I.DG (t':=s.toks) (r.rep k.toNat) (by rw[len_rep,Nat.mul_comm];exact hz),rfl,q _ I.fresh⟩
end
section
variable {κ:Type} [DecidableEq κ]
noncomputable def bS(kvs:List (κ×V))(k:κ):Option V:=(kvs.find? λkv=>decide (kv.1=k)).map (·.2)
noncomputable def putK(kvs:List (κ×V))(k:κ)(v:V):List (κ×V):=
 if (kvs.any λkv=>decide (kv.1=k))=true then kvs.map (λkv=>if kv.1=k then (kv.1,v) else kv) else kvs++[(k,v)]
theorem bL{p:κ×V}{r:List (κ×V)}{k:κ}(e:p.1=k):bS (p::r) k=some p.2:=by simp[bS,JV,e]
theorem bC{p:κ×V}{r:List (κ×V)}{k:κ}(e:¬ p.1=k):bS (p::r) k=bS r k:=by simp[bS,JV,e]
theorem e7(k:κ):∀kvs:List (κ×V),(kvs.any λkv=>decide (kv.1=k))=(bS kvs k).isSome
 |[]=>rfl
 |p::r=>by
  rw[Lb];by_cases e:p.1=k
  ·simp only[bL e,IM e,Bool.true_or,Option.isSome_some]
  ·rw[bC e,IE e,Bool.false_or];exact e7 k r
theorem oQ(k j:κ)(y:V):∀kvs:List (κ×V),bS (kvs.map λkv=>if kv.1=k then (kv.1,y) else kv) j=(bS kvs j).map λx=>if j=k then y else x
 |[]=>rfl
 |p::r=>by
  have ih:=oQ k j y r;rw[IA];by_cases h:p.1=k
  ·rw[Ig h];by_cases e:p.1=j
   ·rw[bL (p:=(p.1,y)) e,bL e,Li,Ig (e.symm.trans h)]
   ·rw[bC (p:=(p.1,y)) e,bC e,ih]
  ·rw[H_ h];by_cases e:p.1=j
   ·rw[bL (p:=p) e,bL e,Li,H_ (λz=>h (e.trans z))]
   ·rw[bC (p:=p) e,bC e,ih]
theorem lq(k j:κ)(y:V):∀kvs:List (κ×V),bS kvs k=none->bS (kvs++[(k,y)]) j=if j=k then some y else bS kvs j
 |[],_=>by
  by_cases e:k=j
  ·rw[Ig e.symm];exact bL (p:=(k,y)) e
  ·rw[H_ (λz=>e z.symm)];exact bC (p:=(k,y)) e
 |p::r,hn=>by
  rw[JD];have hk:¬ p.1=k:=λz=>by rw[bL z] at hn;cases hn
  rw[bC hk] at hn;have ih:=lq k j y r hn;by_cases e:p.1=j
  ·rw[bL e,bL e,H_ (λz=>hk (e.trans z))]
  ·rw[bC e,bC e,ih]
theorem oA(kvs:List (κ×V))(k j:κ)(y:V):bS (putK kvs k y) j=if j=k then some y else bS kvs j:=by
 unfold putK;by_cases a:(kvs.any λkv=>decide (kv.1=k))=true
 ·rw[Ig a,oQ];rw[e7] at a;by_cases e:j=k
  ·obtain⟨x,hx⟩:=Ln.mp a;rw[Ig e,e,hx,Li,Ig rfl]
  ·rw[H_ e]
   cases bS kvs j with
   |none=>rfl
   |some x=>rw[Li,H_ e]
 ·rw[H_ a];refine lq k j y kvs ?_;rw[e7] at a
  cases q:bS kvs k with
  |none=>rfl
  |some x=>rw[q] at a;exact (a rfl).elim
theorem f9(kvs:List (κ×V))(k:κ)(v:V):(putK kvs k v).length<=kvs.length+1:=by
 unfold putK;split
 ·rw[HY];lia
 ·rw[HX,Iq,Je];lia
theorem nr{kvs:List (κ×V)}{k:κ}(v:V)(h:bS kvs k=none):putK kvs k v=kvs++[(k,v)]:=by
 unfold putK;rw[e7,h];exact H_ (by decide)
theorem iO.d_{u:Option Value}(r:iO o u):o.isSome=u.isSome:=by
 cases o with
 |none=>cases u with
  |none=>rfl
  |some _=>exact (show False from r).elim
 |some _=>cases u with
  |none=>exact (show False from r).elim
  |some _=>rfl
theorem KV.val{kvs:List (κ×V)}{vs:List (κ×Value)}(r:KV kvs vs)(k:κ):iO (bS kvs k) (valueAt vs k):=by
 unfold KV at r
 induction r with
 |nil=>exact True.intro
 |@cons p q ps qs h t ih =>
  obtain⟨h1,h2⟩:=h;by_cases e:p.1=k
  ·have e':q.1=k:=h1.symm.trans e;have b:valueAt (q::qs) k=some q.2:=by simp[valueAt,JV,e']
   rw[bL e,b];exact h2
  ·have e':¬ q.1=k:=λz=>e (h1.trans z);have b:valueAt (q::qs) k=valueAt qs k:=by simp[valueAt,JV,e']
   rw[bC e,b];exact ih
theorem KV.any{kvs:List (κ×V)}{vs:List (κ×Value)}(r:KV kvs vs)(k:κ):(kvs.any λkv=>decide (kv.1=k))=vs.any λkv=>decide (kv.1=k):=by
 unfold KV at r
 induction r with
 |nil=>rfl
 |cons h t ih=>rw[Lb,Lb,ih,h.1]
theorem KV.B5{kvs:List (κ×V)}{vs:List (κ×Value)}(r:KV kvs vs)(k:κ)(ry:RelV y u):
  KV (kvs.map λkv=>if kv.1=k then (kv.1,y) else kv) (vs.map λkv=>if kv.1=k then (kv.1,u) else kv):=by
 unfold KV at r ⊢
 induction r with
 |nil=>exact .nil
 |@cons p q ps qs h t ih =>
  rw[IA,IA];refine .cons ?_ ih;obtain⟨h1,h2⟩:=h;by_cases e:p.1=k
  ·rw[Ig e,Ig (h1.symm.trans e)];exact⟨h1,ry⟩
  ·rw[H_ e,H_ (λz=>e (h1.trans z))];exact⟨h1,h2⟩
theorem KV.put{kvs:List (κ×V)}{vs:List (κ×Value)}(r:KV kvs vs)(k:κ)(ry:RelV y u):KV (putK kvs k y) (stored vs k u):=by
 unfold putK stored;rw[r.any k];by_cases e:(vs.any λkv=>decide (kv.1=k))=true
 ·rw[Ig e,Ig e];exact r.B5 k ry
 ·rw[H_ e,H_ e];exact Paired.snoc r ⟨rfl,ry⟩
theorem KV.length{kvs:List (κ×V)}{vs:List (κ×Value)}(r:KV kvs vs):kvs.length=vs.length:=Paired.length r
end
theorem kU{k:Key}(r:RelV (kV k) u):(bJ P w).is k u=true:=by
 cases k with
 |inl i=>obtain⟨t,e⟩:=(show ∃t,u=Value.int i t from r);subst e;exact oY P w i t
 |inr x=>obtain⟨t,e⟩:=(show ∃t,u=Value.str x t from r);subst e;exact oF P w x t
theorem lC:∀{ks:List Key} {us:List Value},Vals (ks.map kV) us->ItemsAre (bJ P w) ks us
 |[],_,r=>by rw[KD] at r;cases r;exact .nil
 |k::ks,_,r=>by
  rw[IA] at r
  cases r with
  |cons h t=>exact .cons (kU h) (lC t)
abbrev KT(H:Hp):List (List Key×V)->List (List Key×Addr×Value)->Prop:=Paired λp q=>p.1=q.1/\H q.2.1=some (.tup (p.1.map kV))/\RelV p.2 q.2.2
theorem KT.val(r:KT H kvs xs)(k:List Key):iO (bS kvs k) ((atKey xs k).map (·.2)):=by
 induction r with
 |nil=>exact True.intro
 |@cons p q ps qs h t ih =>
  obtain⟨h1,_,h2⟩:=h;by_cases e:p.1=k
  ·have e':q.1=k:=h1.symm.trans e;have b:atKey (q::qs) k=some q.2:=by simp[atKey,JV,e']
   rw[bL e,b];exact h2
  ·have e':¬ q.1=k:=λz=>e (h1.trans z);have b:atKey (q::qs) k=atKey qs k:=by simp[atKey,JV,e']
   rw[bC e,b];exact ih
theorem KT.B5(r:KT H kvs xs)(k:List Key)(ry:RelV y u):
  KT H (kvs.map λkv=>if kv.1=k then (kv.1,y) else kv) (xs.map (putAt k u)):=by
 induction r with
 |nil=>exact .nil
 |@cons p q ps qs h t ih =>
  rw[IA,IA];refine .cons ?_ ih;obtain⟨h1,h2,h3⟩:=h;unfold putAt;by_cases e:p.1=k
  ·rw[Ig e,Ig (h1.symm.trans e)];exact⟨h1,h2,ry⟩
  ·rw[H_ e,H_ (λz=>e (h1.trans z))];exact⟨h1,h2,h3⟩
theorem KT.put(r:KT H kvs xs)(k:List Key){b:Addr}(hb:H b=some (.tup (k.map kV)))(ry:RelV y u):
  KT H (putK kvs k y) (storedH xs k b u):=by
 have e:(kvs.any λkv=>decide (kv.1=k))=(atKey xs k).isSome:=by
  rw[e7,(r.val k).d_,Mn]
 unfold putK storedH;rw[e];by_cases q:(atKey xs k).isSome=true
 ·rw[Ig q,Ig q];exact r.B5 k ry
 ·rw[H_ q,H_ q];exact Paired.snoc r ⟨rfl,hb,ry⟩
theorem KT.keeps(r:KT H kvs xs)(ht:∀b ys,H b=some (.tup ys)->H' b=some (.tup ys)):KT H' kvs xs:=
 Paired.uU r λ_ _ z=>⟨z.1,ht _ _ z.2.1,z.2.2⟩
section
variable {P:Program} {w:World} {H:Hp} {h:Heap} {a:Addr}
theorem AX{u:HO}(ok:dz P w H h)(e:Rd H a u):aM P w H h a u:=e.ok ok
theorem nA{kvs:List (Key×V)}(ok:dz P w H h)(e:Rd H a (.dK kvs)):kvs.length<=sizeLine/\(a == sysModules)=false/\∃vs,KV kvs vs/\h.DictOf (bJ P w) a vs:=
 show aM P w H h a (.dK kvs) from AX ok e
theorem FA{kvs:List (Key×V)}(ok:dz P w H h)(e:H a=some (.dK kvs)):kvs.length<=sizeLine/\(a == sysModules)=false/\∃vs,KV kvs vs/\h.DictOf (bJ P w) a vs:=nA ok (.inl e)
theorem jl{ks:List Key}(ok:dz P w H h)(e:H a=some (.tup (ks.map kV))):(tupleKind (bJ P w)).is h ks a:=by
 obtain⟨_,its,r,o,h1,h2,n,h3,_⟩:=(show aM P w H h a (.tup (ks.map kV)) from ok a _ e);exact⟨o,its.toArray,n,h1,h2,h3,by simpa using lC r⟩
theorem nM(ok:dz P w H h)(e:Rd H a (.dT kvs)):kvs.length<=sizeLine/\(a == sysModules)=false /\
  ∃xs,KT H kvs xs/\h.DictOfH (tupleKind (bJ P w)) a xs:=by
 obtain⟨z,y,xs,r,o,es,ep,h1,h2,h3,h4,h5⟩:=(show aM P w H h a (.dT kvs) from AX ok e);refine⟨z,y,xs,r,o,es,ep,h1,h2,h3,h4,λx hx=>?_,h5⟩;have all:∀{l:List (List Key×V)} {m:List (List Key×Addr×Value)},KT H l m->∀x∈m,(tupleKind (bJ P w)).is h x.1 x.2.1:=by
  intro l m q
  induction q with
  |nil=>intro x hx;exact nomatch hx
  |@cons p q ps qs hq t ih =>
   intro x hx;rcases Ih.mp hx with e|hx
   ·subst e;exact jl ok (by rw[<- hq.1];exact hq.2.1)
   ·exact ih x hx
 exact all r x hx
theorem Fp(ok:dz P w H h)(e:H a=some (.dT kvs)):kvs.length<=sizeLine/\(a == sysModules)=false /\
  ∃xs,KT H kvs xs/\h.DictOfH (tupleKind (bJ P w)) a xs:=nM ok (.inl e)
end
noncomputable def fO(H:Hp)(a:Addr)(y:V)(r:Option V):Prop:=
 (∃kvs k,Rd H a (.dK kvs)/\y=kV k/\r=bS kvs k)\/∃kvs k b,Rd H a (.dT kvs)/\y=.ref b/\H b=some (.tup (k.map kV))/\r=bS kvs k
noncomputable def t7(H:Hp)(a:Addr)(y v:V)(H':Hp):Prop:=
 (∃kvs k,H a=some (.dK kvs)/\y=kV k/\kvs.length<sizeLine/\H'=upd H a (.dK (putK kvs k v))) \/
 ∃kvs k b,H a=some (.dT kvs)/\y=.ref b/\H b=some (.tup (k.map kV))/\kvs.length<sizeLine/\H'=upd H a (.dT (putK kvs k v))
theorem fO.k{kvs:List (Key×V)}{k:Key}(e:H a=some (.dK kvs)):fO H a (kV k) (bS kvs k):=.inl ⟨kvs,k,.inl e,rfl,rfl⟩
theorem t7.k{kvs:List (Key×V)}{k:Key}{v:V}(e:H a=some (.dK kvs))(hl:kvs.length<sizeLine):t7 H a (kV k) v (upd H a (.dK (putK kvs k v))):=.inl ⟨kvs,k,e,rfl,hl,rfl⟩
section
variable {X:Cx} {pins:List (Addr×Obj)} {σ:St} {H:Hp} {s:Shared} {a:Addr} {y v:V} {u r:Value} {o:Option V} {A:Around} {E:Value->Shared->Prop}
theorem Inv.big(I:Inv X pins σ H s):sysModules<s.heap.objs.size:=by
 have h:mainGlobals<s.heap.objs.size:=(I.mod.glob.keeps I.bk).lt;exact Lp (by decide) h
theorem u4(hu:A.units+1<cLine)(I:Inv X pins σ H s)(g:fO H a y (some v))(ry:RelV y u)(h:∀w' s',Inv X pins σ H s'->RelV v w'->Q w' s'):
  wpAny (model X.prog X.w) A (getItem (.ref a) u) Q E s:=by
 rcases g with ⟨kvs,k,e,ey,l⟩|⟨kvs,k,b,e,ey,eb,l⟩
 ·subst ey;obtain⟨z,hd,vs,rel,dd⟩:=nA I.aI e;obtain⟨w',hw,rw'⟩:=iO.some_of (v:=v) (o:=valueAt vs k) (by rw[l];exact rel.val k)
  exact wpAny_getItem_of (kU ry) dd.mapOf hw (h w' _ (I.tok _) rw')
 ·subst ey
  cases (show u=Value.ref b from ry)
  obtain⟨z,hd,xs,rel,dd⟩:=nM I.aI e;obtain⟨w',hw,rw'⟩:=iO.some_of (v:=v) (o:=(atKey xs k).map (·.2)) (by rw[l];exact rel.val k)
  obtain⟨p,hp,hp2⟩:=IC.mp hw;refine wpAny_getItem_heap (Lq hu) (jl I.aI eb) dd hp ?_;rw[hp2];exact h w' _ (I.tok _) rw'
theorem Hb(hu:A.units+1<cLine)(I:Inv X pins σ H s)(g:fO H a y o)(ry:RelV y u)(h:∀s',Inv X pins σ H s'->Q (.bool o.isSome) s'):
  wpAny (model X.prog X.w) A (compareOp .In u (.ref a)) Q E s:=by
 rcases g with ⟨kvs,k,e,ey,l⟩|⟨kvs,k,b,e,ey,eb,l⟩
 ·subst ey;obtain⟨z,hd,vs,rel,dd⟩:=nA I.aI e;refine wpAny_in_of (kU ry) hd dd.mapOf ?_;rw[<- (rel.val k).d_,<- l];exact h _ (I.tok _)
 ·subst ey
  cases (show u=Value.ref b from ry)
  obtain⟨z,hd,xs,rel,dd⟩:=nM I.aI e;refine wpAny_in_heap (Lq hu) (jl I.aI eb) hd dd ?_;have q:=(rel.val k).d_;rw[Mn] at q;rw[<- q,<- l];exact h _ (I.tok _)
theorem yL(hu:A.units+1<cLine)(I:Inv X pins σ H s)(g:fO H a y o)(ry:RelV y u)(h:∀s',Inv X pins σ H s'->Q (.bool (!o.isSome)) s'):
  wpAny (model X.prog X.w) A (compareOp .NotIn u (.ref a)) Q E s:=by
 rcases g with ⟨kvs,k,e,ey,l⟩|⟨kvs,k,b,e,ey,eb,l⟩
 ·subst ey;obtain⟨z,hd,vs,rel,dd⟩:=nA I.aI e;refine wpAny_notIn_of (kU ry) hd dd.mapOf ?_;rw[<- (rel.val k).d_,<- l];exact h _ (I.tok _)
 ·subst ey
  cases (show u=Value.ref b from ry)
  obtain⟨z,hd,xs,rel,dd⟩:=nM I.aI e;refine wpAny_notIn_heap (Lq hu) (jl I.aI eb) hd dd ?_;have q:=(rel.val k).d_;rw[Mn] at q;rw[<- q,<- l];exact h _ (I.tok _)
theorem sh{h':Heap}{t':Nat}{ob:HO}(I:Inv X pins σ H s)(mu:EM (H a))(hs:Heap.SameBut a s.heap h')(he:∃q,h'.get? a=some q)(new:aM X.prog X.w (upd H a ob) h' a ob):
  Inv X pins σ (upd H a ob) {s with heap:=h',toks:=t'}:=
 I.write (x:=a) (e:=a) mu (.inl rfl) (λb q hb z=>(hs.2 b hb).trans z) he new
theorem vg{h':Heap}{kvs:List (Key×V)}{vs:List (Key×Value)}(z:kvs.length<=sizeLine)(hd:(a == sysModules)=false)(rel:KV kvs vs)(dd:h'.DictOf (bJ P w) a vs):
  aM P w H' h' a (.dK kvs):=⟨z,hd,vs,rel,dd⟩
theorem sk{Q:Unit->Shared->Prop}(hu:A.units+1<cLine)(I:Inv X pins σ H s)(g:t7 H a y v H')(ry:RelV y u)(rv:RelV v r)(h:∀s',Inv X pins σ H' s'->Q () s'):
  wpAny (model X.prog X.w) A (setItem (.ref a) u r) Q E s:=by
 rcases g with ⟨kvs,k,e,ey,l,eH⟩|⟨kvs,k,b,e,ey,eb,l,eH⟩
 ·subst ey eH;obtain⟨z,hd,vs,rel,dd⟩:=FA I.aI e;have hz:vs.length<=sizeLine:=by rw[<- rel.length];exact z
  have hl:(putK kvs k v).length<=sizeLine:=by have:=f9 kvs k v;lia
  refine wpAny_setItem_pairs (hsz:=hz) (kU ry) dd λh' dd' hs=>h _ ?_;have he:∃q,h'.get? a=some q:=let ⟨q,_,_,hq,_⟩:=dd';⟨q,hq⟩
  exact sh I (by rw[e];exact True.intro) hs he (vg hl hd (rel.put k rv) dd')
 ·subst ey eH
  cases (show u=Value.ref b from ry)
  obtain⟨z,hd,xs,rel,dd⟩:=Fp I.aI e;have hz:xs.length<=sizeLine:=by rw[<- Paired.length rel];exact z
  have hl:(putK kvs k v).length<=sizeLine:=by have:=f9 kvs k v;lia
  refine wpAny_setItem_heap (hsz:=hz) (Lq hu) (jl I.aI eb) dd λh' dd' hs=>h _ ?_;obtain⟨q,es,ep,hq,h2,h3,h4,_,h5⟩:=dd';refine sh I (by rw[e];exact True.intro) hs ⟨q,hq⟩ ⟨hl,hd,_,(rel.put k eb rv).keeps λc ys ec=>?_,q,es,ep,hq,h2,h3,h4,h5⟩
  rw[ae (Eh ec e (λz=>nomatch z))];exact ec
end
noncomputable def wO(i:Expr):Prop:=∀ov iv,subscripted i false ov iv=operate [ov,iv] (getItem ov iv)
theorem rA{prog:Program}{A:Around}{E:Value->Shared->Prop}{s:Shared}{env:Env}{value slice:Expr}{pos:Pos}{T id:String}
  (hl:typeLookup (.type T) "__getitem__"=pure (some (.builtin id))) (hs:wO slice)
  (h:wpAny (model prog w) A (eval value env) (λo s₁=>wpAny (model prog w) A (eval slice env) (λi s₂=>s₂.TypeIs o T/\wpAny (model prog w) A (getItem o i) Q E s₂) E s₁) E s) :
  wpAny (model prog w) A (eval (.Subscript value slice pos) env) Q E s:=by
 refine Subscript_ (IZ h (λo s₁ h₁=>IZ h₁ (λi s₂ h₂=>?_) λ_ _ x=>x) λ_ _ x=>x);obtain⟨hT,h₂⟩:=h₂;unfold subscriptTail;refine HU ?_;rw[getitemInPython_of_ne hT.not_modules];refine HU (wpAny_specialOf hT hl ?_);have fin:wpAny (model prog w) A (subscripted slice false o i) (λr s₃=>wpAny (model prog w) A (letTemporaryGo value o r >>= λ_=>pure r) Q E s₃) E s₂:=by
  rw[hs o i];exact wpAny_operating (IZ h₂ (λr s₃ h₃=>HU (wpAny_letTemporaryGo (Ii h₃))) λ_ _ x=>x)
 first
  |exact Ii (HU fin)
  |exact HU (Ii (HU fin))
  |exact HU fin
theorem nk{X:Cx}{s:Shared}(I:Inv X pins σ H s)(g:fO H a y o):s.TypeIs (.ref a) "dict":=by
 rcases g with ⟨kvs,k,e,_,_⟩|⟨kvs,k,b,e,_,_,_⟩
 ·obtain⟨_,_,vs,_,dd⟩:=nA I.aI e;exact dd.typeIs
 ·obtain⟨_,_,xs,_,dd⟩:=nM I.aI e;exact dd.typeIs
noncomputable def nB(td ty:TE):TE:=λσ H Q=>td σ H λx H1=>ty σ H1 λy H2=>∃a v,x=.ref a/\fO H2 a y (some v)/\Q v H2
noncomputable def oi(td ty tv:TE):TS:=λD σ H=>tv σ H λv H1=>td σ H1 λx H2=>ty σ H2 λy H3=>∃a H4,x=.ref a/\t7 H3 a y v H4/\D.nx σ H4
section
variable {X:Cx} {o i e value:Expr} {pos pos' tpos:Pos} {td ty tv:TE}
theorem y8(hu:X.A.units+1<cLine)(ho:PE X o td)(hi:PE X i ty)(hs:wO i):PE X (.Subscript o i pos) (nB td ty):=by
 intro pins s σ H Q I h;refine rA PySem.F.slot_dict_getitem.lookup hs (bD (ho pins s σ H _ I h) λu s1 ⟨x,H1,I1,rx,q1⟩=>bD (hi pins s1 σ H1 _ I1 q1) λiv s2 hq55=>?_);obtain⟨y,H2,I2,ry,a,v,ex,g,q2⟩:=hq55;subst ex;obtain rfl:u=Value.ref a:=rx;exact⟨nk I2 g,u4 hu I2 g ry λw' s3 I3 rw'=>⟨v,H2,I3,rw',q2⟩⟩
theorem zi(hu:X.A.units+1<cLine)(ho:PE X o td)(hi:PE X i ty)(hv:PE X value tv)(hs:swapsWith value (some (.Subscript o i pos')) pos.line X.env=pure false):
  PS X (.Assign [.Subscript o i pos'] value pos) (oi td ty tv):=by
 intro pins s σ H D I h;refine wpAny_Assign_Subscript (bD (hv pins s σ H _ I h) λr s1 ⟨v,H1,I1,rv,q1⟩=>bD (ho pins s1 σ H1 _ I1 q1) λu s2 ⟨x,H2,I2,rx,q2⟩=>bD (hi pins s2 σ H2 _ I2 q2) λiv s3 hq58=>?_) hs;obtain⟨y,H3,I3,ry,a,H4,ex,g,q3⟩:=hq58;subst ex;obtain rfl:u=Value.ref a:=rx;exact sk hu I3 g ry rv λs4 I4=>⟨σ,H4,I4,q3⟩
end
theorem v7(h:Heap)(hb:sysModules<h.objs.size):aM P w H (h.push {cls:=.type "dict",data:=.dict #[]}) h.objs.size (.dK []):=
 ⟨Iv _,Jn.mpr (I_ (Iz hb)),[],.nil,Heap.DictOf.new h⟩
noncomputable def jW:TE:=λ_ H Q=>∀p,H p=none->Q (.ref p) (upd H p (.dK []))
section
variable {X:Cx} {pos:Pos}
theorem xh:PE X (.Dict [] [] pos) jW:=λpins s σ H Q I h =>
 wpAny_Dict_empty ⟨.ref s.heap.objs.size,_,I.laid (a:=s.heap.objs.size) (o:=.dK []) (t':=s.toks) (λ_ _ q=>HW _ q) (Ib _) (v7 s.heap I.big),rfl,h _ (I.aI.fresh (Ib _))⟩
end
noncomputable def fh(kvs more:List (Key×V)):List (Key×V):=more.foldl (λacc kv=>putK acc kv.1 kv.2) kvs
theorem KV.merge:∀{more:List (Key×V)} {rs:List (Key×Value)} {kvs:List (Key×V)} {vs:List (Key×Value)},KV more rs->KV kvs vs->KV (fh kvs more) (merged vs rs):=by
 intro more rs kvs vs r;unfold KV at r
 induction r generalizing kvs vs with
 |nil=>intro q;exact q
 |@cons p q ps qs h t ih =>
  intro r0;have e:KV (putK kvs p.1 p.2) (stored vs q.1 q.2):=by
   have:=r0.put p.1 h.2;rw[<- h.1];exact this
  exact ih e
theorem fP:∀(more kvs:List (Key×V)),(fh kvs more).length<=kvs.length+more.length
 |[],kvs=>by show kvs.length<=kvs.length+0;lia
 |p::r,kvs=>by
  have h1:=fP r (putK kvs p.1 p.2);have h2:=f9 kvs p.1 p.2;show (fh (putK kvs p.1 p.2) r).length<=_;rw[Iq];lia
end L2
namespace Att
open PySem PySem.W PySem.Calls PyProof.Rows
theorem iL{P:Params}{h:Heap}:∀(ns:List Int) (vs:List Value),WellAll P h vs (ns.map WData.int)->IntsAre vs ns:=by
 intro ns
 induction ns with
 |nil =>
  intro vs w;rw[List.map_nil] at w;cases w;exact .nil
 |cons n ns ih =>
  intro vs w;rw[List.map_cons] at w
  cases w with
  |cons a b =>
   cases a;exact .cons _ _ (ih _ b)
theorem tQ{l:OpenLaw}{n:Nat}(hn:l.most=some n){P:Params}{h:Heap}{args:List WData}{vals:List Value}
  (hpre:l.row.toRowW.claim.pre args=true) (hwl:WellAll P h vals args) :
  ∃a vs ns,vals=[Value.ref a]/\args=[WData.list (ns.map WData.int)]/\h.get? a=some {cls:=.type "list",data:=.seq vs.toArray}/\IntsAre vs ns/\ns.length<=n:=by
 have hsh:WShape.hasAll [] args [.list .int]=true:=(pre_splitW hpre).1;have hc:l.pre.holds [] {args:=args}=true:=(pre_splitW hpre).2;obtain⟨d,r,rfl,h1,h2⟩:=hasAllW_cons hsh;obtain rfl:=hasAllW_nil h2;obtain⟨xs,rfl,h3⟩:=hasW_list h1;obtain⟨ns,rfl⟩:=items_int h3;have hlen:ns.length<=n:=by
  unfold OpenLaw.pre at hc;have h4:(WTm.not (.lt (.lit (.int (n:Int))) (.len (.arg 0)))).holds [] {args:=[.list (ns.map .int)]}=true:=by
   have h4:=(holds_andW hc).1;rw[hn] at h4;exact h4
  have h5:=condW_of h4 (w_not (w_lt w_lit (w_len_list (w_arg rfl))));rw[List.length_map] at h5;refine Nat.le_of_not_lt λq=>?_;have q':(n:Int)<((ns.length:Nat):Int):=by lia
  first
   | (rw[decide_eq_true q'] at h5;exact absurd h5 (by decide))
   | (simp at h5;lia)
 cases hwl with
 |cons w1 w2 =>
  cases w2
  cases w1 with
  |list ho hall=>exact⟨_,_,ns,rfl,rfl,ho,iL ns _ hall,hlen⟩
theorem uz(l:OpenLaw)(args:List WData):l.row.toRowW.claim.post args (.bool true) args=true:=
 postW_of (r:=l.row.toRowW) (X:=(true == true))
  (show WShape.has [] (.bool true) .bool=true by first|rfl|decide|simp[WShape.has,WShape.arms,WShape.armsAll])
  (show (WTm.eq .res (.lit (.bool true))).value [] {args:=args,res:=some (.bool true),after:=args}=some (.bool (true == true)) from w_eq_bool (w_res rfl) w_lit) rfl
theorem nj{l:OpenLaw}{n:Nat}{q:Program}{loose:List Str}{XP:(Str->Option Value)->Heap->Prop}{YP:World->Heap->Prop}{d:DefRec}
  (hn:l.most=some n) (hdf:d.params.defaults=[])
  (call:∀(w:World) (s₀ s₁:Shared) (mg mb:Str->Option Value) (fa:Addr) (o:Obj) (pm cd doc:Value) (a:Addr) (vs:List Value) (ns:List Int),
   Ground q loose [] XP w s₀ mg mb s₁.heap->YP w s₁.heap ->
   s₁.heap.get? fa=some o->o.data=.func (docDef d.name d.params d.body d.scope pm cd doc)->s₁.heap.CodeRec cd d.name->mg d.name=some (.ref fa) ->
   s₁.heap.get? a=some {cls:=.type "list",data:=.seq vs.toArray}->IntsAre vs ns->ns.length<=n->s₁.gens=#[] ->
   codeAny (model l.prog w) callerA (.call (.ref fa) ⟨[.ref a],[]⟩) (λr s'=>r=.ok (.ret (.bool true))/\OldK s₁.heap s'.heap/\s'.os=s₁.os/\AllBare s'.gens) s₁) :
  WalkO q loose XP YP l.row.toRowW d [] (λf vs=>PySem.call f vs):=by
 intro w s₀ s₁ mg mb G Y fa o pm cd doc dV kV ho hd fM hD hmg hg args vals as hpre hlay hrd hwl hlo;obtain rfl:dV=.none:=Dflts.none hD hdf;obtain rfl:kV=.none:=Dflts.noKw hD;obtain⟨a,vs,ns,rfl,rfl,hobj,hints,hlen⟩:=tQ hn hpre hwl;refine enter_call (codeAny_mono (call w s₀ s₁ mg mb fa o pm cd doc a vs ns G Y ho (fd_plain hd) fM hmg hobj hints hlen hg) λr s' hq=>?_);obtain⟨rfl,h2,h3,h4⟩:=hq;exact⟨.inl ⟨.bool true,.bool true,[],rfl,λ_=>rfl,.bool true,uz l _,λ_=>⟨List.Pairwise.nil,λ_ hm=>(nomatch hm)⟩⟩,h2,h3,h4⟩
end Att
namespace L2
open PySem PySem.Spec PyProof.Rows
variable{P prog q:Program}{K:W.Frag}{N ON loose own:List Str}{mb mg:Str->Option Value}{base h h':Heap}{b elt iter tg:Expr}{o:HO}{t:String}{w:World}{CX:mQ}{C S a e f it p:Addr}{fd:FuncData}{name qual x:Str}{sp:Sp}{ns:List Int}{To d:Option Addr}{X:Cx}{st:Stmt}{osc scope:Scope}{env:Env}{cells:List (Str×Addr)}{α:Type}{M:Model}{E Q:Value->Shared->Prop}{es ifs:List Expr}{g:TG}{tc:TT}{te tl:TE}{pins:List (Addr×Obj)}{σ:St}{H H':Hp}{RR:Value->Addr->Result->Shared->Prop}{i j:Nat}{r:List V->Hp->VK->Prop}{ta:TA}{xs:List V}{items:Array Value}{ex fp:List Addr}{D:Ends}{cls:Value}{oe:Obj}
theorem kE:∀{vs:List Value} {ns:List Int},IntsAre vs ns->Vals (ns.map V.int) vs
 |_,_,.nil=>.nil
 |_,_,.cons n t h=>.cons ⟨t,rfl⟩ (kE h)
structure gR (q:Program) (K:W.Frag):Prop where
 nt:W.noTabs K=true
 nd:((bH K).map (·.2.1)).Nodup
 fd:∀x∈cZ,W.tabIn K x=none\/((recsOf q).find? (λe=>e.name == x)).isSome=true
theorem gR.at{mean:ExcName->Option Value}(L:gR q K)(T:Top q loose mean mg mb h)(X:K.In h):∀t∈bH K,W.CodeHd h t.1 t.2.1/\h.get? t.2.1=some (W.tabObj #[]):=λt ht=>by
 unfold bH at ht;obtain⟨x,hx,e⟩:=Lm.mp ht;obtain⟨p,e1,e2⟩:=IC.mp e;obtain⟨c,Pt⟩:=p;subst e2;rcases L.fd x hx with z|z
 ·rw[z] at e1;cases e1
 ·obtain⟨d,hd⟩:=Ln.mp z;exact W.tab_of T X hd e1
noncomputable def lQ:List (Addr×Addr×Str)->Addr->Option HO
 |[],_=>none
 |t::r,b=>if b=t.2.1 then some (.uH #[.str t.2.2 0]) else lQ r b
theorem fH{b:Addr}:∀{l:List (Addr×Addr×Str)},lQ l b=some o->∃t∈l,b=t.2.1/\o=.uH #[.str t.2.2 0]
 |t::r,e=>by
  unfold lQ at e;by_cases z:b=t.2.1
  ·rw[Ig z] at e;cases e;exact⟨t,.head _,z,rfl⟩
  ·rw[H_ z] at e;obtain⟨u,hu,q⟩:=fH e;exact⟨u,.tail _ hu,q⟩
theorem mS{t:Addr×Addr×Str}:∀{l:List (Addr×Addr×Str)},(l.map (·.2.1)).Nodup->t∈l->lQ l t.2.1=some (.uH #[.str t.2.2 0])
 |u::r,nd,m=>by
  obtain⟨n1,n2⟩:=JK.mp nd;unfold lQ;rcases Ih.mp m with rfl|m
  ·rw[Ig rfl]
  ·rw[H_ λz=>n1 (Jg.mpr ⟨t,m,z⟩)];exact mS n2 m
theorem wU{k:Nat}{fa:Addr}{s₁:Shared}{vs:List Value}
  (KX:K.In s₁.heap) (hns:s₁.heap.Ns mainGlobals mg) (hb:s₁.heap.Ns builtinsNs mb) (hbb:∀x:Str,x≠"__name__"->mb x=bootBuiltins x) (hlim:s₁.heap.NoLimit) (hbm:Dw mg s₁.heap)
  (hT:∀t∈bH K,W.CodeHd s₁.heap t.1 t.2.1/\s₁.heap.get? t.2.1=some (W.tabObj #[])) (L:gR q K) (hg:s₁.gens=#[])
  (ha:s₁.heap.get? a=some {cls:=.type "list",data:=.seq vs.toArray}) (hi:IntsAre vs ns) (hl:ns.length<=sizeLine) (hr:bj k callerA)
  (F:∀base:Heap,K.In base->base.Ns mainGlobals mg->d2 P w K mg base CX k fa fd [x] sp) (hbind:∀(s:Shared) (u:Value),BindsTo s fd ⟨[u],[]⟩ [(x,u)])
  (iM:∀H:Hp,True->bz K H a (ns.map V.int)->sp [.ref a] H (λv _=>v=.bl true) λ_ _ _=>False)
  (hCX:∀H e s',CX [] H s₁ (λ_ _ _=>False) e s'->False) :
  codeAny (model P w) callerA (.call (.ref fa) ⟨[.ref a],[]⟩) (λr s'=>r=.ok (.ret (.bool true))/\OldK s₁.heap s'.heap/\s'.os=s₁.os/\AllBare s'.gens) s₁:=by
 have rv:=kE hi;have lenV:=hi.length;have naT:∀t∈bH K,t.2.1≠a:=λt ht z=>by
  have e:=(hT t ht).2;rw[z,ha] at e;cases e
 let oS:Obj:={cls:=.type "list",data:=.seq vs.toArray}
 have core:∀S:Option HO,(S=none\/S=some (.hU oS (.lst (ns.map V.int))))->(S≠none->K.lookup a=none)->bz K (λb=>if b=a then S else lQ (bH K) b) a (ns.map V.int) ->
   codeAny (model P w) callerA (.call (.ref fa) ⟨[.ref a],[]⟩) (λr s'=>r=.ok (.ret (.bool true))/\OldK s₁.heap s'.heap/\s'.os=s₁.os/\AllBare s'.gens) s₁:=by
  intro S hS hK hSq;generalize hH:(λb=>if b=a then S else lQ (bH K) b)=H at hSq
  have hA:H a=S:=by rw[<- hH];exact Ig rfl
  have hB:∀b,b≠a->H b=lQ (bH K) b:=λb z=>by rw[<- hH];exact H_ z
  have free:∀{b:Addr} {o:Obj},s₁.heap.get? b=some o->o≠W.tabObj #[]->(b=a->S=none)->H b=none:=λ{b o} e hn hz=>by
   by_cases z:b=a
   ·rw[z,hA];exact hz z
   ·rw[hB b z]
    cases q:lQ (bH K) b with
    |none=>rfl
    |some u =>
     obtain⟨t,ht,e1,_⟩:=fH q;have e2:=(hT t ht).2;rw[<- e1,e] at e2;exact absurd (Option.some.inj e2) hn
  have nsK:∀{b:Addr} {m:Str->Option Value},s₁.heap.Ns b m->(ki s₁.heap H).Ns b m:=λ{b m} ⟨o,es,ep,e,d,r⟩=>⟨o,es,ep,gI e (free e (λz=>by rw[z] at d;cases d) λz=>by rw[z,ha] at e;cases e;cases d),d,r⟩
  have hKb:K.In (ki s₁.heap H):=λb o e=>gI (KX b o e) (free (KX b o e) (λz=>by
    have h2:=M1.mp L.nt (b,o) (W.mem_of_lookupK e);subst z;exact absurd (show false=true from h2) Il) λz=>by
    cases q:S with
    |none=>rfl
    |some u=>rw[z,hK (by rw[q];simp)] at e;cases e)
  have fM:∀t∈bH K,W.CodeHd (ki s₁.heap H) t.1 t.2.1:=λt ht=>by
   obtain⟨o,us,fl,tf,fg,tg,inF,tx,tt,e1,e2,r⟩:=(hT t ht).1;exact⟨o,us,fl,tf,fg,tg,inF,tx,tt,gI e1 (free e1 (λz=>by rw[z] at e2;cases e2) λz=>by rw[z,ha] at e1;cases e1;exact absurd (Value.type.inj e2) (by decide)),e2,r⟩
  have hbm':Dw mg (ki s₁.heap H):=by
   obtain⟨bm,ob,b1,b2,b3,b4,b5⟩:=hbm;exact⟨bm,ob,b1,b2,gI b3 (free b3 (λz=>by rw[z] at b4;cases b4) λz=>by rw[z,ha] at b3;cases b3;exact absurd (Value.type.inj b4) (by decide)),b4,b5⟩
  have aI:dz P w H s₁.heap:=λb u e=>by
   by_cases z:b=a
   ·rw[z,hA] at e;rcases hS with h0|h0
    ·rw[h0] at e;cases e
    ·rw[h0] at e;cases e;subst z;exact⟨ha,by rw[HY];exact hl,vs,_,rv,ha⟩
   ·rw[hB b z] at e;obtain⟨t,ht,e1,e2⟩:=fH e;subst e2;exact⟨#[],by rw[e1];exact (hT t ht).2,trivial,λpos cv c=>by cases (show (none:Option Value)=some cv from c)⟩
  have hM:Mod K mg (ki s₁.heap H):=⟨hKb,nsK hns,⟨mb,nsK hb,hbb⟩,let ⟨mc,h1,h2⟩:=hlim;⟨mc,nsK h1,h2⟩,fM,hbm'⟩
  have e0:qy P w K mg (ki s₁.heap H) callerA [] s₁ H:=⟨rfl,hM,λb o e=>yz e,Nx (tL _ _),trivial,λb hb=>absurd (show b∈([]:List Addr) from hb) (by simp),aI,.of_eq hg,λt ht=>⟨#[],by
   rw[hB _ (naT t ht),mS L.nd ht,Mb]⟩⟩
  refine LK ((F _ hKb (nsK hns)).run callerA [] s₁ H ⟨[.ref a],[]⟩ [.ref a] [.ref a] _ _ hr e0 (hbind s₁ (.ref a)) (.cons rfl .nil) (iM H trivial hSq)) λr s' h=>?_
  cases r with
  |error e=>exact (hCX H e s' h).elim
  |ok fl =>
   cases fl with
   |next=>exact False.elim h
   |brk=>exact False.elim h
   |cont=>exact False.elim h
   |ret u =>
    obtain⟨v,H',os,bare,un,hok',r',qv⟩:=h;have q':v=.bl true:=qv;subst q';obtain rfl:u=Value.bool true:=r';have each:∀b o,s₁.heap.get? b=some o->s'.heap.get? b=some o\/∃c,W.CodeHd s₁.heap c b/\o=W.tabObj #[]/\∃ps,s'.heap.get? b=some (W.tabObj ps):=λb o e=>by
     cases qb:H b with
     |none=>exact .inl (un.keep b o e qb (by intro z;exact absurd (show b∈([]:List Addr) from z) (by simp)) (by simp))
     |some u =>
      by_cases z:b=a
      ·rw[z,hA] at qb;rcases hS with h0|h0
       ·rw[h0] at qb;cases qb
       ·have z2:=un.gy a oS _ (by rw[hA,h0])
        obtain⟨e2,_⟩:=hok' a _ z2;rw[z,ha] at e;cases e;exact .inl (by rw[z];exact e2)
      ·have qt:=qb;rw[hB b z] at qt;obtain⟨t,ht,e1,e2⟩:=fH qt;obtain⟨h1,h2⟩:=hT t ht;rw[<- e1] at h1 h2;rw[e] at h2;cases h2;subst e2;obtain⟨more,e3⟩:=un.gc b _ qb;obtain⟨qs,e4,_⟩:=hok' b _ e3;exact .inr ⟨_,h1,rfl,qs,e4⟩
    refine⟨rfl,⟨λb o e=>?_,λb o e=>?_⟩,os,bare⟩
    ·rcases each b o e with z|⟨c,hc,z,ps,hp⟩
     ·exact .inl z
     ·subst z;exact .inr (.inl ⟨(hc.tab e).isCodeTable,rfl,#[],ps,rfl,by rw[Array.empty_append];exact hp⟩)
    ·rcases each b o e with z|⟨c,hc,z,ps,hp⟩
     ·exact⟨o,z⟩
     ·exact⟨_,hp⟩
 cases hk:K.lookup a with
 |some o =>
  have e:=KX a o hk;rw[ha] at e;cases e;exact core none (.inl rfl) (λz=>absurd rfl z) (.inr ⟨_,vs.toArray,_,hk,rfl,rfl,rfl,by rw[Im,lenV];exact hl,by simpa using rv⟩)
 |none=>exact core (some (.hU oS (.lst (ns.map V.int)))) (.inr rfl) (λ_=>hk) (.inl (.inr ⟨oS,Ig rfl⟩))
theorem yv{l:W.OpenLaw}{n k:Nat}{XP:(Str->Option Value)->Heap->Prop}{YP:World->Heap->Prop}{d:DefRec}{K:Params->W.Frag}{CX:World->mQ}{sp:World->Sp}
  (hn:l.most=some n) (hn2:n<=sizeLine) (hdf:d.params.defaults=[]) (hr:bj k callerA)
  (hY:∀(w:World) (h:Heap),YP w h->(K w.params).In h)
  (F:∀(w:World) (mg:Str->Option Value) (fa:Addr) (h:Heap),(K w.params).In h->h.Ns mainGlobals mg->mg d.name=some (.ref fa) ->
   ∃fd:FuncData,(∀(s:Shared) (u:Value),BindsTo s fd ⟨[u],[]⟩ [(x,u)]) /\
    ∀base:Heap,(K w.params).In base->base.Ns mainGlobals mg->d2 l.prog w (K w.params) mg base (CX w) k fa fd [x] (sp w))
  (iM:∀(w:World) (H:Hp) (a:Addr) (ns:List Int),ns.length<=n->True->bz (K w.params) H a (ns.map V.int)->sp w [.ref a] H (λv _=>v=.bl true) λ_ _ _=>False)
  (hCX:∀(w:World) (H:Hp) (s:Shared) (e:Value) (s':Shared),CX w [] H s (λ_ _ _=>False) e s'->False) (hL:∀(w:World) (h:Heap),(K w.params).In h->gR q (K w.params)) :
  W.WalkO q loose XP YP l.row.toRowW d [] (λf vs=>PySem.call f vs):=by
 refine Att.nj hn hdf λw s₀ s₁ mg mb fa o pm cd doc a vs ns G Y ho hd fM hmg hobj hints hlen hg=>?_;have KX:=hY w _ Y;obtain⟨fd,hb,hF⟩:=F w mg fa _ KX G.T.g hmg;have L:=hL w _ KX;exact wU KX G.T.g G.T.b G.T.builtins G.T.nolimit G.T.bmain (L.at G.T KX) L hg hobj hints (Ia hlen hn2) hr hF hb (λH hO hS=>iM w H a ns hlen hO hS) λH e s'=>hCX w H s₁ e s'
noncomputable def inClass(s:Stmt)(j:Nat):Stmt:=match s with
 |.ClassDef _ _ _ body _ _ _ _ _ _ _=>body.getD j (.Pass ⟨0,0,0,0⟩)
 |_=>.Pass ⟨0,0,0,0⟩
noncomputable def cI(s:Stmt):Arguments:=match s with
 |.FunctionDef _ a _ _ _ _ _ _ _ _=>a
 |_=>{posonlyargs:=[],args:=[],vararg:=none,kwonlyargs:=[],kw_defaults:=[],kwarg:=none,defaults:=[]}
noncomputable def bw(s:Stmt):List Stmt:=match s with
 |.FunctionDef _ _ b _ _ _ _ _ _ _=>b
 |_=>[]
noncomputable def af(s:Stmt):Scope:=match s with
 |.FunctionDef _ _ _ _ _ _ sc _ _ _=>sc
 |_=>{kind:=.function,names:=[],isGenerator:=false,isCoroutine:=false}
abbrev bf:mQ:=λ_ _ _ _ _ _=>False
abbrev E0:XK:=λ_ _ _=>False
theorem xZ:Passes bf X E0:=λ_ _ _ _ _ _ _ h=>h.elim
structure uF (K:W.Frag) (x qual:Str) (st:Stmt) (f:Addr) (fd:FuncData):Prop where
 ex:∃(oc:Value) (od:Option Addr) (kV doc pm:Value) (an:Option Addr) (cdv ct:Value) (osl:Array (Option Value)),
  fd=W.fnOf x qual (cI st) (bw st) (af st) .none kV doc pm an cdv ct/\K.lookup f=some ⟨oc,od,.func fd,osl⟩/\W.codeIn K cdv qual=true
 kp:W.keepIn K (.ref f)=true
section
variable {P:Program} {w:World} {K:W.Frag} {mg:Str->Option Value} {base:Heap}
theorem uF.ok{ps:List Str}{k:Nat}(F:uF K x qual st f fd)(S:ar N ps (af st))(len:∀vs H Q E,sp vs H Q E->vs.length=ps.length)
  (hbody:∀(cdv:Value) (A:Around) (outer:List Env) (s:Shared) (H:Hp) (vs:List V) (Q:VK) (E:XK),bj k (A.deeper (envOfC qual (af st) s.heap.objs.size f cdv))->sp vs H Q E ->
   ∃t,pj (i9 bf P w K mg base N qual (af st) f cdv A outer s H E).AG (bw st) t/\t {nx:=λ_ H'=>Q .aJ H',rt:=Q} (start N vs) H):d2 P w K mg base bf (k+1) f fd ps sp:=by
 obtain⟨oc,od,kV,doc,pm,an,cdv,ct,osl,rfl,lk,fM⟩:=F.ex;refine uJ lk fM S len λA outer s H vs Q E hr iM=>?_;obtain⟨t,h,q⟩:=hbody cdv A outer s H vs Q E hr iM;exact⟨t,h.AG,q⟩
theorem uF.binds{ps:List Str}(F:uF K x qual st f fd)
  (h:∀(kV doc pm:Value) (an:Option Addr) (cdv ct:Value) (us:List Value),us.length=ps.length->bindArgs (W.fnOf x qual (cI st) (bw st) (af st) .none kV doc pm an cdv ct) ⟨us,[]⟩=pure (ps.zip us)):Binds K fd ps []:=by
 obtain⟨oc,od,kV,doc,pm,an,cdv,ct,osl,rfl,lk,fM⟩:=F.ex;exact .all (h kV doc pm an cdv ct)
theorem j4{oc:Value}{od an:Option Addr}{osl:Array (Option Value)}{kV doc pm cdv ct:Value}(l:K.lookup f=some ⟨oc,od,.func (W.fnOf x qual (cI st) (bw st) (af st) .none kV doc pm an cdv ct),osl⟩)
  (c:W.codeIn K cdv qual=true) (k:W.keepIn K (.ref f)=true):uF K x qual st f (W.fnOf x qual (cI st) (bw st) (af st) .none kV doc pm an cdv ct):=⟨⟨oc,od,kV,doc,pm,an,cdv,ct,osl,rfl,l,c⟩,k⟩
end
theorem ba{A:Around}{k:Nat}(hr:bj k A):A.units+1<cLine:=Ja (Nat.add_le_add_left (by decide:1<=64) _) hr.units
section
variable {X:Cx}
theorem pv(i:Nat){pos:Pos}(hN:autoParam (X.N[i]?=some x) ℜ0)(hv:autoParam (Fs X.env.scope x) ℜ4)(hd:autoParam ((x ==("__debug__":Str))=false) ℜ1)
  (fM:autoParam ((x ==("__classdict__":Str))=false) ℜ1):PE X (.Name x pos) (jf i):=BY hN hv hd fM
end
noncomputable def jr(H H':Hp):Prop:=∀b o,H b=some o->H' b=some o
theorem jr.refl(H:Hp):jr H H:=λ_ _ h=>h
section
variable {κ:Type} [DecidableEq κ]
theorem zC{kvs:List (κ×V)}{k:κ}{v:V}(h:bS kvs k=some v):k∈kvs.map (·.1):=by
 have q:(kvs.any λkv=>decide (kv.1=k))=true:=by
  rw[e7,h]
  all_goals rfl
 obtain⟨p,hp,e⟩:=List.any_eq_true.mp q;exact Jg.mpr ⟨p,hp,Jh e⟩
end
noncomputable def cT(cells:List (Str×Addr)):List (Str×NameKind)->List (Str×Addr)->List (Str×Addr)
 |[],acc=>acc
 | (n,k)::r,acc=>if k=.free then cT cells r ((n,(cells.lookup n).getD 0)::acc) else cT cells r acc
theorem dQ(h:∀x∈scope.names,x.2=.free->∃c,env.cells.lookup x.1=some c):closureFor scope env=pure (cT env.cells scope.names []):=by
 have all:∀(l:List (Str×NameKind)) (acc:List (Str×Addr)),(∀x∈l,x.2=.free->∃c,env.cells.lookup x.1=some c) ->
   (forIn l acc λ(x:Str×NameKind) (cs:List (Str×Addr))=>(match x with | (name,kind)=>if (kind == NameKind.free)=true then (do let c <- cellOf env name;pure (ForInStep.yield ((name,c)::cs))) else pure (ForInStep.yield cs):Sem (ForInStep (List (Str×Addr)))))=(pure (cT env.cells l acc):Sem (List (Str×Addr))):=by
  intro l
  induction l with
  |nil=>intro acc _;rfl
  |cons x r ih =>
   intro acc hl;obtain⟨n,k⟩:=x;rw[LL];by_cases hk:k=.free
   ·subst hk;obtain⟨c,hc⟩:=hl (n,.free) Ij rfl;have e:cellOf env n=pure c:=by unfold cellOf;rw[hc]
    simp only[Ka,KG,e,cT,pure_bind];rw[ih _ λy hy=>hl y (Ik _ hy),hc];rfl
   ·have hb:(k == NameKind.free)=false:=by simpa using hk
    simp only[hb,Kg,Km,cT,hk,pure_bind];exact ih _ λy hy=>hl y (Ik _ hy)
 unfold closureFor;simp only[bind_pure];exact all scope.names [] h
theorem ip:∀{l:List (Str×NameKind)} {acc:List (Str×Addr)},(∀x∈l,x.2=.free->∃c,cells.lookup x.1=some c)->(∀x c,acc.lookup x=some c->cells.lookup x=some c) ->
  ∀x c,(cT cells l acc).lookup x=some c->cells.lookup x=some c
 |[],_,_,h,x,c,e=>h x c e
 | (n,k)::r,acc,hl,h,x,c,e=>by
  unfold cT at e;have hr:∀y∈r,y.2=.free->∃c,cells.lookup y.1=some c:=λy hy=>hl y (Ik _ hy)
  split at e
  ·rename_i hk;refine ip hr (λy d q=>?_) x c e;rw[JE] at q
   split at q
   ·rename_i hy;obtain⟨c',hc'⟩:=hl (n,k) Ij hk;have hy':y=n:=by simpa using hy
    subst hy';simp only[] at hc';rw[hc'] at q ⊢;exact q
   ·exact h y d q
  ·exact ip hr h x c e
theorem i3:∀{l:List (Str×NameKind)} {acc:List (Str×Addr)},(∃c,acc.lookup x=some c)->∃c,(cT cells l acc).lookup x=some c
 |[],_,h=>h
 | (n,k)::r,acc,h=>by
  unfold cT;split
  ·refine i3 ?_;rw[JE];split
   ·exact⟨_,rfl⟩
   ·exact h
  ·exact i3 h
theorem fD:∀{l:List (Str×NameKind)} {acc:List (Str×Addr)},(x,NameKind.free)∈l->∃c,(cT cells l acc).lookup x=some c
 |[],_,h=>by simp at h
 | (n,k)::r,acc,h=>by
  unfold cT;rcases Ih.mp h with e|h
  ·cases e;rw[Ig rfl];exact i3 ⟨(cells.lookup x).getD 0,by rw[JE];simp⟩
  ·split
   ·exact fD h
   ·exact fD h
noncomputable def ay(X:Cx)(scope:Scope)(N:List Str)(C:Addr)(s:Shared)(H:Hp)(fp:List Addr):Cx where
 prog:=X.prog
 w:=X.w
 K:=X.K
 mg:=X.mg
 base:=X.base
 A:=X.A
 N:=N
 s₀:=s
 H₀:=H
 env:=compEnvC scope (cT X.env.cells scope.names []) C X.env
 outer:=X.stack
 stack:=X.stack
 ex:=fp
 calm:=X.calm
 fn:=λ_=>false
 pn:=[]
 xe:=λ_ _=>False
structure aG (osc:Scope) (ON:List Str) (scope:Scope) (own N:List Str):Prop where
 kind:scope.kind=.function
 nd:N.Nodup
 len:N.length=own.length+ON.length
 jc:∀y∈scope.names,y.2≠.cell
 loc:∀y∈scope.names,y.2=.local->scope.names.lookup y.1=some .local
 free:∀y∈scope.names,y.2=.free->osc.names.lookup y.1=some .cell\/osc.names.lookup y.1=some .free
 out:∀p∈ON.zip (N.drop own.length),p.1=p.2\/scope.names.lookup p.2=none
 own:∀x∈N.drop own.length,scope.names.lookup x≠some .local
theorem cw(x:Str)(hn:∀y∈scope.names,y.2≠.cell):((relabel scope env).names.lookup x=some .local->scope.names.lookup x=some .local) /\
  ((relabel scope env).names.lookup x=some .cell\/(relabel scope env).names.lookup x=some .free->scope.names.lookup x=some .free):=by
 unfold relabel;simp only;revert hn;generalize scope.names=l;intro hn
 induction l with
 |nil=>simp
 |cons y r ih =>
  obtain⟨n,k⟩:=y;have ih:=ih λy hy=>hn y (Ik _ hy);have hk:k≠.cell:=hn (n,k) Ij;rw[IA];simp only;by_cases hc:(k == NameKind.free && env.scope.kind == ScopeKind.function && env.kindOf n == some NameKind.cell)=true
  ·rw[Ig hc,JE,JE];have hf:k=.free:=by
    simp only[Jq] at hc
    simpa using hc.1.1
   split
   ·subst hf;simp
   ·exact ih
  ·rw[H_ hc,JE,JE];split
   ·constructor
    ·exactλh=>h
    ·rintro (h|h)
     ·exact absurd (Option.some.inj h) hk
     ·exact h
   ·exact ih
noncomputable def zP(X:Cx)(ifs:List Expr)(t:TT):Prop:=
 ∀(pins:List (Addr×Obj)) (s:Shared) (σ:St) (H:Hp) (Q:Bool->Hp->Prop),Inv X pins σ H s->t σ H Q ->
  wpAny (model X.prog X.w) X.A (forIn ifs true λc r=>if r=true then do let ok <- isTrue c X.env (eval c X.env);pure (ForInStep.yield ok) else pure (ForInStep.yield r)) (TP X pins σ Q) X.xe s
noncomputable def eQ:TT:=λ_ H Q=>Q true H
theorem zB:zP X [] eQ:=λ_ _ _ H _ I h=>wpAny_tests_nil ⟨H,I,h⟩
theorem zS{c:Expr}{t:TT}(h:PT X c t):zP X [c] t:=λpins s σ H Q I hw=>wpAny_tests_one (h pins s σ H Q I hw)
theorem sF{A:Around}{s:Shared}{m:Sem α}{Q' Q:α->Shared->Prop}(h:wpAny M A m Q' (λ_ _=>False) s)(k:∀x s',Q' x s'->Q x s'):wpAny M A m Q E s:=IZ h k λ_ _ z=>z.elim
theorem kq{A:Around}{R:Result->Shared->Prop}{s:Shared}{target:Expr}{pos:Pos}{it acc:Value}{XE:Value->Shared->Prop}(I:Nat->Shared->Prop)(hx:∀x s',XE x s'->notedBy (model prog w) A env (λv s''=>R (.error v) s'') x s')
  (turn:∀n s,I n s->wpAny (model prog w) A (pyNext it) (λr s₁=>match r with
   |none=>R (.ok .next) s₁
   |some v=>wpAny (model prog w) A (letOwnedTupleGo target it v) (λ_ s₁'=>wpAny (model prog w) A (assign target env v) (λ_ s₂ =>
     wpAny (model prog w) A (forIn ifs true λc r=>if r=true then do let ok <- isTrue c env (eval c env);pure (ForInStep.yield ok) else pure (ForInStep.yield r)) (λok s₃ =>
      if ok=true then wpAny (model prog w) A (eval elt env) (λx s₄ =>
       wpAny (model prog w) A (call (.builtin "list.append") [acc,x]) (λ_ s₅=>∃m,m<n/\I m s₅) XE s₄) XE s₃
      else ∃m,m<n/\I m s₃) XE s₂) XE s₁') XE s₁) XE s)
  (n:Nat) (h:I n s):codeAny (model prog w) A (.compLoop (.ListComp elt [⟨target,iter,ifs,0⟩] scope pos) 0 it acc env) R s:=by
 refine codeAny_loop rfl I (λn s hI=>?_) n h;show wpAny _ A ((compTurn (.ListComp elt [⟨target,iter,ifs,0⟩] scope pos) 0 it acc env).onRaise (λx=>do noteFrame x env;theTreesLotGoes x)) _ _ s
 refine wpAny_noted ?_;rw[compTurn_list];refine HU (La (HU (IZ (turn n s hI) (λr s₁ h₁=>?_) hx)))
 cases r with
 |none=>exact Ii h₁
 |some v =>
  refine HU (IZ h₁ (λ_ s₁' h₁'=>?_) hx);refine HU (IZ h₁' (λ_ s₂ h₂=>HU (IZ h₂ (λok s₃ h₃=>?_) hx)) hx)
  cases ok with
  |false=>exact Ii ⟨rfl,h₃⟩
  |true =>
   exact HU (HU (IZ h₃ (λx s₄ h₄=>HU (IZ h₄ (λ_ s₅ h₅=>Ii (Ii ⟨rfl,h₅⟩)) hx)) hx))
noncomputable def dZ(wi:TI)(k:Nat)(g:TG)(tc:TT)(te:TE):TE:=λσ H Q=>wi σ H λJ H1=>∀D,H1 D=none ->
 ∃W:Nat->Nat->List V->St->Hp->Prop,(∃m,W 0 m [] (List.replicate k none++σ) (upd H1 D (.lst [])))/\∀i m ys σ' H',W i m ys σ' H'->H' D=some (.lst ys) /\
  ((J.stop i H'/\Q (.ref D) H')\/(J.go i H'/\ys.length<sizeLine/\∀x H2,J.AV i H' x H2->g x σ' H2 λσ3 H3=>tc σ3 H3 λb H4 =>
   if b=true then te σ3 H4 λv H5=>H5 D=some (.lst ys)/\∃m',m'<m/\W (i+1) m' (ys++[v]) σ3 (upd H5 D (.lst (ys++[v])))
   else ∃m',m'<m/\W (i+1) m' ys σ3 H4))
theorem jT{pos:Pos}{wi:TI}(S:aG osc ON scope own N)(hosc:X.env.scope=osc)(hON:X.N=ON)(hc:X.calm=true)(hi:PI X tg iter wi)
  (hg:∀C s H fp,PG (ay X scope N C s H fp) tg g) (ht:∀C s H fp,zP (ay X scope N C s H fp) ifs tc) (XE:Addr->Shared->Hp->List Addr->Value->Shared->Prop)
  (he:∀C s H fp pins s' σ' H' Q',(∀b∈fp,∃o,(b,o)∈pins)->Inv (ay X scope N C s H fp) pins σ' H' s'->te σ' H' Q'->wpAny (model X.prog X.w) X.A (eval elt (ay X scope N C s H fp).env) (EP (ay X scope N C s H fp) pins σ' Q') (XE C s H fp) s')
     {s:Shared} {Q:VK} (I:Inv X pins σ H s) (h:dZ wi own.length g tc te σ H Q) 
  (fin:∀(D C:Addr) (H':Hp) (s':Shared) (m:Str->Option Value),Inv X pins σ H' s'->Q (.ref D) H'->H' C=none->X.s₀.heap.objs.size<=C->C≠X.env.locals->(∀x c,X.env.cells.lookup x=some c->c≠C)->(∀p∈X.pn++pins,p.1≠C) ->
   s'.heap.Ns C m->RR (.ref D) C (.ok .next) s')
  (hx:∀(D C:Addr) (s3:Shared) (H3:Hp) (fp:List Addr),C=s3.heap.objs.size->Inv X pins σ H3 s3->(∀{pins':List (Addr×Obj)} {σ':St} {H':Hp} {s':Shared},Inv (ay X scope N C s3 H3 fp) pins' σ' H' s'->Inv X pins σ H' s') ->
   X.s₀.heap.objs.size<=C->C≠X.env.locals->(∀x c,X.env.cells.lookup x=some c->c≠C)->(∀p∈X.pn++pins,p.1≠C)->∀x s',XE C s3 H3 fp x s'->notedBy (model X.prog X.w) X.A (ay X scope N C s3 H3 fp).env (λv s''=>RR (.ref D) C (.error v) s'') x s') :
  wpAny (model X.prog X.w) X.A (eval iter X.env) (λx s₁=>wpAny (model X.prog X.w) X.A (pyIter x) (λit s₂=>wpAny (model X.prog X.w) X.A (newList []) (λacc s₃ =>
   wpAny (model X.prog X.w) X.A (newFunctionEnv scope X.env.globals (cT X.env.cells scope.names []) [] X.env.qual none .none (some X.env)) (λcenv s₄ =>
    codeAny (model X.prog X.w) X.A (.compStart (.ListComp elt [⟨tg,iter,ifs,0⟩] scope pos) 0 it acc {cenv with scope:=relabel scope X.env}) (RR acc cenv.locals) s₄) X.xe s₃) X.xe s₂) X.xe s₁) X.xe s:=by
 refine bD (hi pins s σ H _ I h) λv s1 h1=>bD h1 λitv s2 h2=>?_;obtain⟨it,fp,tn,J,H2,e,I2,T,st2,f2,q⟩:=h2;subst e;refine J6 (wpAny_newFunctionEnv S.jc (by intro y hy;simp at hy) (λh₁ hns₁ hsb₁=>?_) S.kind)
 dsimp only at hns₁ hsb₁ ⊢;have I3:Inv X pins σ (upd H2 s2.heap.objs.size (.lst [])) {s2 with heap:=s2.heap.push {cls:=.type "list",data:=.seq ([]:List Value).toArray},toks:=s2.toks}:=I2.DG (t':=s2.toks) .nil (Nat.zero_le _)
 have hD2:H2 s2.heap.objs.size=none:=I2.fresh;obtain⟨W,⟨m0,w0⟩,turn⟩:=q _ hD2;generalize hs3:({s2 with heap:=s2.heap.push {cls:=.type "list",data:=.seq ([]:List Value).toArray},toks:=s2.toks}:Shared)=s3 at I3
 have eh3:s3.heap=s2.heap.push {cls:=.type "list",data:=.seq ([]:List Value).toArray}:=by rw[<- hs3]
 generalize hD:s2.heap.objs.size=D at I3 turn w0 hD2 ⊢;generalize hH3:upd H2 D (.lst [])=H3 at I3 w0;rw[<- eh3] at hns₁ hsb₁ ⊢;have hC3:H3 s3.heap.objs.size=none:=I3.fresh;have hsz3:s3.heap.objs.size=D+1:=by rw[eh3,JI,hD]
 have fp2:∀b∈fp,b<s2.heap.objs.size:=λb hb=>by
  obtain⟨o,e,_⟩:=T.obj _ _ st2 b hb;exact Io e
 have f3:∀b∈fp,jd X pins H3 b:=λb hb=>by
  obtain⟨g0,g1⟩:=f2 b hb;refine⟨?_,g1⟩;rw[<- hH3,ae (by rw[<- hD];exact Iz (fp2 b hb))]
  exact g0
 have neC:∀b o,s3.heap.get? b=some o->b≠s3.heap.objs.size:=λb o e=>Iz (Io e);have old:∀b o,s3.heap.get? b=some o->h₁.get? b=some o:=λb o e=>hsb₁.extBut b o (neC b o e) (HW _ e);have hk:=S.kind;have hfr:∀y∈scope.names,y.2=.free->∃c,X.env.cells.lookup y.1=some c:=λy hy hf=>I3.ok.has _ (by subst hosc;exact S.free y hy hf)
 have sub:=ip (acc:=[]) hfr (by intro x c e;simp at e)
 have JB:∀tk,Inv (ay X scope N s3.heap.objs.size s3 H3 fp) [] (List.replicate own.length none++σ) H3 {s3 with heap:=h₁,toks:=tk}:=λtk=>by
  refine⟨⟨I3.ok.mod,S.kind,I3.ok.glob,I3.ok.blt,Ib _,λx y c e1 e2=>I3.ok.inj x y c (sub x c e1) (sub y c e2),λx hx=>?_,λx c hf _=>(by cases hf),I3.ok.hd,I3.ok.frames,.inl rfl,λb hb=>?_,I3.bs,Ia I3.ok.pd I3.sz,λb o e hb=>?_,λb hb hf=>?_,I3.stack,I3.iR,I3.ok.tabs.un I3.base⟩,
   rfl,I3.bare,Un.kept old,⟨_,hns₁,λi x v e1 e2 e3=>?_⟩,λx c e=>?_,hC3,λx c e=>I3.bW x c (sub x c e),λp hp=>absurd (show p∈([]:List (Addr×Obj)) from hp) (by simp),I3.aI.kept old,?_⟩
  ·have q:=(cw (env:=X.env) x S.jc).2 hx;exact fD (PySem.mem_of_lookup q)
  ·have hb:b∈fp:=hb;obtain⟨_,g1,g2,g3,g4,g5⟩:=f3 b hb;refine⟨?_,λx c e=>g4 x c (sub x c e)⟩;have:=fp2 b hb;show b≠s3.heap.objs.size;rw[hsz3,<- hD];exact Iz (K9 this)
  ·have hb:b∈fp:=hb;obtain⟨_,g1,g2,g3,g4,g5⟩:=f3 b hb;rcases g3 with g3|g3
   ·exact I3.ok.jP b o e g3
   ·exact absurd (ID (Io e) (Ia I3.ok.pd g3)) (JN _)
  ·have hb:b∈fp:=hb;obtain⟨_,g1,g2,g3,g4,g5⟩:=f3 b hb;rcases Ih.mp (I3.j0 b hf) with z|z
   ·exact g1 z
   ·exact g2 z
  ·have hi:own.length<=i:=by
    rcases Jb i own.length with hlt|hge
    ·rw[IJ (by simpa using hlt),MG] at e2
     split at e2<;>cases e2
    ·exact hge
   rw[IG (by simpa using hi),Iu] at e2
   have e1:N[own.length+(i-own.length)]?=some x:=by rw[Nat.add_sub_cancel' hi];exact e1
   have e1d:(N.drop own.length)[i-own.length]?=some x:=by rw[JF];exact e1
   have nl:scope.names.lookup x≠some .local:=S.own x (Jw e1d);have vis:scope.names.lookup x=some .free:=by
    rcases e3 with z|z
    ·exact absurd ((cw (env:=X.env) x S.jc).1 z) nl
    ·exact (cw (env:=X.env) x S.jc).2 z
   have hlen:=I3.len;have hlt:i-own.length<X.N.length:=by
    rw[<- hlen];exact (HZ.mp e2).1
   have hxN:X.N[i-own.length]?=some x:=by
    rw[HV hlt];have mz:(X.N[i-own.length],x)∈ON.zip (N.drop own.length):=by
     rw[<- hON];refine Jw (i:=i-own.length) ?_;rw[List.getElem?_zip_eq_some];exact⟨HV hlt,e1d⟩
    rcases S.out _ mz with z|z
    ·exact IW some z
    ·exact absurd z (by rw[vis];simp)
   have hko:X.env.scope.names.lookup x=some .cell\/X.env.scope.names.lookup x=some .free:=by subst hosc;exact S.free _ (PySem.mem_of_lookup vis) rfl
   obtain⟨m,hn,hl⟩:=I3.loc;have hv:Fs X.env.scope x:=by
    rcases hko with z|z
    ·exact .inr (.inl z)
    ·exact .inr (.inr z)
   obtain⟨u,ru,lk⟩:=hl _ x v hxN e2 hv;refine⟨u,ru,.inr ⟨?_,?_⟩⟩
   ·rcases e3 with z|z
    ·exact absurd ((cw (env:=X.env) x S.jc).1 z) nl
    ·exact z
   ·rcases lk with ⟨k,_⟩|⟨_,c,ec,hcell⟩
    ·exfalso
     have k':X.env.scope.names.lookup x=some .local:=k;rcases hko with z|z
     ·rw[k'] at z;cases z
     ·rw[k'] at z;cases z
    ·obtain⟨c',ec'⟩:=fD (cells:=X.env.cells) (acc:=[]) (PySem.mem_of_lookup vis);have:=sub x c' ec';rw[ec] at this;cases this;obtain⟨o,ho,hd⟩:=hcell;exact⟨c,ec',o,old c o ho,hd⟩
  ·obtain⟨v,o,ho,hd⟩:=I3.cell x c (sub x c e);exact⟨v,o,old c o ho,hd⟩
  ·show (List.replicate own.length none++σ).length=N.length;rw[S.len,HX,Iu,I3.len,hON]
 have stat:∀{H':Hp},(∀b∈fp,H' b=none)->∀b∈fp,jd (ay X scope N s3.heap.objs.size s3 H3 fp) [] H' b:=λ{H'} hn b hb=>by
  obtain⟨_,g1,g2,g3,g4,g5⟩:=f3 b hb;refine⟨hn b hb,?_,λhf=>?_,.inl hb,λx c e=>g4 x c (sub x c e),λp hp=>absurd (show p∈([]:List (Addr×Obj)) from hp) (by simp)⟩
  ·have:=fp2 b hb;show b≠s3.heap.objs.size;rw[hsz3,<- hD];exact Iz (K9 this)
  ·rcases Ih.mp (I3.j0 b hf) with z|z
   ·exact g1 z
   ·exact g2 z
 have st4:tn 0 h₁:=T.keep _ _ _ st2 λb hb o e=>old b o (by rw[eh3];exact HW _ e)
 have o3:∀x c,X.env.cells.lookup x=some c->c≠s3.heap.objs.size:=λx c e z=>by
  obtain⟨v,o,ho,_⟩:=I3.cell x c e;exact absurd (Io ho) (by rw[z];exact JN _)
 have o4:∀p∈X.pn++pins,p.1≠s3.heap.objs.size:=λp hp z=>absurd (Io (I3.pin p hp).1) (by rw[z];exact JN _)
 have outI:∀{pins':List (Addr×Obj)} {σ':St} {H':Hp} {s':Shared},Inv (ay X scope N s3.heap.objs.size s3 H3 fp) pins' σ' H' s'->Inv X pins σ H' s':=λI6=>by
  refine I3.xX (ch:=fp) I6.os I6.base I6.aI I6.bare λb hb=>?_;obtain⟨_,g1,g2,g3,g4,g5⟩:=f3 b hb;exact⟨g3,g1,g4,g5⟩
 have loop:∀s4:Shared,s4={s3 with heap:=h₁,toks:=s2.toks+([]:List (Str×Value)).length} ->
   codeAny (model X.prog X.w) X.A (.compLoop (.ListComp elt [⟨tg,iter,ifs,0⟩] scope pos) 0 (.ref it) (.ref D) (ay X scope N s3.heap.objs.size s3 H3 fp).env) (RR (.ref D) s3.heap.objs.size) s4:=by
  rintro s4 rfl;refine kq (XE:=XE s3.heap.objs.size s3 H3 fp) (λn s'=>∃i ys σ' H',Inv (ay X scope N s3.heap.objs.size s3 H3 fp) [] σ' H' s'/\tn i s'.heap/\(∀b∈fp,H' b=none)/\W i n ys σ' H') (hx D _ s3 H3 fp rfl I3 outI I3.sz (JM I3.lt) o3 o4) ?_ m0 ⟨0,[],_,H3,JB _,st4,λb hb=>(f3 b hb).1,w0⟩;rintro n s5 ⟨i,ys,σ5,H5,I5,st5,fr5,w5⟩;obtain⟨hD5,ways⟩:=turn i n ys σ5 H5 w5;rcases ways with ⟨stop,qn⟩|⟨go,hys,step⟩
  ·refine sF (T.done (ay X scope N s3.heap.objs.size s3 H3 fp) rfl rfl rfl hc i [] s5 σ5 H5 _ I5 (stat fr5) st5 stop) λr s6 hq1=>?_;obtain⟨hr,I6⟩:=hq1;subst hr;obtain⟨m,hn,_⟩:=I6.loc;exact fin D _ H5 s6 m (outI I6) qn I6.free I3.sz (JM I3.lt) o3 o4 hn
  ·refine sF (T.item (ay X scope N s3.heap.objs.size s3 H3 fp) rfl rfl rfl hc i [] s5 σ5 H5 _ I5 (stat fr5) st5 go) λr s6 hq2=>?_;obtain⟨u,hr,h6⟩:=hq2;subst hr;refine sF h6 λ_ s7 hq3=>?_;obtain⟨x,H7,I7,r7,y7,st7,fr7⟩:=hq3;have I7':=I7.pinned (stat fr7) (T.obj _ _ st7);have back:∀{σ8:St} {H8:Hp} {s8:Shared},Inv (ay X scope N s3.heap.objs.size s3 H3 fp) ([]++i7 fp s7.heap) σ8 H8 s8->tn (i+1) s8.heap/\∀b∈fp,H8 b=none:=λ{σ8 H8 s8} I8=>by
    refine⟨T.keep _ _ _ st7 λb hb o e=>(I8.pin (b,o) (Iy _ (Iy _ (dc hb e)))).1,λb hb=>?_⟩;obtain⟨o,e,d⟩:=T.obj _ _ st7 b hb;exact (I8.pin (b,o) (Iy _ (Iy _ (dc hb e)))).2.1
   have hcov:∀b∈fp,∃o,(b,o)∈([]:List (Addr×Obj))++i7 fp s7.heap:=λb hb=>by
    obtain⟨o,e,_⟩:=T.obj _ _ st7 b hb;exact⟨o,Iy _ (dc hb e)⟩
   refine sF (hg _ _ _ _ _ s7 σ5 H7 x u _ I7' r7 (step x H7 y7)) λ_ s8 hq4=>?_;obtain⟨σ8,H8,I8,q8⟩:=hq4;refine sF (ht _ _ _ _ _ s8 σ8 H8 _ I8 q8) λok s9 hq5=>?_;obtain⟨H9,I9,q9⟩:=hq5
   cases ok with
   |false =>
    rw[H_ (by simp)] at q9 ⊢
    obtain⟨m',hm,w9⟩:=q9;exact⟨m',hm,i+1,ys,σ8,H9,I9.f7,(back I9).1,(back I9).2,w9⟩
   |true =>
    rw[Ig rfl] at q9 ⊢;refine bD (he _ _ _ _ _ s9 σ8 H9 _ hcov I9 q9) λy s10 hq6=>?_;obtain⟨v10,H10,I10,r10,hD10,m',hm,w10⟩:=hq6;refine sF (kZ _ s10 σ8 H10 (.ref D) [v10] (.ref D) [y] (λr H11=>r=.aJ/\H11=upd H10 D (.lst (ys++[v10]))) I10 rfl (.cons r10 .nil) ⟨D,ys,v10,rfl,rfl,hD10,hys,rfl,rfl⟩) λ_ s11 hq7=>?_;obtain⟨_,H11,I11,_,_,e11⟩:=hq7;subst e11;exact⟨m',hm,i+1,_,σ8,_,I11.f7,(back I11).1,(back I11).2,w10⟩
 have start:=codeAny_compStart_list (R:=RR (.ref D) s3.heap.objs.size) (loop _ rfl) (T.self X.A 0 _ _ _ st4 (loop _ rfl));subst hs3;exact start
theorem lB{pos:Pos}{wi:TI}(S:aG osc ON scope own N)(hosc:X.env.scope=osc)(hON:X.N=ON)(hc:X.calm=true)(hi:PI X tg iter wi)
  (hg:∀C s H fp,PG (ay X scope N C s H fp) tg g) (ht:∀C s H fp,zP (ay X scope N C s H fp) ifs tc) (he:∀C s H fp,PE (ay X scope N C s H fp) elt te)
     {s:Shared} {Q:VK} (I:Inv X pins σ H s) (h:dZ wi own.length g tc te σ H Q) 
  (fin:∀(D C:Addr) (H':Hp) (s':Shared) (m:Str->Option Value),Inv X pins σ H' s'->Q (.ref D) H'->H' C=none->X.s₀.heap.objs.size<=C->C≠X.env.locals->(∀x c,X.env.cells.lookup x=some c->c≠C)->(∀p∈X.pn++pins,p.1≠C) ->
   s'.heap.Ns C m->RR (.ref D) C (.ok .next) s') :
  wpAny (model X.prog X.w) X.A (eval iter X.env) (λx s₁=>wpAny (model X.prog X.w) X.A (pyIter x) (λit s₂=>wpAny (model X.prog X.w) X.A (newList []) (λacc s₃ =>
   wpAny (model X.prog X.w) X.A (newFunctionEnv scope X.env.globals (cT X.env.cells scope.names []) [] X.env.qual none .none (some X.env)) (λcenv s₄ =>
    codeAny (model X.prog X.w) X.A (.compStart (.ListComp elt [⟨tg,iter,ifs,0⟩] scope pos) 0 it acc {cenv with scope:=relabel scope X.env}) (RR acc cenv.locals) s₄) X.xe s₃) X.xe s₂) X.xe s₁) X.xe s:=
 jT S hosc hON hc hi hg ht (λ_ _ _ _ _ _=>False) (λC s H fp pins s' σ' H' Q' _ I h=>he C s H fp pins s' σ' H' Q' I h) I h fin λ_ _ _ _ _ _ _ _ _ _ _ _ _ _ z=>z.elim
theorem yu{pos:Pos}{wi:TI}(S:aG osc ON scope own N)(hosc:X.env.scope=osc)(hON:X.N=ON)(hc:X.calm=true)(hi:PI X tg iter wi)
  (hg:∀C s H fp,PG (ay X scope N C s H fp) tg g) (ht:∀C s H fp,zP (ay X scope N C s H fp) ifs tc) (he:∀C s H fp,PE (ay X scope N C s H fp) elt te)
  (hs:autoParam (∀x,foldedSetIterable iter X.env x=pure x) ℜ3) :
  PE X (.ListComp elt [⟨tg,iter,ifs,0⟩] scope pos) (dZ wi own.length g tc te):=by
 intro pins s σ H Q I h;have hfr:∀y∈scope.names,y.2=.free->∃c,X.env.cells.lookup y.1=some c:=λy hy hf=>I.ok.has _ (by subst hosc;exact S.free y hy hf)
 rw[eval_ListComp];refine Lr (use:=none) rfl hs (dQ hfr) S.kind S.loc ?_;refine lB S hosc hON hc hi hg ht he I h (RR:=λacc C=>compPost (model X.prog X.w) X.A X.xe none (EP X pins σ Q) acc C) ?_;intro D C H' s' m I' q h1 h2 h3 h4 h5 hn;exact⟨m,hn,λh'' hs''=>⟨.ref D,H',I'.turned (t':=s'.toks) (λb o hb e=>(hs''.2 b hb).trans e) h1 h3 (.inr h2) h4 h5,rfl,q⟩⟩
theorem qj{pos spos py:Pos}{wi:TI}{y:Str}(hN:X.N.Nodup)(hj:X.N[j]?=some y)(hx:Loc X.env.scope y)(S:aG osc ON scope own N)(hosc:X.env.scope=osc)(hON:X.N=ON)(hc:X.calm=true)(hi:PI X tg iter wi)
  (hg:∀C s H fp,PG (ay X scope N C s H fp) tg g) (ht:∀C s H fp,zP (ay X scope N C s H fp) ifs tc) (he:∀C s H fp,PE (ay X scope N C s H fp) elt te)
  (hsw:autoParam (swapsWith (.ListComp elt [⟨tg,iter,ifs,0⟩] scope pos) (some (.Name y py)) spos.line X.env=pure true) ℜ0)
  (hf:autoParam (X.fn y=true\/X.env.scope.names.lookup y=some .local) ℜ2)
  (hs:autoParam (∀x,foldedSetIterable iter X.env x=pure x) ℜ3) :
  PS X (.Assign [.Name y py] (.ListComp elt [⟨tg,iter,ifs,0⟩] scope pos) spos) (jB (dZ wi own.length g tc te) (aQ j)):=by
 intro pins s σ H Dn I h;have hfr:∀y∈scope.names,y.2=.free->∃c,X.env.cells.lookup y.1=some c:=λy hy hf=>I.ok.has _ (by subst hosc;exact S.free y hy hf)
 rw[exec_Assign_Name_used _ _ _ _ hsw];refine HU (La (HU ?_));show wpAny _ X.A (do let _ <- comprehension (.ListComp elt [⟨tg,iter,ifs,0⟩] scope pos) scope X.env _ (newList []) false (eval iter X.env) (some (assign (.Name y py) X.env))) _ _ s
 refine HU (IZ (Lr (use:=some (assign (.Name y py) X.env)) (Q:=λ_ s'=>SP X pins Dn .next s') rfl hs (dQ hfr) S.kind S.loc ?_) (λ_ s' hq=>Ii (Ii hq)) λ_ _ e=>e);refine lB S hosc hON hc hi hg ht he I h (RR:=λacc C=>compPost (model X.prog X.w) X.A X.xe (some (assign (.Name y py) X.env)) (λ_ s'=>SP X pins Dn .next s') acc C) ?_;intro D C H' s' m I' q h1 h2 h3 h4 h5 hn;show wpAny _ X.A (assign (.Name y py) X.env (.ref D)) _ _ _;refine wpAny_assign_Name (kK I' hN hj hx (v:=.ref D) rfl (λs'' I'' hsb=>?_) hf);obtain⟨a,sb,ha⟩:=hsb;have nC:C≠a:=by
  rcases ha with ha|ha
  ·rw[ha];exact h3
  ·exact (h4 y a ha).symm
 exact⟨m,hn.sameBut sb nC,λh'' hs''=>⟨_,H',I''.turned (t':=s''.toks) (λb o hb e=>(hs''.2 b hb).trans e) h1 h3 (.inr h2) h4 h5,q⟩⟩
noncomputable def cG(e:Expr):Bool:=match e with
 |.Starred ..=>false
 |_=>true
theorem bF{e:Expr}(h:cG e=true):starEach (e::es) env=(false,eval e env)::starEach es env:=by
 cases e<;>first|rfl|cases h
theorem plain_any{pos:Pos}:∀{es:List Expr},es.all cG=true->(backTo pos (starEach es env)).any (·.1)=false
 |[],_=>rfl
 |e::es,h=>by
  rw[JO,Jq] at h;rw[bF h.1];show (false || (backTo pos (starEach es env)).any (·.1))=false;rw[plain_any h.2];rfl
theorem plain_all{pos:Pos}:∀{es:List Expr},es.all cG=true->(backTo pos (starEach es env)).all (λx=>!x.1)=true
 |[],_=>rfl
 |e::es,h=>by
  rw[JO,Jq] at h;rw[bF h.1];show (true && (backTo pos (starEach es env)).all (λx=>!x.1))=true;rw[plain_all h.2];rfl
theorem BO{cpos:Pos}{e:Expr}(h:(e::es).all cG=true)(hl:(e::es).length<30):
  ((backTo cpos (starEach (e::es) env)).all (λx=>!x.1) && (backToKw cpos (keywordEach [] env)).all (λx=>x.1.isSome) && decide ((e::es).length+([]:List Keyword).length+(if ([]:List Keyword).isEmpty then 0 else 1)<30))=true:=by
 rw[plain_all h];have e2:(backToKw cpos (keywordEach [] env)).all (λx=>x.1.isSome)=true:=rfl;rw[e2];have e3:(e::es).length+([]:List Keyword).length+(if ([]:List Keyword).isEmpty then 0 else 1)<30:=hl
 rw[IM e3];rfl
section
variable {X:Cx} {e:Expr} {es:List Expr} {te:TE} {t:TA}
theorem Gs(ha:PE X e te)(hr:PA X es t)(h:autoParam (cG e=true) ℜ0):PA X (e::es) (gS te t):=iW ha hr (bF h)
theorem El{id:String}{p pos:Pos}(hc:bc X (.builtin id) r)(hg:Gl X x)(hm:X.mg x=none)(hv:bootBuiltins x=some (.builtin id))(ha:PA X (e::es) t)(h1:autoParam (cG e=true) ℜ0)(h2:autoParam (es.all cG=true) ℜ0)(hn:autoParam (x≠"__name__") ℜ1)(hdb:autoParam ((x ==("__debug__":Str))=false) ℜ1):
  PE X (.Call (.Name x p) (e::es) [] pos) (zE r t):=yh hc hg hm hv ha hn hdb (bF h1) (plain_any h2)
theorem Fq{T:String}{p pos:Pos}(hc:bc X (.type T) r)(hg:Gl X x)(hm:X.mg x=none)(hv:bootBuiltins x=some (.type T))(ha:PA X (e::es) t)(h1:autoParam (cG e=true) ℜ0)(h2:autoParam (es.all cG=true) ℜ0)(hn:autoParam (x≠"__name__") ℜ1)(hdb:autoParam ((x ==("__debug__":Str))=false) ℜ1):
  PE X (.Call (.Name x p) (e::es) [] pos) (zE r t):=sO hc hg hm hv ha hn hdb (bF h1) (plain_any h2)
theorem Dm{o:Expr}{to:TE}{apos cpos:Pos}{T id:String}{r:V->List V->Hp->VK->Prop}(pa:PlainAttrs T)(slot:Slot T name id)(hty:typeOf (.builtin id)=pure (.type "method_descriptor"))(hm:uI X id r)(ho:PE X o to)(ha:PA X (e::es) t)
  (hbase:attributeBase o name X.env (eval o X.env)=eval o X.env) (hline:(apos.endLine == cpos.line)=true) (h:(e::es).all cG=true) (hl:(e::es).length<30):PE X (.Call (.Attribute o name apos) (e::es) [] cpos) (Bs X.K T r to t):=by
 have h':=h;rw[JO,Jq] at h';exact Fi pa slot hty hm ho ha hbase (BO h hl) hline (bF h'.1) (plain_any h'.2)
theorem pY{a:Expr}{p pos:Pos}(hg:Gl X "range")(hm:X.mg "range"=none)(ha:PA X [a] ta)(h:autoParam (cG a=true) ℜ0):PI X tg (.Call (.Name "range" p) [a] [] pos) (k_ ta):=u7 hg hm ha (bF h)
theorem pF{a:Expr}{p pos:Pos}(hg:Gl X "range")(hm:X.mg "range"=none)(ha:PA X [a,b] ta)(h:autoParam (cG a=true) ℜ0)(h2:autoParam (cG b=true) ℜ0):PI X tg (.Call (.Name "range" p) [a,b] [] pos) (ll ta):=tP hg hm ha (by rw[bF h,bF h2];rfl) (bF h2)
end
structure HasFn (K:W.Frag) (mg:Str->Option Value) (x:Str) (st:Stmt) (ps:List Str):Prop where
 ex:∃(f:Addr) (fd:FuncData),uF K x x st f fd/\Binds K fd ps []/\mg x=some (.ref f)
structure ai (P:Program) (w:World) (K:W.Frag) (mg:Str->Option Value) (base:Heap) (CX:mQ) (k:Nat) (x:Str) (ps:List Str) (sp:Sp):Prop where
 ex:∃(f:Addr) (fd:FuncData),mg x=some (.ref f)/\W.keepIn K (.ref f)=true/\Binds K fd ps []/\d2 P w K mg base CX k f fd ps sp
section
variable {P:Program} {w:World} {K:W.Frag} {mg:Str->Option Value} {base:Heap}
theorem HasFn.ok{ps:List Str}{k:Nat}(F:HasFn K mg x st ps)(S:ar N ps (af st))(len:∀vs H Q E,sp vs H Q E->vs.length=ps.length)
  (hbody:∀(f:Addr) (cdv:Value) (A:Around) (outer:List Env) (s:Shared) (H:Hp) (vs:List V) (Q:VK) (E:XK),bj k (A.deeper (envOfC x (af st) s.heap.objs.size f cdv))->sp vs H Q E ->
   ∃t,pj (i9 bf P w K mg base N x (af st) f cdv A outer s H E).AG (bw st) t/\t {nx:=λ_ H'=>Q .aJ H',rt:=Q} (start N vs) H):ai P w K mg base bf (k+1) x ps sp:=by
 obtain⟨f,fd,F1,b,m⟩:=F.ex;exact⟨f,fd,m,F1.kp,b,F1.ok S len λcdv A outer s H vs Q E hr h=>hbody f cdv A outer s H vs Q E hr h⟩
end
section
variable {X:Cx} {CX:mQ} {k:Nat} {ps:List Str} {sp:Sp} {E:XK} {x:Str} {p pos:Pos} {e:Expr} {es:List Expr} {t:TA}
theorem Et(F:ai X.prog X.w X.K X.mg X.base CX k x ps sp)(hr:bj k X.A)(hg:Gl X x)(hx:Passes CX X E)(ha:PA X (e::es) t)(h1:autoParam (cG e=true) ℜ0)(h2:autoParam (es.all cG=true) ℜ0)(hdb:autoParam ((x ==("__debug__":Str))=false) ℜ1):
  PE X (.Call (.Name x p) (e::es) [] pos) (fQ sp [] E t):=by
 obtain⟨f,fd,m,kp,b,G⟩:=F.ex;exact An G hr hg m kp b .nil hx ha hdb (bF h1) (plain_any h2)
theorem CV(F:ai X.prog X.w X.K X.mg X.base CX k x ps sp)(hr:bj k X.A)(hg:Gl X x)(hx:Passes CX X E)(hdb:autoParam ((x ==("__debug__":Str))=false) ℜ1):
  PE X (.Call (.Name x p) [] [] pos) (fQ sp [] E jj):=by
 obtain⟨f,fd,m,kp,b,G⟩:=F.ex;exact vH G hr hg m kp b .nil hx hdb
end
noncomputable def CM:Expr->Option V
 |.Constant (.int i) _ _=>some (.int i)
 |.Constant (.str x) _ _=>some (.str x)
 |.Constant (.bool b) _ _=>some (.bl b)
 |.Constant .none _ _=>some .aJ
 |_=>none
noncomputable def qO:List Expr->Option (List V)
 |[]=>some []
 |e::es=>match CM e,qO es with
  |some v,some vs=>some (v::vs)
  |_,_=>none
noncomputable def tK(vs:List V):TA:=λ_ H Q=>Q vs H
theorem CI{e:Expr}{v:V}(h:CM e=some v):PE X e (tC v)/\∀es,starEach (e::es) X.env=(false,eval e X.env)::starEach es X.env:=by
 unfold CM at h
 split at h
 ·cases h;exact⟨wH,λ_=>rfl⟩
 ·cases h;exact⟨uR,λ_=>rfl⟩
 ·cases h;exact⟨AH,λ_=>rfl⟩
 ·cases h;exact⟨vW,λ_=>rfl⟩
 ·cases h
theorem lh{X:Cx}:∀{es:List Expr} {vs:List V},qO es=some vs->PA X es (tK vs)
 |[],vs,h=>by cases h;exact qh
 |e::es,vs,h=>by
  unfold qO at h
  split at h
  ·rename_i v ws e1 e2;cases h;have p:=CI (X:=X) e1;exact iW (te:=tC v) (t:=tK ws) p.1 (lh e2) (p.2 es)
  ·cases h
noncomputable def sq(H:Hp)(p:Addr):Option (Bool×List V):=match H p with
 |some (.lst xs)=>some (true,xs)
 |some (.tup xs)=>some (false,xs)
 |some (.hU _ (.lst xs))=>some (true,xs)
 |some (.hU _ (.tup xs))=>some (false,xs)
 |_=>none
theorem fL(h:sq H p=some (true,xs)):bz K H p xs:=by
 unfold sq at h
 split at h
 ·rename_i e;cases h;exact .inl (.inl e)
 ·cases h
 ·rename_i e;cases h;exact .inl (.inr ⟨_,e⟩)
 ·cases h
 ·cases h
theorem fu(h:sq H p=some (false,xs)):bq K H p xs:=by
 unfold sq at h
 split at h
 ·cases h
 ·rename_i e;cases h;exact .inl (.inl e)
 ·cases h
 ·rename_i e;cases h;exact .inl (.inr ⟨_,e⟩)
 ·cases h
theorem qC{b:Bool}(h:sq H p=some (b,xs)):bz K H p xs\/bq K H p xs:=by
 cases b with
 |true=>exact .inl (fL h)
 |false=>exact .inr (fu h)
theorem aA(h:H p=some (.lst xs)):sq H p=some (true,xs):=by unfold sq;rw[h]
theorem aF(h:H p=some (.tup xs)):sq H p=some (false,xs):=by unfold sq;rw[h]
section
variable {X:Cx}
noncomputable def tY(K:W.Frag):R2:=λx y H Q=>match x,y with
 |.int i,.int j=>Q (.int (i+j)) H
 |.str i,.str j=>i.length+j.length<=sizeLine/\Q (.str (i++j)) H
 |.ref a,.ref b=>match H a,H b with
  |some (.lst xs),some (.lst ys)=>xs.length+ys.length<=sizeLine/\∀p,H p=none->Q (.ref p) (upd H p (.lst (xs++ys)))
  |some (.tup xs),some (.tup ys)=>xs≠[]/\ys≠[]/\xs.length+ys.length<=sizeLine/\∀p,H p=none->Q (.ref p) (upd H p (.tup (xs++ys)))
  |_,_=>False
 |_,_=>False
theorem zA:cR X (binaryOp .Add) (tY X.K):=by
 intro pins s σ H x y v u Q I rx ry h
 cases x with
 |int i=>cases y with
  |int j=>exact Dp pins s σ H _ _ v u Q I rx ry ⟨i,j,rfl,rfl,h⟩
  |_=>exact (show False from h).elim
 |str i=>cases y with
  |str j=>exact p7 pins s σ H _ _ v u Q I rx ry ⟨i,j,rfl,rfl,h.1,h.2⟩
  |_=>exact (show False from h).elim
 |ref a=>cases y with
  |ref b =>
   unfold tY at h;simp only at h
   split at h
   ·rename_i xs ys e1 e2;exact Dy pins s σ H _ _ v u Q I rx ry ⟨a,b,xs,ys,rfl,rfl,e1,e2,h.1,h.2⟩
   ·rename_i xs ys e1 e2;obtain⟨h1,h2,h3,h4⟩:=h;exact y_ pins s σ H _ _ v u Q I rx ry ⟨a,b,xs,ys,rfl,rfl,bq.of e1,bq.of e2,h1,h3,λz=>absurd z h2,λ_=>h4⟩
   ·exact h.elim
  |_=>exact (show False from h).elim
 |_=>exact (show False from h).elim
noncomputable def CH:R2:=λx y H Q=>match x,y with
 |.int i,.int j=>s_ i j/\Q (.int (i*j)) H
 |.ref a,.int j=>FG (.ref a) (.int j) H Q
 |_,_=>False
theorem bO:cR X (binaryOp .Mult) CH:=by
 intro pins s σ H x y v u Q I rx ry h
 cases x with
 |int i=>cases y with
  |int j=>exact Di pins s σ H _ _ v u Q I rx ry ⟨i,j,rfl,rfl,h.1,h.2⟩
  |_=>exact (show False from h).elim
 |ref a=>cases y with
  |int j=>exact BK pins s σ H _ _ v u Q I rx ry h
  |_=>exact (show False from h).elim
 |_=>exact (show False from h).elim
theorem b7:cR X (compareOp .Eq) DQ:=EI
theorem pI:cR X (compareOp .NotEq) DU:=E9
noncomputable def CN(K:W.Frag)(neg:Bool):R2:=λx y H Q=>match y with
 |.str j=>∃i,x=.str i/\Q (.bl (if neg then !(!(Builtin.Str.occurrences j i 0 j.length 1).isEmpty) else !(Builtin.Str.occurrences j i 0 j.length 1).isEmpty)) H
 |.ref p=>match sq H p with
  |some (_,xs)=>cA x=true/\xs.all cA=true/\Q (.bl (if neg then !iU x xs else iU x xs)) H
  |none=>∃xs,bq K H p xs/\cA x=true/\xs.all cA=true/\Q (.bl (if neg then !iU x xs else iU x xs)) H
 |_=>False
theorem vk{neg:Bool}{x:V}{Q:VK}(h:CN K neg x (.ref p) H Q):FU K neg x (.ref p) H Q:=by
 unfold CN at h;simp only at h
 split at h
 ·rename_i xs e;exact⟨p,_,rfl,qC e,h.1,h.2.1,h.2.2⟩
 ·obtain⟨xs,hq,h⟩:=h;exact⟨p,xs,rfl,.inr hq,h.1,h.2.1,h.2.2⟩
theorem C3{k:Nat}(hu:k<cLine):cR X (compareOp .In) (CN X.K false):=by
 intro pins s σ H x y v u Q I rx ry h
 match y,h with
 |.str j,h =>
  obtain⟨i,rfl,h'⟩:=h;exact t8 pins s σ H _ _ v u Q I rx ry ⟨i,j,rfl,rfl,h'⟩
 |.ref p,h=>exact kJ pins s σ H _ _ v u Q I rx ry (vk h)
theorem uu{k:Nat}(hu:k<cLine):cR X (compareOp .NotIn) (CN X.K true):=by
 intro pins s σ H x y v u Q I rx ry h
 match y,h with
 |.str j,h =>
  obtain⟨i,rfl,h'⟩:=h;exact lU pins s σ H _ _ v u Q I rx ry ⟨i,j,rfl,rfl,h'⟩
 |.ref p,h=>exact lL pins s σ H _ _ v u Q I rx ry (vk h)
noncomputable def AE(K:W.Frag):R2:=λx y H Q=>match x,y with
 |.str z,.int i=>z.length<=sizeLine/\(match cq z.cps.toList i with|some c=>Q (.str ⟨#[c]⟩) H|none=>False)
 |.ref p,.int i=>match sq H p with
  |some (_,xs)=>(match cq xs i with|some v=>Q v H|none=>False)
  |none=>∃xs v,bq K H p xs/\cq xs i=some v/\Q v H
 |_,_=>False
theorem HN{k:Nat}(hu:k<cLine):uf X (AE X.K):=by
 intro value slice pins s σ H x y v u Q I rx ry h hs;refine C9 value slice pins s σ H x y v u Q I rx ry ?_ hs
 cases x with
 |str z=>cases y with
  |int i =>
   obtain⟨hz,h⟩:=h
   split at h
   ·rename_i c e;exact .inr (.inr ⟨z,i,c,rfl,rfl,hz,e,h⟩)
   ·exact h.elim
  |_=>exact (show False from h).elim
 |ref p=>cases y with
  |int i =>
   unfold AE at h;simp only at h
   split at h
   ·rename_i b xs e
    split at h
    ·rename_i w' e'
     cases b with
     |true=>exact .inl ⟨p,xs,i,w',rfl,rfl,fL e,e',h⟩
     |false=>exact .inr (.inl ⟨p,xs,i,w',rfl,rfl,fu e,e',h⟩)
    ·exact h.elim
   ·obtain⟨xs,w',hq,e',h⟩:=h;exact .inr (.inl ⟨p,xs,i,w',rfl,rfl,hq,e',h⟩)
  |_=>exact (show False from h).elim
 |_=>exact (show False from h).elim
noncomputable def Ge(K:W.Frag):V->Option Int->Option Int->Hp->VK->Prop:=λx lo hi H Q=>match x with
 |.ref p=>match sq H p with
  |some (true,xs)=>∀q,H q=none->Q (.ref q) (upd H q (.lst (eE xs lo hi)))
  |some (false,xs)=>xp K (.ref p) lo hi H Q
  |none=>xp K (.ref p) lo hi H Q
 |_=>False
theorem zb:Bp X (Ge X.K):=by
 intro pins s σ H x v vl vu lo hi sl Q I rx hs pl pu h
 match x,h with
 |.ref p,h =>
  unfold Ge at h;simp only at h
  split at h
  ·rename_i xs e;exact rG pins s σ H _ v vl vu lo hi sl Q I rx hs pl pu ⟨p,xs,rfl,fL e,h⟩
  ·exact wA pins s σ H _ v vl vu lo hi sl Q I rx hs pl pu h
  ·exact wA pins s σ H _ v vl vu lo hi sl Q I rx hs pl pu h
noncomputable def Ak:V->V->V->Hp->(Hp->Prop)->Prop:=λo i v H Q=>match o,i with
 |.ref p,.int k=>match H p with
  |some (.lst xs)=>(match ke xs.length k with|some j=>Q (upd H p (.lst (xs.set j v)))|none=>False)
  |_=>False
 |_,_=>False
theorem uset:Cb X Ak:=by
 intro pins s σ H o i v ov iv u Q I ro ri rv h
 cases o with
 |ref p=>cases i with
  |int k =>
   unfold Ak at h;simp only at h
   split at h
   ·rename_i xs e
    split at h
    ·rename_i j e';exact set_list pins s σ H _ _ v ov iv u Q I ro ri rv ⟨p,xs,k,j,rfl,rfl,e,e',h⟩
    ·exact h.elim
   ·exact h.elim
  |_=>exact (show False from h).elim
 |_=>exact (show False from h).elim
noncomputable def w8(K:W.Frag):List V->Hp->VK->Prop:=λxs H Q=>match xs with
 |[.str y]=>y.length<=sizeLine/\Q (.int y.length) H
 |[.ref p]=>match sq H p with
  |some (_,ys)=>Q (.int ys.length) H
  |none=>∃ys,bq K H p ys/\Q (.int ys.length) H
 |_=>False
theorem sG:bc X (.builtin "len") (w8 X.K):=by
 intro pins s σ H xs us Q I r h;rcases xs with _|⟨x,_|⟨y,xs⟩⟩
 ·exact (show False from h).elim
 rotate_left
 ·cases x<;>exact (show False from h).elim
 cases x with
 |str y=>exact gz pins s σ H _ us Q I r ⟨.str y,_,rfl,⟨h.1,rfl⟩,h.2⟩
 |ref p =>
  unfold w8 at h;simp only at h
  split at h
  ·rename_i b ys e;refine gz pins s σ H _ us Q I r ⟨.ref p,ys.length,rfl,?_,h⟩
   cases b with
   |true=>exact .inl ⟨ys,fL e,rfl⟩
   |false=>exact .inr ⟨ys,fu e,rfl⟩
  ·obtain⟨ys,hq,h⟩:=h;exact gz pins s σ H _ us Q I r ⟨.ref p,ys.length,rfl,.inr ⟨ys,hq,rfl⟩,h⟩
 |_=>exact (show False from h).elim
noncomputable def EZ:List V->Hp->VK->Prop:=λxs H Q=>match xs with
 |[.int i,.int j]=>Q (.int (if j<i then j else i)) H
 |_=>False
theorem sU(hc:X.calm=true):bc X (.builtin "min") EZ:=by
 intro pins s σ H xs us Q I r h;rcases xs with _|⟨x,_|⟨y,_|⟨z,xs⟩⟩⟩
 ·exact (show False from h).elim
 ·cases x<;>exact (show False from h).elim
 ·cases x with
  |int i=>cases y with
   |int j=>exact tX hc pins s σ H _ us Q I r ⟨i,j,rfl,h⟩
   |_=>exact (show False from h).elim
  |_=>exact (show False from h).elim
 ·cases x with
  |int i=>cases y<;>exact (show False from h).elim
  |_=>exact (show False from h).elim
noncomputable def EH:List V->Hp->VK->Prop:=λxs H Q=>match xs with
 |[.int i,.int j]=>Q (.int (if j > i then j else i)) H
 |_=>False
theorem tE(hc:X.calm=true):bc X (.builtin "max") EH:=by
 intro pins s σ H xs us Q I r h;rcases xs with _|⟨x,_|⟨y,_|⟨z,zs⟩⟩⟩
 ·exact (show False from h).elim
 ·cases x<;>exact (show False from h).elim
 ·cases x with
  |int i=>cases y with
   |int j=>exact sX hc pins s σ H _ us Q I r ⟨i,j,rfl,h⟩
   |_=>exact (show False from h).elim
  |_=>exact (show False from h).elim
 ·cases x<;>first|exact (show False from h).elim | (cases y<;>exact (show False from h).elim)
noncomputable def lG(K:W.Frag):List V->Hp->VK->Prop:=λxs H Q=>match xs with
 |[.ref p]=>match sq H p with
  |some (true,ys)=>∀l,H l=none->Q (.ref l) (upd H l (.tup ys))
  |some (false,_)=>Q (.ref p) H
  |none=>∃ys,bq K H p ys/\Q (.ref p) H
 |_=>False
theorem oJ:bc X (.type "tuple") (lG X.K):=by
 intro pins s σ H xs us Q I r h;rcases xs with _|⟨x,_|⟨y,xs⟩⟩
 ·exact (show False from h).elim
 rotate_left
 ·cases x<;>exact (show False from h).elim
 cases x with
 |ref p =>
  unfold lG at h;simp only at h
  split at h
  ·rename_i ys e;exact dN pins s σ H _ us Q I r ⟨p,ys,rfl,.inl ⟨fL e,h⟩⟩
  ·rename_i ys e;exact dN pins s σ H _ us Q I r ⟨p,ys,rfl,.inr ⟨fu e,h⟩⟩
  ·obtain⟨ys,hq,h⟩:=h;exact dN pins s σ H _ us Q I r ⟨p,ys,rfl,.inr ⟨hq,h⟩⟩
 |_=>exact (show False from h).elim
noncomputable def Fv:List V->Hp->VK->Prop:=λxs H Q=>match xs with
 |[.int i]=>Q (.int i) H
 |[.bl k]=>Q (.int (if k=true then 1 else 0)) H
 |_=>False
theorem ud:bc X (.type "int") Fv:=by
 intro pins s σ H xs us Q I r h;rcases xs with _|⟨x,_|⟨y,ys⟩⟩
 ·exact (show False from h).elim
 ·cases x with
  |int i=>exact kC pins s σ H _ us Q I r (.inl ⟨i,rfl,h⟩)
  |bl k=>exact kC pins s σ H _ us Q I r (.inr ⟨k,rfl,h⟩)
  |_=>exact (show False from h).elim
 ·cases x<;>exact (show False from h).elim
theorem sA(hc:X.calm=true):bc X (.builtin "sum") (λxs H Q=>∃(p:Addr) (ns:List Int),xs=[.ref p]/\bz X.K H p (ns.map V.int)/\Q (.int ns.sum) H):=by
 intro pins s σ H xs us Q I r h;obtain⟨p,ns,rfl,hq,q⟩:=h;obtain⟨u,rfl,ru⟩:=vals1 r;cases ru;obtain⟨its,rv,pl,hz⟩:=I.list hq;have hi:=intsAre_of rv;obtain⟨xs,hx⟩:=hi.allInts.items;have hl':s.heap.IsList p (intItems xs):=by rw[<- hx];exact pl.isList
 refine sum_intListG (I.ok.hd hc) hl' λh' tk t' hk=>?_;have e1:ns=xs.toList.map (·.1):=by rw[<- nums_intItems,<- hx];exact hi.numsOf.symm
 have e2:preSum (numAt xs) xs.size=ns.sum:=by rw[preSum_eq,Ji (by simp),e1]
 rw[e2];exact⟨.int ns.sum,H,I.kept hk,⟨_,rfl⟩,q⟩
noncomputable def CL(H:Hp):V->Option String
 |.aJ=>some "NoneType"
 |.bl _=>some "bool"
 |.int _=>some "int"
 |.str _=>some "str"
 |.ref a=>match H a with
  |some (.lst _)=>some "list"
  |some (.tup _)=>some "tuple"
  |some (.dK _)=>some "dict"
  |_=>none
 |_=>none
theorem CA{x:V}(h:CL H x=some t):gq K H x (.type t):=by
 unfold CL at h
 split at h
 ·cases h;exact .aJ
 ·cases h;exact .bl _
 ·cases h;exact .int _
 ·cases h;exact .str _
 ·split at h
  ·rename_i e;cases h;exact .lst e
  ·rename_i e;cases h;exact .tup e
  ·rename_i e;cases h;exact .dK e
  ·cases h
 ·cases h
noncomputable def gB(t c:String):Bool:=decide (t=c) || (t == "bool" && c == "int")
theorem vd{c:String}(ht:t∈["NoneType","bool","int","str","list","tuple","dict"])(hc:c∈["bool","int","str","list","tuple","dict"]):W.kitOne K (.type t) (.type c)=some (gB t c):=by
 simp only[Ih,IT,JW] at ht hc;rcases ht with rfl|rfl|rfl|rfl|rfl|rfl|rfl<;>rcases hc with rfl|rfl|rfl|rfl|rfl|rfl<;>rfl
theorem CP{x:V}(h:CL H x=some t):t∈["NoneType","bool","int","str","list","tuple","dict"]:=by
 unfold CL at h
 split at h
 ·cases h;decide
 ·cases h;decide
 ·cases h;decide
 ·cases h;decide
 ·split at h
  ·cases h;decide
  ·cases h;decide
  ·cases h;decide
  ·cases h
 ·cases h
noncomputable def Df(K:W.Frag):List V->Hp->VK->Prop:=λxs H Q=>match xs with
 |[x,.ty T]=>T∈["bool","int","str","list","tuple","dict"]/\match CL H x with
  |some t=>Q (.bl (gB t T)) H
  |none=>∃t b,gq K H x t/\W.kitOne K t (.type T)=some b/\Q (.bl b) H
 |_=>False
theorem uk:bc X (.builtin "isinstance") (Df X.K):=by
 intro pins s σ H xs us Q I r h;rcases xs with _|⟨x,_|⟨y,_|⟨z,xs⟩⟩⟩
 ·exact (show False from h).elim
 ·exact (show False from h).elim
 rotate_left
 ·cases y<;>exact (show False from h).elim
 cases y with
 |ty T =>
  obtain⟨u,w',rfl,r1,r2⟩:=vals2 r;cases r2;obtain⟨hT,h⟩:=h
  split at h
  ·rename_i t e;exact kW I r1 (CA e) (vd (CP e) hT) λtk=>⟨.bl _,H,I.tok _,rfl,h⟩
  ·obtain⟨t,b,ty,k,q⟩:=h;exact kW I r1 ty k λtk=>⟨.bl b,H,I.tok _,rfl,q⟩
 |_=>exact (show False from h).elim
theorem Ds{T:String}{pos:Pos}(hg:Gl X x)(hm:X.mg x=none)(hv:bootBuiltins x=some (.type T))(hn:autoParam (x≠"__name__") ℜ1)(hd:autoParam ((x ==("__debug__":Str))=false) ℜ1):PE X (.Name x pos) (tC (.ty T)):=yD hg hm hv rfl hn hd
end
section
variable {X:Cx} {e:Expr} {te:TE}
theorem rZ(p:Nat->Bool):∀(l:List Nat),l.drop (l.takeWhile p).length=l.dropWhile p
 |[]=>rfl
 |x::l=>by
  by_cases h:p x
  ·simp[LV,Le,h,rZ p l]
  ·simp[LV,Le,h]
end
open AutoSeq1 (wpAny_loadPart')
section
variable {prog:Program} {w:World} {A:Around} {E:Value->Shared->Prop} {s:Shared}
theorem iP{l:Addr}{x:Value}(hit:s.heap.IsTupleIter it l i)(hl:s.heap.IsTuple l items)(hx:items[i]?=some x)
  (hQ:∀h',h'.IsTupleIter it l (i+1)->Heap.SameBut it s.heap h'->Q x {s with heap:=h'}):wpAny (model prog w) A (Builtin.SmallTypes.nextOf (.ref it)) Q E s:=by
 obtain⟨o,ho,hc,hd⟩:=id hit;obtain⟨ol,hol,_,nl,hdl⟩:=hl;unfold Builtin.SmallTypes.nextOf;refine HU (Ju (name:=Str.ofString "__next__") hit.typeIs Ki (Jx Ki hit.typeIs Mc ?_ (LY _)));show wpAny _ _ (field (.ref it) 0 >>= _) _ _ s;refine HU (Jp ho hd (x:=.ref l) rfl ?_);show wpAny _ _ (if (Value.ref l == Value.none)=true then _ else _) _ _ s
 rw[H_ (show ¬ ((Value.ref l == Value.none)=true) from Il)];show wpAny _ _ (field (.ref it) 1 >>= _) _ _ s;refine HU (Jp ho hd (x:=.int i 0) rfl ?_);show wpAny _ _ (seqItems? (.ref l) >>= _) _ _ s;refine HU (KI hol hdl ?_);simp only[IY,hx];refine HU (Lw ho hd (by simp) (Ii ⟨x,rfl,Ii (hQ _ ?_ (J7 ..))⟩))
 exact⟨_,JA _ ho (LD (K2 hd _)),(Obj.cls_mapFields ..).trans hc,by rw[K2 hd];simp[rawInt]⟩
theorem jH{l:Addr}(hh:A.handled=none)(hit:s.heap.IsTupleIter it l i)(hl:s.heap.IsTuple l items)(hx:items[i]?=none)
  (hE:∀h' e,Heap.ExtBut it s.heap h'->(∃o,h'.get? e=some o/\o.cls=.type "StopIteration")->E (.ref e) {s with heap:=h'}):wpAny (model prog w) A (Builtin.SmallTypes.nextOf (.ref it)) Q E s:=by
 obtain⟨o,ho,hc,hd⟩:=id hit;obtain⟨ol,hol,_,nl,hdl⟩:=hl;unfold Builtin.SmallTypes.nextOf;refine HU (Ju (name:=Str.ofString "__next__") hit.typeIs Ki (Jx Ki hit.typeIs Mc ?_ (LY _)));show wpAny _ _ (field (.ref it) 0 >>= _) _ _ s;refine HU (Jp ho hd (x:=.ref l) rfl ?_);show wpAny _ _ (if (Value.ref l == Value.none)=true then _ else _) _ _ s
 rw[H_ (show ¬ ((Value.ref l == Value.none)=true) from Il)];show wpAny _ _ (field (.ref it) 1 >>= _) _ _ s;refine HU (Jp ho hd (x:=.int i 0) rfl ?_);show wpAny _ _ (seqItems? (.ref l) >>= _) _ _ s;refine HU (KI hol hdl ?_);simp only[IY,hx];refine HU (Np (HU (Lw ho hd (by simp) ?_)))
 show wpAny _ _ (newExc (.type "StopIteration") [] >>= _) _ _ _;refine HU ?_;simp only[newExc,newTuple];refine HU (J6 ?_ (by size_fits))
 refine HU (m:=firstArgMember _ _) (wpAny_of_eq (a:=Value.none) (by first|rfl | (simp only[firstArgMember];rfl)) ?_)
 refine J6 ?_ (by size_fits)
 simp only[raiseNew];refine HU (wpAny_handled ?_)
 first|rw[show A.in1.handled=none from hh]|rw[hh]
 refine HU (Ii (wpAny_throw ?_));exact hE _ _ (((J7 ..).extBut.push _).push _) ⟨_,Ip _ rfl,rfl⟩
theorem i5(hh:A.handled=none)(it l:Addr)(hne:l≠it)(items:Array Value):
  Draws prog w A it [it,l] items.size (λi v=>items[i]?=some v) (λi h=>h.IsTupleIter it l i/\h.IsTuple l items) where
 live:=λ_ _ st=>let ⟨o,ho,_⟩:=st.1;⟨o,ho⟩
 frame:=λ_ _ _ st hk=>⟨let ⟨o,e,r⟩:=st.1;⟨o,hk it (by simp) o e,r⟩,let ⟨o,e,r⟩:=st.2;⟨o,hk l (by simp) o e,r⟩⟩
 item:=λi s Q E hi st hQ=>by
  refine iP st.1 st.2 (x:=items[i]) (by simp[hi]) λh' hit' hs'=>?_
  exact hQ _ h' s.toks (by simp[hi]) ⟨hit',st.2.extBut hs'.extBut hne⟩ hs'
 done:=λs Q E st hE=>jH hh st.1 st.2 (by simp) hE
theorem je(l:Addr)(items:Array Value)(n:Nat)(dct:Option Addr)(sl:Array (Option Value)):
  Meets (Builtin.«enumerate.__new__» ⟨[.type "enumerate",.ref l],[]⟩) (λ_ R s=>s.heap.get? l=some {cls:=.type "tuple",dict:=dct,data:=.seq items n,slots:=sl} /\
   R (.ok (.ret (.ref (s.heap.push {cls:=.type "tuple_iterator",data:=.fields #[.ref l,.int 0 0]}).objs.size)))
    {s with heap:=(s.heap.push {cls:=.type "tuple_iterator",data:=.fields #[.ref l,.int 0 0]}).push {cls:=.type "enumerate",data:=.fields #[.none,.bool false,.ref s.heap.objs.size,rawInt 0,.none,.none]}}):=
 .of_wp λprog w A R s h=>by
  obtain⟨hp,g,d,tk,os⟩:=s;obtain⟨hl,h⟩:=h;have hsub:=sub_enumerate;have hL:Heap.IsTuple (Shared.heap ⟨hp,g,d,tk,os⟩) l items:=⟨_,hl,rfl,n,rfl⟩;wp_walk using MM hl;refine wpAny_stack_any λst=>Ii ?_;split
  ·rename_i c _ _ _ _ _
   cases (c == Value.type "enumerate")<;>(wp_walk using MM hl,K4 hL;exact⟨_,rfl,h⟩)
  ·wp_walk using MM hl,K4 hL;exact⟨_,rfl,h⟩
theorem kg{l:Addr}(hL:s.heap.IsTuple l items)
  (h:∀h',IsEnum h' (s.heap.objs.size+1) s.heap.objs.size 0 .none->h'.IsTupleIter s.heap.objs.size l 0->h'.objs.size=s.heap.objs.size+2 ->
   (∀b o,s.heap.get? b=some o->h'.get? b=some o)->Q (.ref (s.heap.objs.size+1)) {s with heap:=h'}) :
  wpAny (model prog w) A (call (.type "enumerate") [.ref l]) Q E s:=by
 obtain⟨⟨c,dct,dt,sl⟩,hl,hc,n,hd⟩:=hL
 replace hc:c=.type "tuple":=hc
 replace hd:dt=.seq items n:=hd
 subst hc hd;refine M3 F.called_enumerate (by decide) (F.typeCall_enumerate_1 _) (F.newCall_enumerate_1 _) (λobj=>F.args_object_init_2 obj _) F.entry_enumerate_new (je l items n dct sl) ⟨hl,?_⟩
 have hz:(s.heap.push {cls:=.type "tuple_iterator",data:=.fields #[.ref l,.int 0 0]}).objs.size=s.heap.objs.size+1:=JI ..;show _/\_;rw[hz];have he:IsEnum ((s.heap.push {cls:=.type "tuple_iterator",data:=.fields #[.ref l,.int 0 0]}).push {cls:=.type "enumerate",data:=.fields #[.none,.bool false,.ref s.heap.objs.size,rawInt 0,.none,.none]}) (s.heap.objs.size+1) s.heap.objs.size 0 .none:=by
  have:=Ip (s.heap.push {cls:=.type "tuple_iterator",data:=.fields #[.ref l,.int 0 0]}) (o:={cls:=.type "enumerate",data:=.fields #[.none,.bool false,.ref s.heap.objs.size,rawInt 0,.none,.none]}) rfl;rw[hz] at this;exact this
 refine⟨⟨_,he,rfl⟩,h _ he ⟨_,HW _ (Ip _ rfl),rfl,rfl⟩ (by rw[JI,hz]) λb o x=>HW _ (HW _ x)⟩
end
section
variable {X:Cx} {pins:List (Addr×Obj)} {σ:St} {H:Hp} {s:Shared} {h':Heap}
theorem Inv.turns{t':Nat}(I:Inv X pins σ H s)(hf:∀b∈fp,jd X pins H b)(k:∀b o,b∉fp->s.heap.get? b=some o->h'.get? b=some o):Inv X pins σ H {s with heap:=h',toks:=t'}:=by
 have nf:∀b u,H b=some u->b∉fp:=λb u e z=>by rw[(hf b z).1] at e;cases e
 refine I.step (g':=s.gens) (d':=s.drawn) (ch:=fp) (λb hb=>?_) (λb o _ _ hc e _=>k b o hc e) (λb o _ _ hc e _=>⟨o.slots,k b o hc e⟩) (λ_ _ _ _ n=>n)
  (λb o hc e=>⟨o,k b o hc e⟩) (λ_ _ e=>e) (λ_ _ _ e=>e) (λb ps e=>⟨#[],by rw[e];simp⟩) (λm hm=>?_) (λb u e=>?_) I.bare
 ·obtain⟨_,g1,g2,g3,g4,g5⟩:=hf b hb;exact⟨g3,g1,g4,g5⟩
 ·obtain⟨o,es,ep,ho,r⟩:=hm;exact⟨o,es,ep,k _ o (λz=>(hf _ z).2.1 rfl) ho,r⟩
 ·refine (I.aI b u e).gP (λc v hc q=>k c v ?_ q) (λ_ q=>q) (λ_ _ q=>q) λ_ _ _ q=>q;rcases hc with z|z
  ·rw[z];exact nf b u e
  ·exact nf c _ z
theorem Inv.m8{t':Nat}(I:Inv X pins σ H s)(hf:∀b∈fp,jd X pins H b)(hp:s.heap.objs.size<=p)(k:∀b o,b∉fp->s.heap.get? b=some o->h'.get? b=some o)
  (new:aM X.prog X.w (upd H p o) h' p o):Inv X pins σ (upd H p o) {s with heap:=h',toks:=t'}:=by
 have nf:∀b u,H b=some u->b∉fp:=λb u e z=>by rw[(hf b z).1] at e;cases e
 have fr:H p=none:=I.aI.fresh hp;have np:∀b u,H b=some u->b≠p:=λb u e=>ao e fr;have ne:∀b o,s.heap.get? b=some o->b≠p:=λb o e z=>by rw[z] at e;exact absurd (ID (Io e) hp) (JN _)
 refine I.step (g':=s.gens) (d':=s.drawn) (ch:=fp) (λb hb=>?_) (λb o _ _ hc e _=>k b o hc e) (λb o _ _ hc e _=>⟨o.slots,k b o hc e⟩) (λb o _ e n=>by rw[ae (ne b o e)];exact n)
  (λb o hc e=>⟨o,k b o hc e⟩) (λb xs e=>by rw[ae (np b _ e)];exact e) (λb o u e=>by rw[ae (np b _ e)];exact e) (λb ps e=>⟨#[],by rw[ae (np b _ e),e];simp⟩) (λm hm=>?_) (λb u e=>?_) I.bare
 ·obtain⟨_,g1,g2,g3,g4,g5⟩:=hf b hb;exact⟨g3,g1,g4,g5⟩
 ·obtain⟨o,es,ep,ho,r⟩:=hm;exact⟨o,es,ep,k _ o (λz=>(hf _ z).2.1 rfl) ho,r⟩
 ·by_cases hb:b=p
  ·subst hb;rw[aa] at e;cases e;exact new
  ·rw[ae hb] at e;refine (I.aI b u e).gP (λc v hc q=>k c v ?_ q) (λc q=>by rw[ae (np c _ q)];exact q) (λc xs q=>by rw[ae (np c _ q)];exact q) λc _ _ q=>by rw[ae (np c _ q)];exact q
   rcases hc with z|z
   ·rw[z];exact nf b u e
   ·exact nf c _ z
end
noncomputable def getL(K:W.Frag)(a:Addr):Nat->Hp->V->Prop:=λi H x=>∃xs,bz K H a xs/\xs[i]?=some x
noncomputable def GW(K:W.Frag)(a:Addr):Nat->Hp->V->Prop:=λi H x=>∃xs,bq K H a xs/\xs[i]?=some x
noncomputable def G4(K:W.Frag)(a:Addr):Nat->Hp->Prop:=λi H=>∃xs,bz K H a xs/\xs.length=i
noncomputable def GQ(K:W.Frag)(a:Addr):Nat->Hp->Prop:=λi H=>∃xs,bq K H a xs/\xs.length=i
noncomputable def wF(K:W.Frag)(a:Addr):It:=
 ⟨λi H=>∃x,GW K a i H x,λi H x H'=>∃p y,(∀xs,bq K H a xs->xs[i]?=some y)/\H p=none/\x=.ref p/\H'=upd H p (.tup [.int i,y]),GQ K a⟩
theorem pO{tk:Nat}{tp:Pos}(a it e:Addr)(hne:e≠it):Turn P w K (.Tuple es tk tp) (wF K a) [e,it] e (λi h=>(∃old,IsEnum h e it i old)/\h.IsTupleIter it a i) where
 mem:=by simp
 obj:=λi h st b hb=>by
  obtain⟨⟨old,he⟩,o,eo,c,d⟩:=st;rcases Ih.mp hb with z|z
  ·subst z;exact⟨_,he,λv z=>by cases z⟩
  ·have z:b=it:=by simpa using z
   subst z;exact⟨o,eo,λv z=>by rw[d] at z;cases z⟩
 keep:=λi h h' st k=>by
  obtain⟨⟨old,he⟩,o,eo,r⟩:=st;exact⟨⟨old,k e (by simp) _ he⟩,o,k it (by simp) o eo,r⟩
 item:=by
  intro X hP hw hK hc i pins s σ H E I hf st hg;subst hP hw hK;obtain⟨x,xs,hq,hx⟩:=hg;obtain⟨⟨old,he⟩,hit⟩:=st;obtain⟨its,rv,p,hz⟩:=I.tuple hq;obtain⟨u,hu,ru⟩:=rv.get hx;obtain⟨g0,g1,g2,g3,g4,g5⟩:=hf e (by simp)
  obtain⟨f0,f1,f2,f3,f4,f5⟩:=hf it (by simp)
  have ht:s.heap.IsTuple a its.toArray:=p;have ha:a≠it:=by
   rintro rfl;obtain⟨o,e1,c1,_⟩:=hit;obtain⟨o',e2,c2,_⟩:=ht;rw[e1] at e2;cases e2;rw[c1] at c2;exact absurd (Value.type.inj c2) (by decide)
  have hea:e≠a:=by
   rintro rfl;obtain⟨o',e2,c2,_⟩:=ht;have e1:s.heap.get? e=some _:=he;rw[e1] at e2;cases e2;exact absurd (Value.type.inj c2) (by decide)
  have hi:i<its.toArray.size:=by
   have:=(HZ.mp hu).1
   simpa using this
  refine MH (i5 (A:=X.A.in1) (I.ok.hd hc) it a ha its.toArray) he ⟨hit,ht⟩ hi hne (by simp[hne,hea]) λx' h' tk' hP ho hs' hT hsz hk=>?_
  have ex:x'=u:=by
   have hP':its.toArray[i]?=some x':=hP;rw[Jf,hu] at hP';exact (Option.some.inj hP').symm
  subst ex;refine⟨.ref s.heap.objs.size,rfl,Mm ho λh2 he2 hs2=>?_⟩;have fr:H s.heap.objs.size=none:=I.aI.fresh (Ib _);have hle:e≠s.heap.objs.size:=Iz (Io he);have hT2:h2.get? s.heap.objs.size=some {cls:=.type "tuple",data:=.seq #[.int i tk',x']}:=(hs2.2 _ (I_ hle)).trans hT;have I2:Inv X pins σ (upd H s.heap.objs.size (.tup [.int i,x])) {s with heap:=h2,toks:=tk'+1}:=by
   refine I.m8 (fp:=[e,it]) hf (Ib _) (λb o hb eb=>?_) ⟨by show 2<=sizeLine;decide,[.int i tk',x'],.cons ⟨_,rfl⟩ (.cons ru .nil),⟨_,hT2,rfl,_,rfl,rfl⟩⟩
   have n1:b≠e:=λz=>hb (by simp[z])
   have n2:b≠it:=λz=>hb (by simp[z])
   exact (hs2.2 b n1).trans (hk b o n1 n2 eb)
  refine⟨.ref s.heap.objs.size,_,I2,rfl,⟨s.heap.objs.size,x,λys hy=>by rw[I.i4 hy hq];exact hx,fr,rfl,rfl⟩,⟨⟨x',?_⟩,?_⟩,λb hb=>?_⟩
  ·have e:(((i+1:Nat)):Int)=(i:Int)+1:=by lia
   rw[e];exact he2
  ·obtain⟨o,e1,r⟩:=hs'.1;exact⟨o,(hs2.2 it (I_ hne)).trans e1,r⟩
  ·have n:b≠s.heap.objs.size:=by
    rcases Ih.mp hb with z|z
    ·subst z;exact hle
    ·have z:b=it:=by simpa using z
     subst z;obtain⟨o,e1,_⟩:=hit;exact Iz (Io e1)
   rw[ae n];exact (hf b hb).1
 done:=by
  intro X hP hw hK hc i pins s σ H E I hf st hg;subst hP hw hK;obtain⟨xs,hq,hx⟩:=hg;obtain⟨⟨old,he⟩,hit⟩:=st;obtain⟨its,rv,p,hz⟩:=I.tuple hq;have ht:s.heap.IsTuple a its.toArray:=p;have ha:a≠it:=by
   rintro rfl;obtain⟨o,e1,c1,_⟩:=hit;obtain⟨o',e2,c2,_⟩:=ht;rw[e1] at e2;cases e2;rw[c1] at c2;exact absurd (Value.type.inj c2) (by decide)
  have hl:=rv.length;have hsz:its.toArray.size=i:=by simp;lia
  refine MT (i5 (A:=X.A.in1) (I.ok.hd hc) it a ha its.toArray) he (by rw[hsz];exact⟨hit,ht⟩) λh' eb=>⟨rfl,?_⟩
  exact I.turns (t':=s.toks) hf λb o hb e1=>eb b o (λz=>hb (by simp[z])) e1
 self:=λA i s Q E st h=>by
  obtain⟨⟨old,he⟩,_⟩:=st;exact L3 he h
section
variable {X:Cx} {es:List Expr} {tk:Nat} {tp:Pos}
noncomputable def oq(K:W.Frag)(ta:TA):TI:=λσ H R=>ta σ H λvs H1=>∃a,vs=[.ref a]/\(∃xs,bq K H1 a xs)/\R (wF K a) H1
theorem A8{e:Expr}{p pos:Pos}(hg:Gl X "enumerate")(hm:X.mg "enumerate"=none)(ha:PA X [e] ta)(h1:autoParam (cG e=true) ℜ0)(hv:autoParam (bootBuiltins "enumerate"=some (.type "enumerate")) ℜ6):
  PI X (.Tuple es tk tp) (.Call (.Name "enumerate" p) [e] [] pos) (oq X.K ta):=by
 intro pins s σ H R I h;refine Call_ (dO I hg hm hv (Jo (bD (ha pos pins s σ H _ I h) λus s1 hq1=>?_) (bF h1) rfl));obtain⟨vs,H1,I1,r1,q1⟩:=hq1;obtain⟨a,e,⟨xs,hq⟩,q⟩:=q1;subst e;obtain⟨u,rfl,ru⟩:=vals1 r1;cases ru;obtain⟨its,rv,pt,hz⟩:=I1.tuple hq;refine kg (show s1.heap.IsTuple a its.toArray from pt) λh' he hit hsz hk=>?_;refine L3 he ?_;have I2:Inv X pins σ H1 {s1 with heap:=h'}:=I1.kept (t':=s1.toks) hk
 refine⟨s1.heap.objs.size+1,[s1.heap.objs.size+1,s1.heap.objs.size],_,_,H1,rfl,I2,pO a s1.heap.objs.size (s1.heap.objs.size+1) (JM (Nat.lt_succ_self _)),⟨⟨_,he⟩,hit⟩,λb hb=>?_,q⟩;have hb':s1.heap.objs.size<=b:=by
  rcases Ih.mp hb with z|z
  ·rw[z];exact JT _
  ·have z:b=s1.heap.objs.size:=by simpa using z
   rw[z];exact Ib _
 exact I1.mH hb' (I1.aI.fresh hb')
noncomputable def wW(K:W.Frag)(tl:TE):TI:=λσ H R=>tl σ H λx H1=>match x with
 |.ref a=>match sq H1 a with
  |some (true,_)=>R (yc K a) H1
  |some (false,_)=>R (tZ K a) H1
  |none=>(∃xs,bq K H1 a xs)/\R (tZ K a) H1
 |_=>False
theorem Bv{l:Expr}(hl:PE X l tl):PI X tg l (wW X.K tl):=by
 intro pins s σ H R I h;refine bD (hl pins s σ H _ I h) λv s1 hq2=>?_;obtain⟨x,H1,I1,r1,q1⟩:=hq2;obtain⟨a,rfl,q⟩:∃a,x=V.ref a/\(((∃xs,bz X.K H1 a xs)/\R (yc X.K a) H1)\/((∃xs,bq X.K H1 a xs)/\R (tZ X.K a) H1)):=by
  match x,q1 with
  |.ref a,q1 =>
   simp only at q1
   split at q1
   ·rename_i xs e;exact⟨a,rfl,.inl ⟨⟨xs,fL e⟩,q1⟩⟩
   ·rename_i xs e;exact⟨a,rfl,.inr ⟨⟨xs,fu e⟩,q1⟩⟩
   ·exact⟨a,rfl,.inr q1⟩
 cases r1;rcases q with ⟨⟨xs,hq⟩,q⟩|⟨⟨xs,hq⟩,q⟩
 ·obtain⟨its,rv,p,hz⟩:=I1.list hq;refine L4 p.isList ?_;refine⟨s1.heap.objs.size,[s1.heap.objs.size],_,_,H1,rfl,I1.kept (t':=s1.toks) λb o e=>HW _ e,kN a _,⟨_,Ip _ rfl,rfl,rfl⟩,λb hb=>?_,q⟩;have e:b=s1.heap.objs.size:=by simpa using hb
  subst e;exact I1.mH (Ib _) (I1.aI.fresh (Ib _))
 ·obtain⟨its,rv,p,hz⟩:=I1.tuple hq;refine K4 (show s1.heap.IsTuple a its.toArray from p) ?_;refine⟨s1.heap.objs.size,[s1.heap.objs.size],_,_,H1,rfl,I1.kept (t':=s1.toks) λb o e=>HW _ e,jV a _,⟨_,Ip _ rfl,rfl,rfl⟩,λb hb=>?_,q⟩;have e:b=s1.heap.objs.size:=by simpa using hb
  subst e;exact I1.mH (Ib _) (I1.aI.fresh (Ib _))
end
noncomputable def oh(J:It)(g:TG)(tb:TS)(D:Ends)(σ:St)(H:Hp):Prop:=∃W:Nat->Nat->St->Hp->Prop,(∃m,W 0 m σ H)/\∀i m σ H,W i m σ H ->
 (J.stop i H/\D.nx σ H)\/(J.go i H/\∃N:St->Hp->Prop,(∀σ' H',N σ' H'->∃m',m'<m/\W (i+1) m' σ' H')/\∀x H',J.AV i H x H'->g x σ H' λσ2 H2=>tb {D with nx:=N,ct:=N,bk:=D.nx} σ2 H2)
theorem zy(wi:TI)(g:TG)(tb:TS)(D:Ends)(σ:St)(H:Hp):BF wi g tb D σ H=wi σ H λJ H1=>oh J g tb D σ H1:=rfl
noncomputable def jv(J:It)(k:Nat)(g:TG)(tc:TT)(te:TE)(Q:VK)(σ:St)(H1:Hp):Prop:=∀D,H1 D=none ->
 ∃W:Nat->Nat->List V->St->Hp->Prop,(∃m,W 0 m [] (List.replicate k none++σ) (upd H1 D (.lst [])))/\∀i m ys σ' H',W i m ys σ' H'->H' D=some (.lst ys) /\
  ((J.stop i H'/\Q (.ref D) H')\/(J.go i H'/\ys.length<sizeLine/\∀x H2,J.AV i H' x H2->g x σ' H2 λσ3 H3=>tc σ3 H3 λb H4 =>
   if b=true then te σ3 H4 λv H5=>H5 D=some (.lst ys)/\∃m',m'<m/\W (i+1) m' (ys++[v]) σ3 (upd H5 D (.lst (ys++[v])))
   else ∃m',m'<m/\W (i+1) m' ys σ3 H4))
theorem xa(wi:TI)(k:Nat)(g:TG)(tc:TT)(te:TE)(σ:St)(H:Hp)(Q:VK):dZ wi k g tc te σ H Q=wi σ H λJ H1=>jv J k g tc te Q σ H1:=rfl
section
variable {K:W.Frag} {g:TG} {tb:TS} {D:Ends} {σ:St} {H:Hp} {te:TE} {Q:VK}
theorem ij(Pv:Nat->St->Hp->Prop)(h0:Pv 0 σ H)(hl:∀i σ H,i<=xs.length->Pv i σ H->bz K H a xs)
  (hs:∀i x σ H,xs[i]?=some x->Pv i σ H->g x σ H λσ2 H2=>tb {D with nx:=Pv (i+1),ct:=Pv (i+1),bk:=D.nx} σ2 H2) (hd:∀σ H,Pv xs.length σ H->D.nx σ H):oh (yc K a) g tb D σ H:=xR Pv h0 hl hs hd
theorem jI(Pv:Nat->St->Hp->Prop)(h0:Pv 0 σ H)(hl:∀i σ H,i<=xs.length->Pv i σ H->bq K H a xs)
  (hs:∀i x σ H,xs[i]?=some x->Pv i σ H->g x σ H λσ2 H2=>tb {D with nx:=Pv (i+1),ct:=Pv (i+1),bk:=D.nx} σ2 H2) (hd:∀σ H,Pv xs.length σ H->D.nx σ H):oh (tZ K a) g tb D σ H:=Ad Pv h0 hl hs hd
theorem cf{lo:Int}{n:Nat}(Pv:Nat->St->Hp->Prop)(h0:Pv 0 σ H)
  (hs:∀i σ H,i<n->Pv i σ H->g (.int (lo+i)) σ H λσ2 H2=>tb {D with nx:=Pv (i+1),ct:=Pv (i+1),bk:=D.nx} σ2 H2) (hd:∀σ H,Pv n σ H->D.nx σ H):oh (ym lo n) g tb D σ H:=sM Pv h0 hs hd
theorem pK(Pv:Nat->St->Hp->Prop)(h0:Pv 0 σ H)(hl:∀i σ H,i<=xs.length->Pv i σ H->bq K H a xs)
  (hs:∀i x σ H p,xs[i]?=some x->Pv i σ H->H p=none->g (.ref p) σ (upd H p (.tup [.int i,x])) λσ2 H2=>tb {D with nx:=Pv (i+1),ct:=Pv (i+1),bk:=D.nx} σ2 H2) (hd:∀σ H,Pv xs.length σ H->D.nx σ H) :
  oh (wF K a) g tb D σ H:=by
 refine⟨λi m σ H=>m=xs.length-i/\i<=xs.length/\Pv i σ H,⟨xs.length,by simp,Iv _,h0⟩,?_⟩
 rintro i m σ H ⟨rfl,hi,p⟩;have q:=hl i σ H hi p;by_cases hlt:i<xs.length
 ·refine .inr ⟨⟨xs[i],xs,q,by simp[hlt]⟩,Pv (i+1),λσ' H' p'=>⟨xs.length-(i+1),by lia,rfl,hlt,p'⟩,λx H' y=>?_⟩
  obtain⟨b,y,hy,fr,rfl,rfl⟩:=y;exact hs i y σ H b (hy xs q) p fr
 ·have e:i=xs.length:=by lia
  subst e;exact .inl ⟨⟨xs,q,rfl⟩,hd σ H p⟩
theorem fF(hn:xs.length<=sizeLine)(Pv:Addr->Nat->List V->Hp->Prop)(h0:∀D,H D=none->Pv D 0 [] (upd H D (.lst [])))(hD:∀D i ys H',Pv D i ys H'->H' D=some (.lst ys)/\ys.length=i)
  (hl:∀D i ys H',Pv D i ys H'->bq K H' a xs)
  (hs:∀D i ys H' x (R:VK),xs[i]?=some x->Pv D i ys H'->(∀v H5,H5 D=some (.lst ys)->Pv D (i+1) (ys++[v]) (upd H5 D (.lst (ys++[v])))->R v H5)->te (some x::σ) H' R) (hd:∀D ys H',Pv D xs.length ys H'->Q (.ref D) H') :
  jv (tZ K a) 1 (aQ 0) eQ te Q σ H:=by
 intro D hD0;refine⟨λi m ys σ' H'=>m=xs.length-i/\i<=xs.length/\Pv D i ys H'/\∃o,σ'=o::σ,⟨xs.length,by simp,Iv _,h0 D hD0,none,rfl⟩,?_⟩
 rintro i m ys σ' H' ⟨rfl,hi,p,o,rfl⟩;obtain⟨hDi,hly⟩:=hD _ _ _ _ p;have q:=hl _ _ _ _ p;refine⟨hDi,?_⟩;by_cases hlt:i<xs.length
 ·refine .inr ⟨⟨xs,xs[i],q,by simp[hlt]⟩,by lia,λx H2 y=>?_⟩
  obtain⟨rfl,y⟩:=y;unfold aQ eQ;dsimp only;rw[if_pos rfl];exact hs D i ys H2 x _ (y xs q) p λv H5 q1 q2=>⟨q1,xs.length-(i+1),by lia,rfl,hlt,q2,_,rfl⟩
 ·have e:i=xs.length:=by lia
  subst e;exact .inl ⟨⟨xs,q,Ib _⟩,hd D ys H' p⟩
end
namespace Ap
theorem jf(i:Nat)(σ:St)(H:Hp)(Q:VK):L2.jf i σ H Q=∃v,σ[i]?=some (some v)/\Q v H:=rfl
theorem tC(v:V)(σ:St)(H:Hp)(Q:VK):L2.tC v σ H Q=Q v H:=rfl
theorem wa(r:R2)(ta tb:TE)(σ:St)(H:Hp)(Q:VK):L2.wa r ta tb σ H Q=ta σ H λx H1=>tb σ H1 λy H2=>r x y H2 Q:=rfl
theorem FP(r:V->Hp->VK->Prop)(ta:TE)(σ:St)(H:Hp)(Q:VK):L2.FP r ta σ H Q=ta σ H λx H1=>r x H1 Q:=rfl
theorem oo(t:TE)(σ:St)(H:Hp)(Q:Bool->Hp->Prop):L2.oo t σ H Q=t σ H λx H'=>∃k,x=.bl k/\Q k H':=rfl
theorem DY(t:TT)(ta tb:TE)(σ:St)(H:Hp)(Q:VK):L2.DY t ta tb σ H Q=t σ H λc H1=>if c=true then ta σ H1 Q else tb σ H1 Q:=rfl
theorem uO(t u:TT)(σ:St)(H:Hp)(Q:Bool->Hp->Prop):L2.uO t u σ H Q=t σ H λc H1=>if c=true then u σ H1 Q else Q false H1:=rfl
theorem E3(t u:TT)(σ:St)(H:Hp)(Q:Bool->Hp->Prop):L2.E3 t u σ H Q=t σ H λc H1=>if c=true then Q true H1 else u σ H1 Q:=rfl
theorem wX(t:TT)(σ:St)(H:Hp)(Q:Bool->Hp->Prop):L2.wX t σ H Q=t σ H λc H1=>Q (!c) H1:=rfl
theorem nF(ta tb:TE)(σ:St)(H:Hp)(Q:VK):L2.nF ta tb σ H Q=ta σ H λx H1=>∃c,x=.bl c/\if c=true then tb σ H1 Q else Q (.bl false) H1:=rfl
theorem tK(vs:List V)(σ:St)(H:Hp)(Q:List V->Hp->Prop):L2.tK vs σ H Q=Q vs H:=rfl
theorem jj(σ:St)(H:Hp)(Q:List V->Hp->Prop):L2.jj σ H Q=Q [] H:=rfl
theorem gS(ta:TE)(tr:TA)(σ:St)(H:Hp)(Q:List V->Hp->Prop):L2.gS ta tr σ H Q=ta σ H λx H1=>tr σ H1 λxs H2=>Q (x::xs) H2:=rfl
theorem xf(t:TA)(σ:St)(H:Hp)(Q:VK):L2.xf t σ H Q=t σ H λxs H1=>xs.length<=sizeLine/\∀p,H1 p=none->Q (.ref p) (upd H1 p (.tup xs)):=rfl
theorem yb(t:TA)(σ:St)(H:Hp)(Q:VK):L2.yb t σ H Q=t σ H λxs H1=>xs.length<=sizeLine/\∀p,H1 p=none->Q (.ref p) (upd H1 p (.lst xs)):=rfl
theorem fQ(sp:Sp)(dvs:List V)(E:XK)(t:TA)(σ:St)(H:Hp)(Q:VK):L2.fQ sp dvs E t σ H Q=t σ H λvs H1=>sp (vs++dvs) H1 Q E:=rfl
theorem zE(r:List V->Hp->VK->Prop)(t:TA)(σ:St)(H:Hp)(Q:VK):L2.zE r t σ H Q=t σ H λvs H1=>r vs H1 Q:=rfl
theorem Bs(K:W.Frag)(T:String)(r:V->List V->Hp->VK->Prop)(to:TE)(t:TA)(σ:St)(H:Hp)(Q:VK):L2.Bs K T r to t σ H Q=to σ H λx H1=>D_ K T x H1/\t σ H1 λxs H2=>r x xs H2 Q:=rfl
theorem vJ(K:W.Frag)(T:String)(r:V->List V->Hp->VK->Prop)(to:TE)(σ:St)(H:Hp)(Q:VK):L2.vJ K T r to σ H Q=to σ H λx H1=>D_ K T x H1/\r x [] H1 Q:=rfl
theorem Fz(r:V->Option Int->Option Int->Hp->VK->Prop)(te:TE)(tl th:TO)(σ:St)(H:Hp)(Q:VK):L2.Fz r te tl th σ H Q=te σ H λx H1=>tl σ H1 λl H2=>th σ H2 λu H3=>r x l u H3 Q:=rfl
theorem gJ(σ:St)(H:Hp)(Q:Option Int->Hp->Prop):L2.gJ σ H Q=Q none H:=rfl
theorem oC(t:TE)(σ:St)(H:Hp)(Q:Option Int->Hp->Prop):L2.oC t σ H Q=t σ H λx H1=>∃i,x=.int i/\Q (some i) H1:=rfl
theorem u9(t u:TS)(D:Ends)(σ:St)(H:Hp):L2.u9 t u D σ H=t {D with nx:=u D} σ H:=rfl
theorem jB(te:TE)(g:TG)(D:Ends)(σ:St)(H:Hp):L2.jB te g D σ H=te σ H λx H1=>g x σ H1 D.nx:=rfl
theorem aQ(i:Nat)(v:V)(σ:St)(H:Hp)(Q:St->Hp->Prop):L2.aQ i v σ H Q=Q (σ.set i (some v)) H:=rfl
theorem ya(to ti:TE)(t:zf)(v:V)(σ:St)(H:Hp)(Q:St->Hp->Prop):L2.ya to ti t v σ H Q=to σ H λo H1=>ti σ H1 λi H2=>t o i v H2 λH3=>Q σ H3:=rfl
theorem cW(t:TG)(u:vm)(v:V)(vs:List V)(σ:St)(H:Hp)(Q:St->Hp->Prop):L2.cW t u (v::vs) σ H Q=t v σ H λσ' H'=>u vs σ' H' Q:=by
 refine propext ⟨λhq1=>?_,λh=>⟨v,vs,rfl,h⟩⟩;obtain⟨a,b,e,h⟩:=hq1
 cases e;exact h
theorem km(σ:St)(H:Hp)(Q:St->Hp->Prop):L2.km [] σ H Q=Q σ H:=propext ⟨λh=>h.2,λh=>⟨rfl,h⟩⟩
theorem vo(te:TE)(D:Ends)(σ:St)(H:Hp):L2.vo te D σ H=te σ H D.rt:=rfl
theorem mW(te:TE)(D:Ends)(σ:St)(H:Hp):L2.mW te D σ H=te σ H λ_ H1=>D.nx σ H1:=rfl
theorem lN(c:TT)(t u:TS)(D:Ends)(σ:St)(H:Hp):L2.lN c t u D σ H=c σ H λb H1=>if b=true then t D σ H1 else u D σ H1:=rfl
theorem ot(D:Ends)(σ:St)(H:Hp):L2.ot D σ H=D.nx σ H:=rfl
theorem k_(ta:TA)(σ:St)(H:Hp)(R:It->Hp->Prop):L2.k_ ta σ H R=ta σ H λvs H1=>∃j:Int,vs=[.int j]/\-(2^62)<=j/\j<2^62/\R (ym 0 j.toNat) H1:=rfl
theorem ll(ta:TA)(σ:St)(H:Hp)(R:It->Hp->Prop):L2.ll ta σ H R=ta σ H λvs H1=>∃i j:Int,vs=[.int i,.int j]/\(-(2^62)<=i/\i<2^62/\-(2^62)<=j/\j<2^62)/\R (ym i (j-i).toNat) H1:=rfl
theorem wW(K:W.Frag)(tl:TE)(σ:St)(H:Hp)(R:It->Hp->Prop):L2.wW K tl σ H R=tl σ H λx H1=>match x with
 |.ref a=>match sq H1 a with
  |some (true,_)=>R (yc K a) H1
  |some (false,_)=>R (tZ K a) H1
  |none=>(∃xs,bq K H1 a xs)/\R (tZ K a) H1
 |_=>False:=rfl
theorem oq(K:W.Frag)(ta:TA)(σ:St)(H:Hp)(R:It->Hp->Prop):L2.oq K ta σ H R=ta σ H λvs H1=>∃a,vs=[.ref a]/\(∃xs,bq K H1 a xs)/\R (wF K a) H1:=rfl
theorem rI(C:Int->Int->Prop)(g:Int->Int->V)(i j:Int)(H:Hp)(Q:VK):L2.rI C g (.int i) (.int j) H Q=(C i j/\Q (g i j) H):=by
 refine propext ⟨λhq2=>?_,λh=>⟨i,j,rfl,rfl,h⟩⟩;obtain⟨a,b,e1,e2,h⟩:=hq2
 cases e1;cases e2;exact h
theorem vP(g:Int->Int->V)(i j:Int)(H:Hp)(Q:VK):L2.vP g (.int i) (.int j) H Q=Q (g i j) H:=by
 refine propext ⟨λhq3=>?_,λh=>⟨i,j,rfl,rfl,h⟩⟩;obtain⟨a,b,e1,e2,h⟩:=hq3
 cases e1;cases e2;exact h
theorem rU(g:Int->V)(i:Int)(H:Hp)(Q:VK):L2.rU g (.int i) H Q=Q (g i) H:=by
 refine propext ⟨λhq4=>?_,λh=>⟨i,rfl,h⟩⟩;obtain⟨a,e1,h⟩:=hq4
 cases e1;exact h
theorem FL(K:W.Frag)(i j:Int)(H:Hp)(Q:VK):tY K (.int i) (.int j) H Q=Q (.int (i+j)) H:=rfl
theorem Ea(K:W.Frag)(i j:Str)(H:Hp)(Q:VK):tY K (.str i) (.str j) H Q=(i.length+j.length<=sizeLine/\Q (.str (i++j)) H):=rfl
theorem FO(i j:Int)(H:Hp)(Q:VK):CH (.int i) (.int j) H Q=(s_ i j/\Q (.int (i*j)) H):=rfl
theorem Gj(i j:Int)(H:Hp)(Q:VK):DQ (.int i) (.int j) H Q=Q (.bl (decide (i=j))) H:=by
 have e:decide (V.int i=V.int j)=decide (i=j):=by rw[JP];constructor<;>intro h<;>(try cases h)<;>(try rw[h])<;>rfl
 unfold DQ;rw[e];exact propext ⟨λh=>h.2,λh=>⟨rfl,h⟩⟩
theorem Hg(i j:Str)(H:Hp)(Q:VK):DQ (.str i) (.str j) H Q=Q (.bl (decide (i=j))) H:=by
 have e:decide (V.str i=V.str j)=decide (i=j):=by rw[JP];constructor<;>intro h<;>(try cases h)<;>(try rw[h])<;>rfl
 unfold DQ;rw[e];exact propext ⟨λh=>h.2,λh=>⟨rfl,h⟩⟩
theorem Hf(i j:Int)(H:Hp)(Q:VK):DU (.int i) (.int j) H Q=Q (.bl (!decide (i=j))) H:=by
 have e:decide (V.int i=V.int j)=decide (i=j):=by rw[JP];constructor<;>intro h<;>(try cases h)<;>(try rw[h])<;>rfl
 unfold DU;rw[e];exact propext ⟨λh=>h.2,λh=>⟨rfl,h⟩⟩
theorem GK(i j:Str)(H:Hp)(Q:VK):DU (.str i) (.str j) H Q=Q (.bl (!decide (i=j))) H:=by
 have e:decide (V.str i=V.str j)=decide (i=j):=by rw[JP];constructor<;>intro h<;>(try cases h)<;>(try rw[h])<;>rfl
 unfold DU;rw[e];exact propext ⟨λh=>h.2,λh=>⟨rfl,h⟩⟩
theorem GI(K:W.Frag)(b:Bool)(H:Hp)(k:Bool):v9 K (.bl b) H k=(k=b):=rfl
end Ap
noncomputable def KB(ex:List Addr)(H H':Hp):Prop:=∀b o,H b=some o->b∉ex->H' b=some o
theorem KB.refl(ex:List Addr)(H:Hp):KB ex H H:=λ_ _ e _=>e
theorem KB.trans{H1 H2:Hp}(a:KB ex H H1)(b:KB ex H1 H2):KB ex H H2:=λc o e n=>b c o (a c o e n) n
theorem KB.mono{ex':List Addr}(h:KB ex H H')(s:∀b∈ex,b∈ex'):KB ex' H H':=λb o e n=>h b o e λz=>n (s b z)
theorem KB.all(h:KB [] H H'):KB ex H H':=h.mono (by simp)
theorem KB.new(h:H p=none):KB ex H (upd H p o):=λb u e _=>by rw[ae (ao e h)];exact e
theorem KB.set(h:p∈ex):KB ex H (upd H p o):=λb u e n=>by rw[ae (λ(z:b=p)=>n (by rw[z];exact h))];exact e
theorem KB.free(h:KB ex H H'){b:Addr}(n:b∉ex)(e:H' b=none):H b=none:=by
 cases q:H b with
 |none=>rfl
 |some o=>rw[h b o q n] at e;cases e
theorem KB.Ex(h:KB ex H H')(n:a∉ex)(q:bz K H a xs):bz K H' a xs:=by
 rcases q with (q|⟨o,q⟩)|q
 ·exact .inl (.inl (h _ _ q n))
 ·exact .inl (.inr ⟨o,h _ _ q n⟩)
 ·exact .inr q
theorem Ha(x:α)(r:List α):cq (x::r) 0=some x:=bI (j:=0) rfl
theorem Gz(a x:α)(r:List α):cq (a::x::r) 1=some x:=bI (j:=1) rfl
theorem GF(a b x:α)(r:List α):cq (a::b::x::r) 2=some x:=bI (j:=2) rfl
theorem GC(a b c x:α)(r:List α):cq (a::b::c::x::r) 3=some x:=bI (j:=3) rfl
theorem mB{n:Nat}{i:Int}(h0:0<=i)(h:i<n):ke n i=some i.toNat:=by unfold ke;rw[Ig h0,Ig h]
namespace Ap
theorem EN(K:W.Frag)(p:Addr)(i:Int)(H:Hp)(Q:VK):AE K (.ref p) (.int i) H Q=(match sq H p with
  |some (_,xs)=>(match cq xs i with|some v=>Q v H|none=>False)
  |none=>∃xs v,bq K H p xs/\cq xs i=some v/\Q v H):=rfl
theorem ES(K:W.Frag)(z:Str)(i:Int)(H:Hp)(Q:VK):AE K (.str z) (.int i) H Q=(z.length<=sizeLine/\(match cq z.cps.toList i with|some c=>Q (.str ⟨#[c]⟩) H|none=>False)):=rfl
theorem setRef(p:Addr)(k:Int)(v:V)(H:Hp)(Q:Hp->Prop):Ak (.ref p) (.int k) v H Q=(match H p with
  |some (.lst xs)=>(match ke xs.length k with|some j=>Q (upd H p (.lst (xs.set j v)))|none=>False)
  |_=>False):=rfl
theorem By(K:W.Frag)(p:Addr)(H:Hp)(Q:VK):w8 K [.ref p] H Q=(match sq H p with
  |some (_,ys)=>Q (.int ys.length) H
  |none=>∃ys,bq K H p ys/\Q (.int ys.length) H):=rfl
theorem BA(K:W.Frag)(y:Str)(H:Hp)(Q:VK):w8 K [.str y] H Q=(y.length<=sizeLine/\Q (.int y.length) H):=rfl
theorem EA(i j:Int)(H:Hp)(Q:VK):EZ [.int i,.int j] H Q=Q (.int (if j<i then j else i)) H:=rfl
theorem Ej(i j:Int)(H:Hp)(Q:VK):EH [.int i,.int j] H Q=Q (.int (if j > i then j else i)) H:=rfl
theorem GP(k:Bool)(H:Hp)(Q:VK):Fv [.bl k] H Q=Q (.int (if k=true then 1 else 0)) H:=rfl
theorem DD(K:W.Frag)(p:Addr)(H:Hp)(Q:VK):lG K [.ref p] H Q=(match sq H p with
  |some (true,ys)=>∀l,H l=none->Q (.ref l) (upd H l (.tup ys))
  |some (false,_)=>Q (.ref p) H
  |none=>∃ys,bq K H p ys/\Q (.ref p) H):=rfl
theorem EY(K:W.Frag)(p:Addr)(lo hi:Option Int)(H:Hp)(Q:VK):Ge K (.ref p) lo hi H Q=(match sq H p with
  |some (true,xs)=>∀q,H q=none->Q (.ref q) (upd H q (.lst (eE xs lo hi)))
  |some (false,xs)=>xp K (.ref p) lo hi H Q
  |none=>xp K (.ref p) lo hi H Q):=rfl
theorem FE(K:W.Frag)(neg:Bool)(x:V)(p:Addr)(H:Hp)(Q:VK):CN K neg x (.ref p) H Q=(match sq H p with
  |some (_,xs)=>cA x=true/\xs.all cA=true/\Q (.bl (if neg then !iU x xs else iU x xs)) H
  |none=>∃xs,bq K H p xs/\cA x=true/\xs.all cA=true/\Q (.bl (if neg then !iU x xs else iU x xs)) H):=rfl
theorem Gq(K:W.Frag)(x:V)(T:String)(H:Hp)(Q:VK):Df K [x,.ty T] H Q=(T∈["bool","int","str","list","tuple","dict"]/\match CL H x with
  |some t=>Q (.bl (gB t T)) H
  |none=>∃t b,gq K H x t/\W.kitOne K t (.type T)=some b/\Q (.bl b) H):=rfl
theorem addRef(K:W.Frag)(a b:Addr)(H:Hp)(Q:VK):tY K (.ref a) (.ref b) H Q=(match H a,H b with
  |some (.lst xs),some (.lst ys)=>xs.length+ys.length<=sizeLine/\∀p,H p=none->Q (.ref p) (upd H p (.lst (xs++ys)))
  |some (.tup xs),some (.tup ys)=>xs≠[]/\ys≠[]/\xs.length+ys.length<=sizeLine/\∀p,H p=none->Q (.ref p) (upd H p (.tup (xs++ys)))
  |_,_=>False):=rfl
theorem CS(H:Hp)(p:Addr)(xs:List V):sq (upd H p (.lst xs)) p=some (true,xs):=aA aa
theorem zr(H:Hp)(p:Addr)(xs:List V):sq (upd H p (.tup xs)) p=some (false,xs):=aF aa
theorem yS(H:Hp)(p:Addr)(o:HO):upd H p o p=some o:=aa
end Ap
theorem aq{t u:TS}(h:∀N,N=u D->t {D with nx:=N} σ H):u9 t u D σ H:=h _ rfl
structure QE (X:Cx) (e:Expr) (t:TE):Prop where h:PE X e t
structure QT (X:Cx) (e:Expr) (t:TT):Prop where h:PT X e t
structure QW (X:Cx) (e:Expr) (t:TT):Prop where h:PW X e t
structure QA (X:Cx) (es:List Expr) (t:TA):Prop where h:PA X es t
structure QS (X:Cx) (st:Stmt) (t:TS):Prop where h:PS X st t
structure QB (X:Cx) (sts:List Stmt) (t:TS):Prop where h:pj X sts t
structure QI (X:Cx) (tg it:Expr) (t:TI):Prop where h:PI X tg it t
structure QG (X:Cx) (e:Expr) (t:TG):Prop where h:PG X e t
structure Gd (X:Cx) (es:List Expr) (t:vm):Prop where h:FF X es t
structure QO (X:Cx) (e:Option Expr) (t:TO):Prop where h:PO X e t
structure Dq (X:Cx) (es:List Expr) (t:TT):Prop where h:zP X es t
namespace Z
noncomputable def sim(b:Expr):Bool:=match b with
 |.Name .. |.Constant .. |.Call .. |.BinOp .. |.Subscript .. |.Attribute .. |.UnaryOp .. |.Compare .. |.IfExp ..=>true
 |_=>false
theorem Hv(h:sim b=true):rR b:=by
 cases b<;>first | (intro _ _;rfl)|cases h
noncomputable def HC(b:Expr):Bool:=match b with
 |.Name .. |.Call .. |.Subscript .. |.Attribute ..=>true
 |_=>false
theorem ptr(h:HC b=true):∀whole,isTrue b env whole=(do let v <- whole;standAt b.pos;holding [v] (truthy v)):=by
 cases b<;>first | (intro _;rfl)|cases h
noncomputable def FY(b:Expr):Bool:=match b with
 |.ListComp .. |.SetComp .. |.DictComp ..=>false
 |_=>true
theorem Hx{tg:Option Expr}{l:Nat}(h:FY b=true):swapsWith b tg l env=pure false:=by
 cases b<;>first|rfl|cases h
section
variable {X:Cx}
theorem aK(K:W.Frag)(hK:X.K=K):cR X (binaryOp .Add) (tY K):=by subst hK;exact zA
theorem yF(K:W.Frag)(hK:X.K=K){k:Nat}(hu:k<cLine):cR X (compareOp .In) (CN K false):=by subst hK;exact C3 hu
theorem Ab(K:W.Frag)(hK:X.K=K){k:Nat}(hu:k<cLine):cR X (compareOp .NotIn) (CN K true):=by subst hK;exact uu hu
theorem aC(K:W.Frag)(hK:X.K=K){k:Nat}(hu:k<cLine):uf X (AE K):=by subst hK;exact HN hu
theorem Am(K:W.Frag)(hK:X.K=K):Bp X (Ge K):=by subst hK;exact zb
theorem Bg(K:W.Frag)(hK:X.K=K):Bp X (FN K):=by subst hK;exact rG
theorem bB(K:W.Frag)(hK:X.K=K):bc X (.builtin "len") (w8 K):=by subst hK;exact sG
theorem Dc(K:W.Frag)(hK:X.K=K):bc X (.builtin "len") (λxs H Q=>∃x n,xs=[x]/\Eg K x H n/\Q (.int n) H):=by subst hK;exact gz
theorem jg(K:W.Frag)(hK:X.K=K):bc X (.builtin "isinstance") (Df K):=by subst hK;exact uk
theorem e9(K:W.Frag)(hK:X.K=K):bc X (.type "tuple") (lG K):=by subst hK;exact oJ
theorem DZ(K:W.Frag)(hK:X.K=K)(hc:X.calm=true):bc X (.builtin "sum") (λxs H Q=>∃(p:Addr) (ns:List Int),xs=[.ref p]/\bz K H p (ns.map V.int)/\Q (.int ns.sum) H):=by subst hK;exact sA hc
end
section
variable {X:Cx} {a b c e o:Expr} {es:List Expr} {ta tb tc te to:TE} {t:TA} {pos p p2:Pos} {tA tB':TT} {rest:List Expr} {x:Str}
theorem int{i:Int}:QE X (.Constant (.int i) j pos) (tC (.int i)):=⟨wH⟩
theorem bl{i:Bool}:QE X (.Constant (.bool i) j pos) (tC (.bl i)):=⟨AH⟩
theorem aJ:QE X (.Constant .none j pos) (tC .aJ):=⟨vW⟩
theorem str{i:Str}:QE X (.Constant (.str i) j pos) (tC (.str i)):=⟨uR⟩
theorem v(i:Nat)(hN:autoParam (X.N[i]?=some x) ℜ0)(hv:autoParam (Fs X.env.scope x) ℜ4)(hd:autoParam ((x ==("__debug__":Str))=false) ℜ1)
  (fM:autoParam ((x ==("__classdict__":Str))=false) ℜ1):QE X (.Name x pos) (jf i):=⟨pv i hN hv hd fM⟩
theorem glob{w:V}{u:Value}(hg:Gl X x)(hm:X.mg x=some u)(r:RelV w u)(hd:autoParam ((x ==("__debug__":Str))=false) ℜ1):QE X (.Name x pos) (tC w):=⟨rE hg hm r hd⟩
theorem op{o:Operator}{r:R2}(ho:cR X (binaryOp o) r)(ha:QE X a ta)(hb:QE X b tb):QE X (.BinOp a o b pos) (wa r ta tb):=⟨E6 ho ha.h hb.h⟩
theorem un{o:UnaryOp}{r:V->Hp->VK->Prop}(ho:Gb X (unaryOp o) r)(ha:QE X a ta):QE X (.UnaryOp o a pos) (FP r ta):=⟨FD ho ha.h⟩
theorem cmp{o:CmpOp}{r:R2}(ho:cR X (compareOp o) r)(ha:QE X a ta)(hb:QE X b tb)(hm:autoParam (behindInMarks o b=false) ℜ0):QE X (.Compare a [o] [b] pos) (wa r ta tb):=⟨yO ho ha.h hb.h hm⟩
theorem and(ha:QE X a ta)(hb:QE X (.BoolOp .And (b::rest) pos) tb):QE X (.BoolOp .And (a::b::rest) pos) (nF ta tb):=⟨CD ha.h hb.h⟩
theorem one{o:BoolOp}(ha:QE X a ta):QE X (.BoolOp o [a] pos) ta:=⟨CO ha.h⟩
theorem not(ha:QE X a ta):QE X (.UnaryOp .Not a pos) (n_ ta):=⟨Cg ha.h⟩
theorem GJ(hc:QT X c tA)(ha:QE X a ta)(hb:QE X b tb):QE X (.IfExp c a b pos) (DY tA ta tb):=⟨xF hc.h ha.h hb.h⟩
theorem slice{r:V->Option Int->Option Int->Hp->VK->Prop}{lo hi:Option Expr}{tl th:TO}(hr:Bp X r)(he:QE X e te)(hl:QO X lo tl)(hu:QO X hi th):QE X (.Subscript e (.Slice lo hi none p2) pos) (Fz r te tl th):=⟨wL hr he.h hl.h hu.h⟩
theorem yo:QO X none gJ:=⟨yJ⟩
theorem jZ(he:QE X e te):QO X (some e) (oC te):=⟨zI he.h⟩
theorem ix{r:R2}(hr:uf X r)(ha:QE X a ta)(hb:QE X b tb)(hs:autoParam (sim b=true) ℜ0):QE X (.Subscript a b pos) (wa r ta tb):=⟨Bl hr ha.h hb.h (Hv hs)⟩
theorem tup{k:Nat}(h:QA X es t):QE X (.Tuple es k pos) (xf t):=⟨BB h.h⟩
theorem lst(h:QA X es t):QE X (.List es pos) (yb t):=⟨BE h.h⟩
theorem nil:QA X [] jj:=⟨qh⟩
theorem cons(ha:QE X e te)(hr:QA X es t)(h:autoParam (cG e=true) ℜ0):QA X (e::es) (gS te t):=⟨Gs ha.h hr.h h⟩
theorem consts{vs:List V}(h:qO es=some vs):QA X es (tK vs):=⟨lh h⟩
theorem cb{id:String}(hc:bc X (.builtin id) r)(hg:Gl X x)(hm:X.mg x=none)(hv:bootBuiltins x=some (.builtin id))(ha:QA X (e::es) t)(h1:autoParam (cG e=true) ℜ0)(h2:autoParam (es.all cG=true) ℜ0)(hn:autoParam (x≠"__name__") ℜ1)(hdb:autoParam ((x ==("__debug__":Str))=false) ℜ1):
  QE X (.Call (.Name x p) (e::es) [] pos) (zE r t):=⟨El hc hg hm hv ha.h h1 h2 hn hdb⟩
theorem ct{T:String}(hc:bc X (.type T) r)(hg:Gl X x)(hm:X.mg x=none)(hv:bootBuiltins x=some (.type T))(ha:QA X (e::es) t)(h1:autoParam (cG e=true) ℜ0)(h2:autoParam (es.all cG=true) ℜ0)(hn:autoParam (x≠"__name__") ℜ1)(hdb:autoParam ((x ==("__debug__":Str))=false) ℜ1):
  QE X (.Call (.Name x p) (e::es) [] pos) (zE r t):=⟨Fq hc hg hm hv ha.h h1 h2 hn hdb⟩
theorem Dt{T:String}(hg:Gl X x)(hm:X.mg x=none)(hv:bootBuiltins x=some (.type T))(hn:autoParam (x≠"__name__") ℜ1)(hd:autoParam ((x ==("__debug__":Str))=false) ℜ1):QE X (.Name x pos) (tC (.ty T)):=⟨Ds hg hm hv hn hd⟩
theorem fn{k:Nat}{ps:List Str}{E:XK}(F:ai X.prog X.w X.K X.mg X.base CX k x ps sp)(hr:bj k X.A)(hg:Gl X x)(hx:Passes CX X E)(ha:QA X (e::es) t)(h1:autoParam (cG e=true) ℜ0)(h2:autoParam (es.all cG=true) ℜ0)(hdb:autoParam ((x ==("__debug__":Str))=false) ℜ1):
  QE X (.Call (.Name x p) (e::es) [] pos) (fQ sp [] E t):=⟨Et F hr hg hx ha.h h1 h2 hdb⟩
theorem HA{k:Nat}{ps:List Str}{E:XK}(F:ai X.prog X.w X.K X.mg X.base CX k x ps sp)(hr:bj k X.A)(hg:Gl X x)(hx:Passes CX X E)(hdb:autoParam ((x ==("__debug__":Str))=false) ℜ1):
  QE X (.Call (.Name x p) [] [] pos) (fQ sp [] E jj):=⟨CV F hr hg hx hdb⟩
theorem bm(K:W.Frag)(hK:X.K=K){apos:Pos}{T id:String}{r:V->List V->Hp->VK->Prop}(pa:PlainAttrs T)(slot:Slot T name id)(hty:typeOf (.builtin id)=pure (.type "method_descriptor"))(hm:uI X id r)(ho:QE X o to)(ha:QA X (e::es) t)
  (hbase:autoParam (attributeBase o name X.env (eval o X.env)=eval o X.env) ℜ0) (hline:autoParam ((apos.endLine == pos.line)=true) ℜ0) (h:autoParam ((e::es).all cG=true) ℜ0) (hl:autoParam ((e::es).length<30) ℜ1):QE X (.Call (.Attribute o name apos) (e::es) [] pos) (Bs K T r to t):=by
 subst hK;exact⟨Dm pa slot hty hm ho.h ha.h hbase hline h hl⟩
theorem comp{wi:TI}{tc:TT}(S:aG osc ON scope own N)(hosc:X.env.scope=osc)(hON:X.N=ON)(hc:X.calm=true)(hi:QI X tg iter wi)
  (hg:∀C s H fp,QG (ay X scope N C s H fp) tg g) (ht:∀C s H fp,Dq (ay X scope N C s H fp) ifs tc) (he:∀C s H fp,QE (ay X scope N C s H fp) elt te) (hs:autoParam (∀x,foldedSetIterable iter X.env x=pure x) ℜ3) :
  QE X (.ListComp elt [⟨tg,iter,ifs,0⟩] scope pos) (dZ wi own.length g tc te):=⟨yu S hosc hON hc hi.h (λC s H fp=>(hg C s H fp).h) (λC s H fp=>(ht C s H fp).h) (λC s H fp=>(he C s H fp).h) hs⟩
theorem aR{o:CmpOp}{r:R2}(ho:cR X (compareOp o) r)(ha:QE X a ta)(hb:QE X b tb)(hm:autoParam (behindInMarks o b=false) ℜ0):QT X (.Compare a [o] [b] pos) (oo (wa r ta tb)):=⟨Ai ho ha.h hb.h hm⟩
theorem tw(h:QW X e tA):QT X e tA:=⟨h.h.pt⟩
theorem zh(ha:QT X a tA):QT X (.UnaryOp .Not a pos) (wX tA):=⟨BR ha.h⟩
noncomputable def A6(K:W.Frag)(ta:TE):TT:=λσ H Q=>ta σ H λx H'=>∃k,v9 K x H' k/\Q k H'
theorem og(K:W.Frag)(hK:X.K=K)(ha:QE X a ta)(he:autoParam (HC a=true) ℜ0):QT X a (A6 K ta):=by subst hK;exact⟨xM ha.h (ptr he)⟩
theorem rP(ha:QT X a tA):QW X (.BoolOp .And [a] pos) tA:=⟨z_ ha.h⟩
theorem BH(ha:QT X a tA):QW X (.BoolOp .Or [a] pos) tA:=⟨Cy ha.h⟩
theorem y4(ha:QT X a tA)(hb:QW X (.BoolOp .And (b::rest) pos) tB'):QW X (.BoolOp .And (a::b::rest) pos) (uO tA tB'):=⟨BX ha.h hb.h⟩
theorem GG(ha:QT X a tA)(hb:QW X (.BoolOp .Or (b::rest) pos) tB'):QW X (.BoolOp .Or (a::b::rest) pos) (E3 tA tB'):=⟨Ey ha.h hb.h⟩
theorem aT(hN:X.N.Nodup)(hi:X.N[i]?=some x)(hx:Loc X.env.scope x)(hf:autoParam (X.fn x=true\/X.env.scope.names.lookup x=some .local) ℜ2):QG X (.Name x pos) (aQ i):=⟨yt hN hi hx hf⟩
theorem oy(K:W.Frag)(hK:X.K=K){k n:Nat}{tg:vm}(hc:X.calm=true)(h:Gd X es tg)(hn:autoParam ((assignEach es X.env).length=n) ℜ0)(hst:autoParam ((assignEach es X.env).findIdx? (·.1)=none) ℜ0):QG X (.Tuple es k pos) (pN K n tg):=by subst hK;exact⟨B6 hc h.h hn hst⟩
theorem iE:Gd X [] km:=⟨zo⟩
theorem bP{u:vm}(h1:QG X e g)(h2:Gd X es u)(hs:autoParam ((assignEach (e::es) X.env).map (·.2)=assign e X.env::(assignEach es X.env).map (·.2)) ℜ0):Gd X (e::es) (cW g u):=⟨xE h1.h h2.h hs⟩
theorem tm{i:Expr}{ti:TE}(ho:QE X o to)(hi:QE X i ti)
  (ha:autoParam (∀v,assign (.Subscript o i pos) X.env v=(do
   let ov <- holding [v] (eval o X.env)
   let iv <- holding [v,ov] (eval i X.env)
   standAt pos
   holding [v,ov,iv] (setItem ov iv v)
   release [v,ov,iv] [])) ℜ3):QG X (.Subscript o i pos) (ya to ti Ak):=⟨Dh ho.h hi.h uset ha⟩
theorem tV{ta:TA}(hg:Gl X "range")(hm:X.mg "range"=none)(ha:QA X [a] ta)(h:autoParam (cG a=true) ℜ0):QI X tg (.Call (.Name "range" p) [a] [] pos) (k_ ta):=⟨pY hg hm ha.h h⟩
theorem G_{ta:TA}(hg:Gl X "range")(hm:X.mg "range"=none)(ha:QA X [a,b] ta)(h:autoParam (cG a=true) ℜ0)(h2:autoParam (cG b=true) ℜ0):QI X tg (.Call (.Name "range" p) [a,b] [] pos) (ll ta):=⟨pF hg hm ha.h h h2⟩
theorem enum(K:W.Frag)(hK:X.K=K){k:Nat}{tp:Pos}{ta:TA}(hg:Gl X "enumerate")(hm:X.mg "enumerate"=none)(ha:QA X [e] ta)(h1:autoParam (cG e=true) ℜ0):QI X (.Tuple es k tp) (.Call (.Name "enumerate" p) [e] [] pos) (oq K ta):=by subst hK;exact⟨A8 hg hm ha.h h1⟩
theorem any(K:W.Frag)(hK:X.K=K){l:Expr}(hl:QE X l tl):QI X tg l (wW K tl):=by subst hK;exact⟨Bv hl.h⟩
theorem AQ:Dq X [] eQ:=⟨zB⟩
theorem HJ(h:QT X c tA):Dq X [c] tA:=⟨zS h.h⟩
end
section
variable {X:Cx} {e o tg:Expr} {te to:TE} {st:Stmt} {sts xs ys:List Stmt} {t u:TS} {pos pos':Pos} {x:Str}
theorem bo:QB X [] ot:=⟨yx⟩
theorem au(h:QS X st t):QB X [st] t:=⟨zx h.h⟩
theorem ag(h:QS X st t)(h2:QB X sts u):QB X (st::sts) (u9 t u):=⟨xU h.h h2.h⟩
theorem set(hN:X.N.Nodup)(hi:X.N[i]?=some x)(hx:Loc X.env.scope x)(he:QE X e te)(hs:autoParam (FY e=true) ℜ0)(hf:autoParam (X.fn x=true\/X.env.scope.names.lookup x=some .local) ℜ2):
  QS X (.Assign [.Name x pos'] e pos) (jB te (aQ i)):=⟨BP hN hi hx he.h (Hx hs) hf⟩
theorem setC{p2:Pos}{wi:TI}(hN:X.N.Nodup)(hj:X.N[j]?=some x)(hx:Loc X.env.scope x)(S:aG osc ON scope own N)(hosc:X.env.scope=osc)(hON:X.N=ON)(hc:X.calm=true)(hi:QI X tg iter wi)
  (hg:∀C s H fp,QG (ay X scope N C s H fp) tg g) (ht:∀C s H fp,Dq (ay X scope N C s H fp) ifs tc) (he:∀C s H fp,QE (ay X scope N C s H fp) elt te)
  (hsw:autoParam (swapsWith (.ListComp elt [⟨tg,iter,ifs,0⟩] scope p2) (some (.Name x pos')) pos.line X.env=pure true) ℜ0)
  (hf:autoParam (X.fn x=true\/X.env.scope.names.lookup x=some .local) ℜ2) (hs:autoParam (∀x,foldedSetIterable iter X.env x=pure x) ℜ3) :
  QS X (.Assign [.Name x pos'] (.ListComp elt [⟨tg,iter,ifs,0⟩] scope p2) pos) (jB (dZ wi own.length g tc te) (aQ j)):=⟨qj hN hj hx S hosc hON hc hi.h (λC s H fp=>(hg C s H fp).h) (λC s H fp=>(ht C s H fp).h) (λC s H fp=>(he C s H fp).h) hsw hf hs⟩
theorem asg(he:QE X e te)(hg:QG X tg g)(hs:autoParam (swapsWithSole [tg] e pos.line X.env=pure false) ℜ0)(hw:autoParam (swappedStores [tg] e X.env=pure none) ℜ0)
  (h1:autoParam ((assignEach [tg] X.env).map (·.2)=[assign tg X.env]) ℜ0):QS X (.Assign [tg] e pos) (jB te g):=⟨Br he.h hg.h hs hw h1⟩
theorem ret(he:QE X e te):QS X (.Return (some e) pos) (vo te):=⟨C4 he.h⟩
theorem expr(he:QE X e te)(hs:autoParam (FY e=true) ℜ0):QS X (.Expr e pos) (mW te):=⟨zH he.h (Hx hs)⟩
theorem cN{c:Expr}(hc:QT X c tc)(ha:QB X xs t)(hb:QB X ys u):QS X (.If c xs ys pos) (lN tc t u):=⟨Ft hc.h ha.h hb.h⟩
theorem eW{wi:TI}(hp:PassesOwn (model X.prog X.w) X.A X.env X.xe)(hc:X.calm=true)(hi:QI X tg iter wi)(hg:QG X tg g)(hb:QB X xs t)(hs:autoParam (∀x,foldedSetIterable iter X.env x=pure x) ℜ3):QS X (.For tg iter xs [] pos) (BF wi g t):=⟨CQ hp hc hi.h hg.h hb.h hs⟩
theorem p9{c:Expr}(hp:PassesOwn (model X.prog X.w) X.A X.env X.xe)(hc:QT X c tc)(hb:QB X xs t):QS X (.While c xs [] pos) (vw tc t):=⟨v8 hp hc.h hb.h⟩
end
end Z
namespace Ap
theorem A6(K:W.Frag)(ta:TE)(σ:St)(H:Hp)(Q:Bool->Hp->Prop):L2.Z.A6 K ta σ H Q=ta σ H λx H'=>∃k,v9 K x H' k/\Q k H':=rfl
theorem n_(ta:TE)(σ:St)(H:Hp)(Q:VK):L2.n_ ta σ H Q=ta σ H λx H1=>∃c,x=.bl c/\Q (.bl (!c)) H1:=rfl
end Ap
theorem HasFn.fN{ps:List Str}{k:Nat}(F:HasFn K mg x st ps)(S:ar N ps (af st))(len:∀vs H Q E,sp vs H Q E->vs.length=ps.length)
  (hbody:∀(f:Addr) (cdv:Value) (A:Around) (outer:List Env) (s:Shared) (H:Hp) (vs:List V) (Q:VK) (E:XK),bj k (A.deeper (envOfC x (af st) s.heap.objs.size f cdv))->sp vs H Q E ->
   ∃t,QB (i9 bf P w K mg base N x (af st) f cdv A outer s H E).AG (bw st) t/\t {nx:=λ_ H'=>Q .aJ H',rt:=Q} (start N vs) H):ai P w K mg base bf (k+1) x ps sp:=
 F.ok S len λf cdv A outer s H vs Q E hr h=>let ⟨t,q,r⟩:=hbody f cdv A outer s H vs Q E hr h;⟨t,q.h,r⟩
theorem yG{ps:List Str}{k:Nat}(F:uF K x x st f fd)(S:ar N ps (af st))(len:∀vs H Q E,sp vs H Q E->vs.length=ps.length)
  (hbody:∀(cdv:Value) (A:Around) (outer:List Env) (s:Shared) (H:Hp) (vs:List V) (Q:VK) (E:XK),bj k (A.deeper (envOfC x (af st) s.heap.objs.size f cdv))->sp vs H Q E ->
   ∃t,QB (i9 bf P w K mg base N x (af st) f cdv A outer s H E).AG (bw st) t/\t {nx:=λ_ H'=>Q .aJ H',rt:=Q} (start N vs) H):d2 P w K mg base bf (k+1) f fd ps sp:=
 F.ok S len λcdv A outer s H vs Q E hr h=>let ⟨t,q,r⟩:=hbody cdv A outer s H vs Q E hr h;⟨t,q.h,r⟩
noncomputable def hV(e:Addr)(cls:Value)(d:Option Addr)(h:Heap):Prop:=∃o vs,h.get? e=some o/\o.cls=cls/\o.dict=d/\o.data=.fields vs
inductive T where
 |il (n:Nat)|aJ|bl (b:Bool)|int (i:Int)|str (x:Str)|tup (ts:List T)|lst (ts:List T)|HS (ts:List T)|mO (lo hi:Int)|HR (ts:List T)|HQ (ks:List Key) (ts:List T)|exc (c:Value) (f:Option (Str×Int))|adr (a:Addr)|ins (a c:Addr) (ks:List Str) (ts:List T)
abbrev uD:=Addr->Prop
noncomputable def FV(K:W.Frag)(a:Addr)(xs:List V):Prop:=∃(o:Obj) (its:Array Value) (n:Nat),K.lookup a=some o/\o.cls=.type "tuple"/\o.data=.seq its n/\its.size<=sizeLine/\Vals xs its.toList
theorem Paired.ur{β:Type}{P:α->β->Prop}{ys:List β}(h:Paired P [] ys):ys=[]:=by cases h;rfl
theorem Paired.d6{β:Type}{P:α->β->Prop}{x:α}{xs:List α}{ys:List β}(h:Paired P (x::xs) ys):∃y zs,ys=y::zs/\P x y/\Paired P xs zs:=by cases h with|cons h r=>exact⟨_,_,rfl,h,r⟩
inductive Sl where
 |un|tr (t:T)|bx (c:T)|pb (c:T)
abbrev Mu:=List Sl
inductive R where
 |tr (t:T)|br (i:Nat)|fr (c:T)
structure Fx where
 K:W.Frag
 H0:Hp
 P:Nat->Option Addr
 Bc:uD
 bh:∀b,Bc b->∃o,H0 b=some o
 G:Addr->Option HO
abbrev UE:=Mu->(R->Mu->Prop)->Prop
abbrev UT:=Mu->(Bool->Mu->Prop)->Prop
abbrev UA:=Mu->(List R->Mu->Prop)->Prop
structure Ed where
 nx:Mu->Prop
 rt:R->Mu->Prop
 bk:Mu->Prop:=λ_=>False
 ct:Mu->Prop:=λ_=>False
abbrev US:=Ed->Mu->Prop
namespace Y
theorem fR{lo:Int}:∀(n:Nat) (acc:List Value) (k:Nat),acc.length=n->(∀j v,acc[j]?=some v->∃t,v=Value.int (lo+((k+j:Nat):Int)) t)->Vals ((List.range' k n).map λk=>V.int (lo+(k:Nat))) acc
 |0,acc,k,h,_=>by cases acc with|nil=>exact .nil|cons a b=>cases h
 |n+1,[],k,h,_=>by cases h
 |n+1,a::acc,k,h,g=>by
  rw[Kn,IA];refine .cons ?_ (fR n acc (k+1) (by simpa using h) λj v e=>?_)
  ·obtain⟨t,e⟩:=g 0 a rfl;exact⟨t,by simpa using e⟩
  ·obtain⟨t,e2⟩:=g (j+1) v (by simpa using e)
   exact⟨t,by rw[e2];congr 2;lia⟩
noncomputable def yR:List V->Hp->VK->Prop:=λxs H Q=>(∃j,xs=[.int j]/\∀p,H p=none->Q (.ref p) (upd H p (.mO 0 j)))\/(∃i j,xs=[.int i,.int j]/\∀p,H p=none->Q (.ref p) (upd H p (.mO i j)))
theorem nE:bc X (.type "range") yR:=by
 intro pins s σ H xs us Q I r h;rcases h with ⟨j,rfl,q⟩|⟨i,j,rfl,q⟩
 ·obtain⟨u,rfl,t,rfl⟩:=vals1 r;refine call_range_1 ?_;exact⟨.ref s.heap.objs.size,_,I.laid (o:=.mO 0 j) (λb ob q=>HW _ q) (Ib _) (show aM X.prog X.w _ _ _ (.mO 0 j) from⟨_,_,_,Ip _ rfl⟩),rfl,q _ (I.aI.fresh (Ib _))⟩
 ·obtain⟨u,w',rfl,⟨t,rfl⟩,⟨t',rfl⟩⟩:=vals2 r;refine call_range_2 ?_;exact⟨.ref s.heap.objs.size,_,I.laid (o:=.mO i j) (λb ob q=>HW _ q) (Ib _) (show aM X.prog X.w _ _ _ (.mO i j) from⟨_,_,_,Ip _ rfl⟩),rfl,q _ (I.aI.fresh (Ib _))⟩
section
variable {X:Cx} {a b c e o:Expr} {es rest:List Expr} {ua ub uc ue uo:UE} {uA uB:UT} {us:UA} {pos p p2 p3:Pos} {x:Str}
noncomputable def gL(xs:List α)(lo hi:Option Int):List α:=(xs.drop (HT.bE xs.length 0 lo)).take (HT.bE xs.length xs.length hi-HT.bE xs.length 0 lo)
end
end Y
abbrev UI:=Mu->(List T->Option (Nat×List T)->Mu->Prop)->Prop
noncomputable def uL(K:W.Frag)(tl:TE):TI:=λσ H R=>tl σ H λx H1=>∃a,x=V.ref a/\(((∃xs,bz K H1 a xs)/\R (yc K a) H1)\/((∃xs,bq K H1 a xs)/\R (tZ K a) H1))
theorem BL{l:Expr}(hl:PE X l tl):PI X tg l (uL X.K tl):=by
 intro pins s σ H R I h;refine bD (hl pins s σ H _ I h) λv s1 hq2=>?_;obtain⟨x,H1,I1,r1,q1⟩:=hq2;obtain⟨a,rfl,q⟩:=q1;cases r1;rcases q with ⟨⟨xs,hq⟩,q⟩|⟨⟨xs,hq⟩,q⟩
 ·obtain⟨its,rv,p,hz⟩:=I1.list hq;refine L4 p.isList ?_;refine⟨s1.heap.objs.size,[s1.heap.objs.size],_,_,H1,rfl,I1.kept (t':=s1.toks) λb o e=>HW _ e,kN a _,⟨_,Ip _ rfl,rfl,rfl⟩,λb hb=>?_,q⟩;have e:b=s1.heap.objs.size:=by simpa using hb
  subst e;exact I1.mH (Ib _) (I1.aI.fresh (Ib _))
 ·obtain⟨its,rv,p,hz⟩:=I1.tuple hq;refine K4 (show s1.heap.IsTuple a its.toArray from p) ?_;refine⟨s1.heap.objs.size,[s1.heap.objs.size],_,_,H1,rfl,I1.kept (t':=s1.toks) λb o e=>HW _ e,jV a _,⟨_,Ip _ rfl,rfl,rfl⟩,λb hb=>?_,q⟩;have e:b=s1.heap.objs.size:=by simpa using hb
  subst e;exact I1.mH (Ib _) (I1.aI.fresh (Ib _))
namespace Y
theorem Cm{α:Type _}{l:List α}(h:l.length=1):∃y,l=[y]:=by
 rcases l with _|⟨a,_|⟨b,t⟩⟩
 ·cases h
 ·exact⟨a,rfl⟩
 ·cases h
theorem CU{α:Type _}{l:List α}(h:l.length=2):∃y z,l=[y,z]:=by
 rcases l with _|⟨a,t⟩
 ·cases h
 ·obtain⟨b,rfl⟩:=Cm (Nat.succ.inj h);exact⟨a,b,rfl⟩
theorem qB{α:Type _}{l:List α}(h:l.length=3):∃x y z,l=[x,y,z]:=by
 rcases l with _|⟨a,t⟩
 ·cases h
 ·obtain⟨b,c,rfl⟩:=CU (Nat.succ.inj h);exact⟨a,b,c,rfl⟩
theorem Gw{α:Type _}{l:List α}(h:l.length=4):∃w x y z,l=[w,x,y,z]:=by
 rcases l with _|⟨a,t⟩
 ·cases h
 ·obtain⟨b,c,d,rfl⟩:=qB (Nat.succ.inj h);exact⟨a,b,c,d,rfl⟩
end Y
abbrev Ht:=List T->(R->List T->Prop)->Prop
noncomputable def Al(K:W.Frag)(f:Addr)(cdv:Value):Prop:=∃(o:Obj) (fd:FuncData),K.lookup f=some o/\o.data=.func fd/\fd.code=cdv
noncomputable def iw(K:W.Frag)(k:Bool)(H:Hp)(a:Addr)(xs:List V):Prop:=if k=true then bz K H a xs else bq K H a xs
noncomputable def jC(k:Bool)(h:Heap)(it a:Addr)(i:Nat):Prop:=if k=true then h.IsListIter it a i else h.IsTupleIter it a i
noncomputable def bR(k:Bool)(h:Heap)(a:Addr)(items:Array Value):Prop:=if k=true then h.IsList a items else h.IsTuple a items
theorem rh{A:Around}(k:Bool)(hh:A.handled=none)(it l:Addr)(hne:l≠it)(items:Array Value):Draws prog w A it [it,l] items.size (λi v=>items[i]?=some v) (λi h=>jC k h it l i/\bR k h l items):=by
 cases k with
 |true=>exact Draws.list hh it l hne items
 |false=>exact i5 hh it l hne items
theorem Inv.m_{s:Shared}{k:Bool}(I:Inv X pins σ H s)(h:iw X.K k H a xs):∃its:List Value,Vals xs its/\bR k s.heap a its.toArray:=by
 cases k with
 |true=>obtain⟨its,r,p,_⟩:=I.list h;exact⟨its,r,p.isList⟩
 |false=>obtain⟨its,r,p,_⟩:=I.tuple h;exact⟨its,r,p⟩
theorem Inv.x9{s:Shared}{k:Bool}{ys:List V}(I:Inv X pins σ H s)(h:iw X.K k H a xs)(h':iw X.K k H a ys):xs=ys:=by
 cases k with
 |true=>exact I.jy h h'
 |false=>exact I.i4 h h'
theorem bR.ty{k:Bool}(x:bR k h a items):∃o,h.get? a=some o/\(o.cls=.type "list"\/o.cls=.type "tuple")/\∃n,o.data=.seq items n:=by
 cases k with
 |true=>obtain⟨o,e,c,n,d⟩:=(show h.IsList a items from x);exact⟨o,e,.inl c,n,d⟩
 |false=>obtain⟨o,e,c,n,d⟩:=(show h.IsTuple a items from x);exact⟨o,e,.inr c,n,d⟩
theorem jC.ty{k:Bool}(x:jC k h it a i):∃o,h.get? it=some o/\(o.cls=.type "list_iterator"\/o.cls=.type "tuple_iterator")/\o.data=.fields #[.ref a,.int i 0]:=by
 cases k with
 |true=>obtain⟨o,e,c,d⟩:=(show h.IsListIter it a i from x);exact⟨o,e,.inl c,d⟩
 |false=>obtain⟨o,e,c,d⟩:=(show h.IsTupleIter it a i from x);exact⟨o,e,.inr c,d⟩
noncomputable def sY(k:Bool):String:=if k=true then "list_iterator" else "tuple_iterator"
theorem uM(x:h.IsTuple a items)(o:Obj):(h.push o).IsTuple a items:=by
 obtain⟨ob,e,r⟩:=x;exact⟨ob,HW _ e,r⟩
theorem Fd{k:Bool}(e:h.get? it=some {cls:=.type (sY k),data:=.fields #[.ref a,.int 0 0]}):jC k h it a 0:=by
 cases k with
 |true=>exact⟨_,e,rfl,rfl⟩
 |false=>exact⟨_,e,rfl,rfl⟩
noncomputable def oO(K:W.Frag):Sp:=λvs H Q _=>∃(a:Addr) (ns:List Int),vs=[.ref a]/\bz K H a (ns.map V.int)/\ns.length<=63/\∀H',Q (.bl true) H'
namespace Y
theorem jL:fillsNumberSlot (.type "tuple") "mul"=pure false:=
 PySem.fillsNumberSlot_seq (id:="tuple.__mul__") (r:=some (.builtin "tuple.__rmul__")) PySem.F.slot_tuple_mul.lookup (by decide +kernel) PySem.F.slot_tuple_rmul.lookup (by decide +kernel)
theorem qL:seqRepeat? (.type "tuple")=pure (some (.builtin "tuple.__mul__")):=by
 unfold seqRepeat?;rw[PySem.seqSlot_of (T:="tuple") (name:="__mul__") (id:="tuple.__mul__") PySem.F.slot_tuple_mul.lookup (by decide +kernel),PySem.seqSlot_of (T:="tuple") (name:="__rmul__") (id:="tuple.__rmul__") PySem.F.slot_tuple_rmul.lookup (by decide +kernel)];rfl
theorem xi(a:Int)(t:Tok)(l:Addr)(ob:Obj)(items:Array Value)(n:Nat)(hc:ob.cls=.type "tuple")(hd:ob.data=.seq items n):
  Meets (Builtin.«int.__rmul__» ⟨[.int a t,.ref l],[]⟩) (λ_ R s=>s.heap.get? l=some ob/\R (.ok (.ret Value.notImplemented)) s):=
 .of_wp λprog w A R s h=>by
  obtain⟨hp,g,d,tk,os⟩:=s;obtain⟨hl,h⟩:=h;obtain⟨c,dd,da,sl⟩:=ob;simp only at hc hd;subst hc hd
  wp_walk
  exact⟨_,rfl,h⟩
theorem A5(l:Addr)(items:Array Value)(ob:Obj)(n:Nat)(k:Int)(t:Tok)(hc:ob.cls=.type "tuple")(hd:ob.data=.seq items n)(hne:items.isEmpty=false)(h1:1<k)(h2:k<=1000)(hsz:items.size<=1000):
  Meets (Builtin.«tuple.__mul__» ⟨[.ref l,.int k t],[]⟩) (λ_ R s=>s.heap.get? l=some ob/\R (.ok (.ret (.ref s.heap.objs.size))) {s with heap:=s.heap.push {cls:=.type "tuple",data:=.seq ((List.replicate k.toNat items).foldl (·++·) #[])}}):=
 .of_wp λprog w A R s h=>by
  obtain⟨hp,g,d,tk,os⟩:=s;obtain⟨hl,h⟩:=h;obtain⟨c,dd,da,sl⟩:=ob;simp only at hc hd;subst hc hd;have e1:(decide (k < -(2^63)) || decide (k >= 2^63))=false:=by rw[IE (by lia),IE (by lia)];rfl
  have e2:(items.isEmpty || k == 1)=false:=by rw[hne,Jn.mpr (by lia)];rfl
  have e3:(decide (k<=0) || items.isEmpty)=false:=by rw[hne,IE (by lia)];rfl
  wp_walk using AutoSeq1.wpAny_loadPart' hl;rw[H_ (by rw[e1];exact Il)]
  have ht:IsTup (Shared.heap ⟨hp,g,d,tk,os⟩) l items:=⟨_,hl,rfl,n,rfl⟩;show wpAny _ _ (Builtin.Tuple.tupleItemsOf (.ref l) >>= _) _ _ _;refine HU (tupleItemsOf_ ht ?_);rw[H_ (by rw[e2];exact Il)]
  show wpAny _ _ (if (decide (k<=0) || items.isEmpty)=true then _ else _) _ _ _
  rw[H_ (by rw[e3];exact Il)]
  have hm:(items.size:Int)*k<=1000*1000:=Int.mul_le_mul (by lia) h2 (by lia) (by lia)
  show wpAny _ _ (if (items.size:Int)*k >(2^63-1) / 8 then _ else _) _ _ _
  rw[H_ (by lia)]
  show wpAny _ _ (if Builtin.Tuple.tupleTooMany ((items.size:Int)*k)=true then _ else _) _ _ _
  have e4:Builtin.Tuple.tupleTooMany ((items.size:Int)*k)=false:=IE (by
   have:((sizeLine:Nat):Int) >= 1000000:=by decide
   lia)
  rw[H_ (by rw[e4];exact Il)]
  have hl2:((List.replicate k.toNat items).foldl (·++·) #[]).size<=sizeLine:=by
   have fs:∀(m:Nat) (acc:Array Value),((List.replicate m items).foldl (·++·) acc).size=acc.size+m*items.size:=λm=>by
    induction m with
    |zero=>intro acc;simp
    |succ m ih=>intro acc;rw[IV,ML,ih,Mo,Lo];lia
   rw[fs];have h3:k.toNat*items.size<=1000*1000:=Nat.mul_le_mul (by lia) hsz
   have h4:(1000000:Nat)<=sizeLine:=by decide
   simp;lia
  exact HU (m:=Builtin.Tuple.tupleExact _) (J6 (Ii ⟨_,rfl,h⟩) hl2)
theorem u5(its:List Value):∀(m:Nat) (acc:List Value),(List.replicate m its.toArray).foldl (·++·) acc.toArray=(acc++(List.replicate m its).flatten).toArray:=λm acc=>foldl_rep its m acc
noncomputable def Bd(K:W.Frag):R2:=λx y H Q=>∃a k xs,x=.ref a/\y=.int k/\bq K H a xs/\xs≠[]/\xs.length<=1000/\1<k/\k<=1000/\∀p,H p=none->Q (.ref p) (upd H p (.tup (List.replicate k.toNat xs).flatten))
theorem zR:cR X (binaryOp .Mult) (Bd X.K):=by
 intro pins s σ H x y v u Q I rx ry h;obtain⟨a,k,xs,rfl,rfl,hx,hne,hsz,h1,h2,q⟩:=h;cases rx;obtain⟨t,rfl⟩:=ry;obtain⟨its,r,p,hz⟩:=I.tuple hx;obtain⟨ob,ho,hc,n,hd⟩:=id p;have hlen:=r.length;have hemp:its.toArray.isEmpty=false:=by
  cases its with
  |nil=>cases r;exact absurd rfl hne
  |cons a b=>rfl
 refine Ms (T:="tuple") (U:="int") (by decide) ⟨_,ho,hc⟩ (λs'=>Mr s' k t) jL PySem.F.fills_int_mul PySem.F.slot_int_rmul qL PySem.F.slot_int_index.lookup
  (K1 PySem.F.slot_int_rmul (Mr s k t) PySem.F.entry_int_rmul (PySem.F.args_int_rmul_2 _ _) (xi k t a ob its.toArray n hc hd)
   ⟨ho,rfl,⟨_,ho,hc⟩,K1 PySem.F.slot_tuple_mul ⟨_,ho,hc⟩ PySem.F.entry_tuple_mul (PySem.F.args_tuple_mul_2 _ _) (A5 a its.toArray ob n k t hc hd hemp h1 h2 (by rw[Im];lia)) ⟨ho,?_⟩⟩)
 have e0:=u5 its k.toNat [];rw[Jt] at e0;have e0':(List.replicate k.toNat its.toArray).foldl (·++·) #[]=(List.replicate k.toNat its).flatten.toArray:=e0;rw[e0'];refine⟨.ref s.heap.objs.size,_,I.laid (t':=s.toks) (o:=.tup (List.replicate k.toNat xs).flatten) (λb ob q=>HW _ q) (Ib _) ?_,rfl,q _ (I.aI.fresh (Ib _))⟩;refine⟨?_,_,r.rep k.toNat,dn.new _ _⟩;rw[len_rep];have h3:k.toNat*xs.length<=1000*1000:=Nat.mul_le_mul (by lia) hsz
 exact Ia h3 (by decide)
noncomputable def Bo(K:W.Frag):R2:=λx y H Q=>CH x y H Q\/Bd K x y H Q
theorem lJ(K:W.Frag)(hK:X.K=K):cR X (binaryOp .Mult) (Bo K):=by subst hK;exact bO.or zR
end Y
open PySem PySem.Spec PyProof PyProof.Rows
namespace Y
theorem eC:∀{us:List Value} {ns:List Int},IntsAre us ns->Vals (ns.map V.int) us
 |_,_,.nil=>.nil
 |_,_,.cons n t h=>.cons ⟨t,rfl⟩ (eC h)
theorem jo:∀{us:List Value} {ns:List Int},IntsAre us ns->us.length=ns.length
 |_,_,.nil=>rfl
 |_,_,.cons n t h=>by simp[jo h]
section
variable {prog:Program} {w:World} {A:Around} {E:Value->Shared->Prop} {s:Shared}
theorem oK{l:Addr}{vs:List Value}{Q:List Value->Shared->Prop}(hl:IsTup s.heap l vs.toArray)(hsz:vs.length<=sizeLine)
  (h:Q vs {s with heap:=(s.heap.push (seqObj "list" #[] 0)).update s.heap.objs.size (Obj.mapSeq (·++vs.toArray))}):wpAny (model prog w) A (collect (.ref l)) Q E s:=by
 obtain⟨o,ho,hc,n,hd⟩:=id hl;unfold collect;refine HU (wpAny_runValue (K6 entry_proto_collect' ?_));show wpAny _ _ (do again (.builtin "list.__iadd__" ⟨[<- newList [],.ref l],[]⟩)) _ _ s
 refine HU (Lc (Ii ⟨Md _ (by decide +kernel),K6 entry_list_iadd' ?_⟩))
 show wpAny _ _ (Builtin.List.listExtendWith (.ref s.heap.objs.size) (.ref l) (.ref s.heap.objs.size)) _ _ {s with heap:=s.heap.push (seqObj "list" #[] 0)}
 unfold Builtin.List.listExtendWith;have ho':(s.heap.push (seqObj "list" #[] 0)).get? l=some o:=HW _ ho;refine HU (Ny (T:="tuple") ⟨o,ho',hc⟩ ?_);have ht:(Value.type "tuple" == Value.type "tuple")=true:=by rfl
 rw[Ig (by rw[ht];simp)]
 refine HU (LM ho' hd ?_);refine HU (LM (xs:=#[]) (n:=0) (Ip _ rfl) rfl ?_);rw[H_ (by simp)]
 refine HU (L9 (xs:=#[]) (n:=0) (Ip _ rfl) rfl ?_ (Iv _) (by show (#[]++vs.toArray).size<=sizeLine+1;simp only[Mo,Im,Je];lia))
 refine Ii ?_;show wpAny (model prog w) A (load s.heap.objs.size >>= _) Q E {s with heap:=(s.heap.push (seqObj "list" #[] 0)).update s.heap.objs.size (Obj.mapSeq (·++vs.toArray))}
 refine HU (wpAny_load (Lj (Ip _ rfl) _) ?_);show wpAny _ _ (pure ((#[]:Array Value)++vs.toArray).toList) Q E _;rw[show ((#[]:Array Value)++vs.toArray).toList=vs by simp]
 exact Ii h
theorem pE{l:Addr}{vs:List Value}(hl:IsTup s.heap l vs.toArray)(hI:IntsAre vs ns)(h64:vs.length<64)
  (h:∀(out:Array Value) (ns':List Int),IntsAre out.toList ns'->ns'.Perm ns->ns'.Pairwise (·<=·)->Q (.ref (s.heap.objs.size+1)) {s with heap:=sortedAll s.heap vs out}) :
  wpAny (model prog w) A (call (.builtin "sorted") [.ref l]) Q E s:=by
 have hz:vs.length<=sizeLine:=Ia (JU h64) (by decide)
 refine Mt kind_sorted plain_sorted entry_sorted (args_sorted1 _) ?_;unfold Builtin.«sorted»;refine HU (m:=checkCount "sorted" 1 1 _) (Ii ?_);refine HU (oK hl hz ?_);refine HU (Lc ?_ hz);have hs:((s.heap.push (seqObj "list" #[] 0)).update s.heap.objs.size (Obj.mapSeq (·++vs.toArray))).objs.size=s.heap.objs.size+1:=by rw[M4,size_push']
 have ho:(((s.heap.push (seqObj "list" #[] 0)).update s.heap.objs.size (Obj.mapSeq (·++vs.toArray))).push (seqObj "list" vs.toArray 0)).get? (s.heap.objs.size+1)=some (seqObj "list" vs.toArray 0):=by
  rw[<- hs];exact Ip _ rfl
 show wpAny _ _ _ _ _ {s with heap:=((s.heap.push (seqObj "list" #[] 0)).update s.heap.objs.size (Obj.mapSeq (·++vs.toArray))).push (seqObj "list" vs.toArray 0)}
 rw[hs];refine HU (Jl (Jx slot_list_sort ⟨_,ho,rfl⟩ entry_list_sort (list_sort_tree ho hI h64 λout ns' a1 a2 a3=>⟨_,rfl,?_⟩) (args_list_sort _)));exact Ii ⟨_,rfl,h out ns' a1 a2 a3⟩
end
noncomputable def AR(K:W.Frag):List V->Hp->VK->Prop:=λxs H Q=>∃p ns,xs=[.ref p]/\bq K H p (ns.map V.int)/\ns.length<64/\∀ns':List Int,ns'.Perm ns->ns'.Pairwise (·<=·)->∀l,H l=none->Q (.ref l) (upd H l (.lst (ns'.map V.int)))
theorem tR(K:W.Frag)(hK:X.K=K):bc X (.builtin "sorted") (AR K):=by
 subst hK;intro pins s σ H xs us Q I r h;obtain⟨p,ns,rfl,hq,h64,q⟩:=h;obtain⟨u,rfl,ru⟩:=vals1 r;cases ru;obtain⟨its,rv,pl,hz⟩:=I.tuple hq;have hi:=intsAre_of rv;refine pE pl hi (by rw[jo hi];exact h64) λout ns' a1 a2 a3=>?_
 obtain⟨e,he⟩:=sortedAll_at s.heap its out;refine⟨.ref (s.heap.objs.size+1),_,I.laid (t':=s.toks) (λb ob q=>sortedAll_old q) (JT _) (show aM X.prog X.w _ _ _ (.lst (ns'.map V.int)) from⟨?_,out.toList,e,eC a1,by simpa using he⟩),rfl,q ns' a2 a3 _ (I.aI.fresh (JT _))⟩
 rw[HY,a2.length_eq];exact Ia (JU h64) (by decide)
theorem vS(l:List Nat):∀(n a:Nat),((List.range n).map (λk=>a+k)).filterMap (l[·]?)=(l.drop a).take n
 |0,_=>by simp
 |n+1,a=>by
  rw[LN,IB,List.filterMap_append,vS l n a,List.take_add_one,JF]
  cases h:l[a+n]?<;>simp[h]
theorem oa(lo hi:Option Int)(n:Nat):Builtin.Str.strSliceIndices lo hi 1 n=(List.range (HT.bE n n hi-HT.bE n 0 lo)).map (λk=>HT.bE n 0 lo+k):=by
 have ea:∀(v:Int),max 0 (min (if v<0 then v+(n:Int) else v) (n:Int))=(((if v<0 then (v+(n:Int)).toNat else min v.toNat n):Nat):Int):=by
  intro v;split<;>lia
 have e:Builtin.Str.strSliceIndices lo hi 1 n=sliceRange (HT.bE n 0 lo) (HT.bE n n hi) 1:=by
  cases lo with
  |none=>cases hi with
   |none=>rfl
   |some j=>show sliceRange 0 (max 0 (min (if j<0 then j+(n:Int) else j) (n:Int))) 1=_;rw[ea];rfl
  |some i=>cases hi with
   |none=>show sliceRange (max 0 (min (if i<0 then i+(n:Int) else i) (n:Int))) n 1=_;rw[ea];rfl
   |some j=>show sliceRange (max 0 (min (if i<0 then i+(n:Int) else i) (n:Int))) (max 0 (min (if j<0 then j+(n:Int) else j) (n:Int))) 1=_;rw[ea,ea];rfl
 rw[e];generalize HT.bE n 0 lo=a;generalize HT.bE n n hi=b;unfold sliceRange;simp only[show ((1:Int) > 0)=True from by simp,KG,Int.one_mul]
 have c:(if (a:Int)<(b:Int) then ((b:Int)-a+1-1) / 1 else 0).toNat=b-a:=by split<;>lia
 rw[c];refine List.map_congr_left λk _=>?_;lia
theorem pe(z:Str)(lo hi:Option Int):Txt.slice z lo hi=⟨((z.cps.toList.drop (HT.bE z.cps.toList.length 0 lo)).take (HT.bE z.cps.toList.length z.cps.toList.length hi-HT.bE z.cps.toList.length 0 lo)).toArray⟩:=by
 have hl:z.cps.toList.length=z.length:=IU;rw[hl];have hp:(Builtin.Str.strSliceIndices lo hi 1 z.length).filterMap (z.cps[·]?)=(z.cps.toList.drop (HT.bE z.length 0 lo)).take (HT.bE z.length z.length hi-HT.bE z.length 0 lo):=by
  rw[oa];have:=vS z.cps.toList (HT.bE z.length z.length hi-HT.bE z.length 0 lo) (HT.bE z.length 0 lo)
  simpa using this
 unfold Txt.slice;split
 ·rename_i h;rw[oa] at h;simp at h;have h2:=HT.pR z.length z.length (Ib _) hi;have h3:=HT.pR z.length 0 (Iv _) lo;have a0:HT.bE z.length 0 lo=0:=by lia
  have b0:HT.bE z.length z.length hi=z.length:=by lia
  rw[a0,b0,J5,LO,<- hl,Jy]
 ·rw[hp]
noncomputable def eY(z:Str)(lo hi:Option Int):Str:=⟨(gL z.cps.toList lo hi).toArray⟩
theorem sx(z:Str)(lo hi:Option Int):Txt.slice z lo hi=eY z lo hi:=pe z lo hi
noncomputable def GZ:V->Option Int->Option Int->Hp->VK->Prop:=λx lo hi H Q=>∃z,x=.str z/\z.length<=sizeLine/\Q (.str (eY z lo hi)) H
theorem dG:Bp X GZ:=by
 intro pins s σ H x v vl vu lo hi sl Q I rx hs pl pu h;obtain⟨z,rfl,hz,q⟩:=h;rw[<- sx] at q;obtain⟨t,rfl⟩:=rx;refine⟨"str",_,PySem.F.slot_str_getitem.lookup,Nn _ _ _,?_⟩
 cases pl<;>cases pu
 ·exact Kw (l:=none) (u:=none) (st:=none) hs rfl (LP ⟨Ia (Txt.slice_le z _ _) hz,λt' k=>⟨.str _,H,I.tok _,⟨_,rfl⟩,q⟩⟩)
 ·exact Kw (l:=none) (u:=some (_,_)) (st:=none) hs rfl (LP ⟨Ia (Txt.slice_le z _ _) hz,λt' k=>⟨.str _,H,I.tok _,⟨_,rfl⟩,q⟩⟩)
 ·exact Kw (l:=some (_,_)) (u:=none) (st:=none) hs rfl (LP ⟨Ia (Txt.slice_le z _ _) hz,λt' k=>⟨.str _,H,I.tok _,⟨_,rfl⟩,q⟩⟩)
 ·exact Kw (l:=some (_,_)) (u:=some (_,_)) (st:=none) hs rfl (LP ⟨Ia (Txt.slice_le z _ _) hz,λt' k=>⟨.str _,H,I.tok _,⟨_,rfl⟩,q⟩⟩)
noncomputable def jU(z y:Str)(i:Int):Bool:=decide (fromIndex z.length i+y.length<=z.length) && Builtin.Str.subAt z y (fromIndex z.length i)
noncomputable def ve:V->List V->Hp->VK->Prop:=λx vs H Q=>∃z y i,x=.str z/\vs=[.str y,.int i]/\Q (.bl (jU z y i)) H
theorem qE:uI X "str.startswith" ve:=by
 intro pins s σ H x xs v us Q I rx rs h;obtain⟨z,y,i,rfl,rfl,q⟩:=h;obtain⟨t,rfl⟩:=rx;obtain⟨_,_,rfl,r1,rs⟩:=Paired.d6 rs;obtain⟨_,_,rfl,r2,rs⟩:=Paired.d6 rs;obtain rfl:=Paired.ur rs;obtain⟨u1,rfl⟩:=r1;obtain⟨u2,rfl⟩:=r2;exact call_gives PySem.F.slot_str_startswith (Nn _ _ _) PySem.F.entry_str_startswith (PySem.F.args_str_startswith_3 _ _ _) (gives_str_startswith_from z y i t _ _) ⟨.bl _,H,I,rfl,q⟩
end Y
noncomputable def Fl(h:Heap)(e:Addr)(cls:Value)(d:Option Addr):Option Addr->Prop
 |none=>∃oe vs,h.get? e=some oe/\oe.cls=cls/\oe.dict=d/\oe.data=.fields vs/\vs[1]?=some Value.none
 |some T=>∃oe vs oT ts,h.get? e=some oe/\oe.cls=cls/\oe.dict=d/\oe.data=.fields vs/\vs[1]?=some (.ref T)/\T≠e/\h.get? T=some oT/\oT.data=.fields ts/\3<ts.size
theorem Fl.is(f:Fl h e cls d To):hV e cls d h:=by
 cases To with
 |none=>obtain⟨oe,vs,h1,h2,h3,h4,_⟩:=f;exact⟨oe,vs,h1,h2,h3,h4⟩
 |some T=>obtain⟨oe,vs,_,_,h1,h2,h3,h4,_⟩:=f;exact⟨oe,vs,h1,h2,h3,h4⟩
theorem hV.ok(x:hV e cls d h):aM P w H h e (.ext (hV e cls d)):=
 ⟨x,let ⟨o,_,h1,_⟩:=x;⟨o,h1⟩,λh1 h2 ⟨o,vs,a,b,c,d⟩ k=>⟨o,vs,k o a,b,c,d⟩⟩
theorem hV.one{cls':Value}{d':Option Addr}(x:hV e cls d h)(y:hV e cls' d' h):cls=cls'/\d=d':=by
 obtain⟨o,_,h1,h2,h3,_⟩:=x;obtain⟨o',_,g1,g2,g3,_⟩:=y;rw[h1] at g1;cases g1;exact⟨h2.symm.trans g2,h3.symm.trans g3⟩
structure Mv (h h':Heap) (e:Addr) (To:Option Addr) (fs:List Addr) (T':Addr):Prop where
 keep:∀b o,b≠e->(∀T,To=some T->b≠T)->b∉fs->h.get? b=some o->h'.get? b=some o
 slot:∀b o,b∈fs->h.get? b=some o->∃sl,h'.get? b=some {o with slots:=sl}
 new:(h.get? T'=none\/To=some T')/\T'∉fs
section
variable {h:Heap} {e:Addr} {cls:Value} {d:Option Addr} {base:Heap} {l:List Env}
theorem Fl.n4{T:Addr}(f:Fl h e cls d (some T))(hl:h.FunFrames base l):T∉gN l:=λm=>by
 obtain⟨_,o,ho,hd⟩:=hl.mem m;obtain⟨_,_,oT,ts,_,_,_,_,_,_,hT,hdT,_⟩:=f;rw[hT] at ho;cases ho;exact hd ts hdT
theorem xH{o:Obj}{vs:Array Value}(q:o.data=.fields vs)(g:Array Value->Array Value):o.mapFields g={o with data:=.fields (g vs)}:=by
 obtain⟨c,dd,dt,sl⟩:=o;cases q;rfl
end
section
variable {M:Model} {A:Around} {E:Value->Shared->Prop} {s:Shared} {env:Env} {outer:List Env} {L e:Addr} {cls:Value} {d:Option Addr} {base:Heap}
theorem gx{o:Obj}{vs:Array Value}{x:Value}{Q:Unit->Shared->Prop}(ho:s.heap.get? a=some o)(hd:o.data=.fields vs)(hi:i<vs.size)
  (hq:∀h':Heap,(∀b,b≠a->h'.get? b=s.heap.get? b)->h'.get? a=some {o with data:=.fields (vs.setIfInBounds i x)}->Q () {s with heap:=h'}):wpAny M A (setField (.ref a) i x) Q E s:=by
 have hm:=xH hd (·.setIfInBounds i x);refine Lw ho hd hi (hq _ (λb n=>K8 _ _ (I_ n)) ?_);have:=JA (Obj.mapFields (·.setIfInBounds i x)) ho (LD (K2 hd _));rw[hm] at this;exact this
theorem h_{T:Addr}{fl:Value}{oT:Obj}{vs ts:Array Value}{Q:Unit->Shared->Prop}(he:s.heap.get? e=some oe)(hd:oe.data=.fields vs)(h1:vs[1]?=some (.ref T))(hne:T≠e)(hT:s.heap.get? T=some oT)(hdT:oT.data=.fields ts)(h3:ts[3]?=some fl)
  (hq:∀h':Heap,(∀b,b≠T->h'.get? b=s.heap.get? b)->h'.get? T=some {oT with data:=.fields (ts.setIfInBounds 3 .none)}->Q () {s with heap:=h'}):wpAny M A (setFlight (.ref e) none) Q E s:=by
 unfold setFlight;refine HU (Jp he hd h1 ?_);rw[Ig (by simp)]
 exact gx hT hdT (Iw.mp h3).1 hq
theorem ja{vs:Array Value}{head:Value}{hn:Bool}{Q:Unit->Shared->Prop}(hfr:A.frames=some (env::outer))(hf:env.frame=some L)(hl:s.heap.FunFrames base (env::outer))(he:s.heap.get? e=some oe)(hd:oe.data=.fields vs)(hsz:1<vs.size)
  (hq:∀(h':Heap) (T':Addr) (oT:Obj) (ts:Array Value),(∀b o,b≠e->b∉gN (env::outer)->s.heap.get? b=some o->h'.get? b=some o)->(∀b o,b∈gN (env::outer)->s.heap.get? b=some o->∃sl,h'.get? b=some {o with slots:=sl}) ->
   s.heap.get? T'=none->h'.get? e=some {oe with data:=.fields (vs.setIfInBounds 1 (.ref T'))}->h'.get? T'=some oT->oT.data=.fields ts->ts[3]?=some (rawInt L)->T'≠e->T'∉gN (env::outer)->Q () {s with heap:=h'}) :
  wpAny M A (frameOf env >>= λa=>entryPlaceOf L hn >>= λpl=>EntryCells.newEntry head a .none (rawInt L) .none pl >>= λb=>setField (.ref e) 1 b) Q E s:=by
 have nfe:e∉gN (env::outer):=λm=>by
  obtain⟨_,o,ho,hnf⟩:=hl.mem m;rw[he] at ho;cases ho;exact hnf vs hd
 refine HU (wpAny_frameOf_fun hfr hl hf λh1 hs=>?_);obtain⟨hs1,hs2,hs3⟩:=hs;refine HU (wpAny_entryPlaceOf λpl hpl=>?_);unfold EntryCells.newEntry newFields;refine HU (J6 ?_ (hpl.sizeOk5 _ _ _ _ _));have e1:h1.get? e=some oe:=(hs2 e nfe).trans he;have hsize:∀b o,h1.get? b=some o->b≠h1.objs.size:=λb o q=>Iz (Io q);refine gx (HW _ e1) hd hsz λh2 k1 k2=>?_;have nfT:h1.objs.size∉gN (env::outer):=λm=>by
  obtain⟨_,o,ho,_⟩:=hl.mem m;obtain⟨sl,q⟩:=hs3 _ o ho;exact hsize _ _ q rfl
 refine hq h2 h1.objs.size _ _ (λb o n1 n2 q=>?_) (λb o m q=>?_) ?_ k2 ((k1 _ (I_ (hsize _ _ e1))).trans (Ip h1 rfl)) rfl ?_ (I_ (hsize _ _ e1)) nfT
 ·rw[k1 b n1];exact HW _ ((hs2 b n2).trans q)
 ·obtain⟨sl,q1⟩:=hs3 b o q;exact⟨sl,(k1 b λz=>nfe (by rw[<- z];exact m)).trans (HW _ q1)⟩
 ·cases q:s.heap.get? h1.objs.size with
  |none=>rfl
  |some o =>
   obtain⟨sl,q1⟩:=hs3 _ o q;exact absurd rfl (hsize _ _ q1)
 ·rcases hpl with rfl|⟨_,_,_,_,_,_,_,rfl⟩<;>simp
theorem oB{T:Addr}{l:List Env}{Q:Unit->Shared->Prop}(hl:s.heap.FunFrames base l)(f:Fl s.heap e cls d (some T))
  (hq:∀h' T',Mv s.heap h' e (some T) (gN l) T'->Fl h' e cls d (some T')->Q () {s with heap:=h'}):wpAny M A (setFlight (.ref e) none) Q E s:=by
 have nfT:=f.n4 hl;obtain⟨oe,vs,oT,ts,g1,g2,g3,g4,g5,g6,g7,g8,g9⟩:=id f;refine h_ g1 g4 g5 g6 g7 g8 (JR g9) λh2 j1 j2=>?_;refine hq h2 T ⟨λb o n1 n2 n3 q=>(j1 b (n2 T rfl)).trans q,λb o m q=>⟨o.slots,(j1 b λz=>nfT (by rw[<- z];exact m)).trans q⟩,.inr rfl,nfT⟩ ⟨_,_,_,_,(j1 e (I_ g6)).trans g1,g2,g3,g4,g5,g6,j2,rfl,?_⟩
 simp[g9]
theorem oW{Q:Unit->Shared->Prop}(hfr:A.frames=some (env::outer))(hf:env.frame=some L)(hl:s.heap.FunFrames base (env::outer))(f:Fl s.heap e cls d To)
  (hq:∀h' T',Mv s.heap h' e To (gN (env::outer)) T'->Fl h' e cls d (some T')->Q () {s with heap:=h'}):wpAny M A (noteFrame (.ref e) env) (λ_ s2=>wpAny M A (setFlight (.ref e) none) Q E s2) E s:=by
 unfold noteFrame;simp only[hf]
 cases To with
 |none =>
  obtain⟨oe,vs,g1,g2,g3,g4,g5⟩:=id f;have hsz:=(Iw.mp g5).1;refine HU (Jp g1 g4 g5 ?_);rw[H_ (by decide)]
  refine ja hfr hf hl g1 g4 hsz λh1 T' oT ts k1 k2 k3 k4 k5 k6 k7 k8 k9=>?_;refine h_ (s:={s with heap:=h1}) k4 rfl (by simp[hsz]) k8 k5 k6 k7 λh2 j1 j2=>?_
  have nT:∀b o,s.heap.get? b=some o->b≠T':=λb o q z=>by rw[z,k3] at q;cases q
  refine hq h2 T' ⟨λb o n1 _ n3 q=>?_,λb o m q=>?_,.inl k3,k9⟩ ⟨_,_,_,_,(j1 e (I_ k8)).trans k4,g2,g3,rfl,by simp[hsz],k8,j2,rfl,?_⟩
  ·exact (j1 b (nT b o q)).trans (k1 b o n1 n3 q)
  ·obtain⟨sl,q1⟩:=k2 b o m q;exact⟨sl,(j1 b (nT b o q)).trans q1⟩
  ·have:=(Iw.mp k7).1;simp[this]
 |some T =>
  obtain⟨oe,vs,oT,ts,g1,g2,g3,g4,g5,g6,g7,g8,g9⟩:=id f;have hsz:=(Iw.mp g5).1;have nfT:=f.n4 hl;refine HU (Jp g1 g4 g5 ?_);rw[Ig (by simp)]
  refine HU (Jp g7 g8 (JR g9) ?_);by_cases cL:(ts[3] == rawInt L)=true
  ·rw[Ig cL];exact Ii (oB hl f hq)
  rw[H_ cL];refine HU (gx g7 g8 g9 λh0 i1 i2=>?_);have hl0:h0.FunFrames base (env::outer):=hl.of_keeps λb o q hn=>⟨o,(i1 b λz=>by rw[z,g7] at q;cases q;exact hn ts g8).trans q,rfl⟩
  refine ja (s:={s with heap:=h0}) hfr hf hl0 ((i1 e (I_ g6)).trans g1) g4 hsz λh1 T' oT' ts' k1 k2 k3 k4 k5 k6 k7 k8 k9=>?_
  refine h_ (s:={s with heap:=h1}) k4 rfl (by simp[hsz]) k8 k5 k6 k7 λh2 j1 j2=>?_
  have nTT:T'≠T:=λz=>by
   have k3':h0.get? T'=none:=k3;rw[z,i2] at k3';cases k3'
  have nT:∀b o,s.heap.get? b=some o->b≠T':=λb o q z=>by
   have k3':h0.get? T'=none:=k3;rw[<- z] at k3';by_cases z2:b=T
   ·exact nTT (z.symm.trans z2)
   ·rw[i1 b z2,q] at k3';cases k3'
  refine hq h2 T' ⟨λb o n1 n2 n3 q=>?_,λb o m q=>?_,.inl ?_,k9⟩ ⟨_,_,_,_,(j1 e (I_ k8)).trans k4,g2,g3,rfl,by simp[hsz],k8,j2,rfl,?_⟩
  ·exact (j1 b (nT b o q)).trans (k1 b o n1 n3 ((i1 b (n2 T rfl)).trans q))
  ·have nbT:b≠T:=λz=>nfT (by rw[<- z];exact m)
   obtain⟨sl,q1⟩:=k2 b o m ((i1 b nbT).trans q);exact⟨sl,(j1 b (nT b o q)).trans q1⟩
  ·exact (i1 T' nTT).symm.trans k3
  ·have:=(Iw.mp k7).1;simp[this]
theorem tG{Q:Unit->Shared->Prop}(hfr:A.frames=some (env::outer))(hf:env.frame=some L)(hl:s.heap.FunFrames base (env::outer))(f:Fl s.heap e cls d To)
  (hq:∀h' T',Mv s.heap h' e To (gN (env::outer)) T'->Fl h' e cls d (some T')->Q () {s with heap:=h'}):wpAny M A (leaving env (.ref e)) Q E s:=by
 unfold leaving;exact HU (oW hfr hf hl f hq)
end
theorem dz.vF(x:dz P w H h)(k:∀b u,h.get? b=some u->h'.get? b=some u)(hn:H a=none)(new:aM P w (upd H a o) h' a o):dz P w (upd H a o) h':=λb u e=>by
 by_cases z:b=a
 ·subst z;rw[aa] at e;cases e;exact new
 ·rw[ae z] at e;exact (x b u e).gP (λc v _ q=>k c v q) (λc q=>by rw[ae (ao q hn)];exact q) (λc xs q=>by rw[ae (ao q hn)];exact q) λc _ _ q=>by rw[ae (ao q hn)];exact q
theorem Un.vF{fs:List Addr}(k:∀b u,h.get? b=some u->h'.get? b=some u)(h0:h.get? a=none)(hn:H a=none):Un fs ex H (upd H a o) h h' where
 keep:=λb u q _ _ _=>k b u q
 slot:=λb u q _ _ _=>⟨u.slots,k b u q⟩
 free:=λb u q n _=>by rw[ae (λz=>by rw[z,h0] at q;cases q)];exact n
 there:=λb u q _=>⟨u,k b u q⟩
 iq:=λb xs q=>by rw[ae (ao q hn)];exact q
 gy:=λb u xs q=>by rw[ae (ao q hn)];exact q
 gc:=λb ps q=>⟨#[],by rw[ae (ao q hn),q];simp⟩
theorem dz.none_of(x:dz P w H h)(e:h.get? a=none):H a=none:=by
 cases q:H a with
 |none=>rfl
 |some u =>
  have:=x a u q;obtain⟨o,ho⟩:∃o,h.get? a=some o:=by
   clear q
   induction u with
   |lst xs=>obtain⟨_,_,_,_,z⟩:=this;exact⟨_,z⟩
   |tup xs=>obtain⟨_,_,_,o,z,_⟩:=this;exact⟨_,z⟩
   |dK kvs=>obtain⟨_,_,_,_,o,_,_,z,_⟩:=this;exact⟨_,z⟩
   |dT kvs=>obtain⟨_,_,_,_,o,_,_,z,_⟩:=this;exact⟨_,z⟩
   |set S n=>obtain⟨o,_,_,_,z,_⟩:=this;exact⟨_,z⟩
   |ins C dx fs=>obtain⟨_,_,_,z,_⟩:=this;exact⟨_,z⟩
   |own x=>exact this
   |xd fs=>obtain⟨_,⟨o,_,_,z,_⟩,_⟩:=this;exact⟨_,z⟩
   |met f x=>exact⟨_,this⟩
   |mO lo hi=>obtain⟨_,_,_,z⟩:=this;exact⟨_,z⟩
   |hU o u ih=>exact⟨_,this.1⟩
   |uH ps=>obtain⟨_,z,_⟩:=this;exact⟨_,z⟩
   |ext φ=>exact this.2.1
  rw[e] at ho;cases ho
theorem dz.moved{T':Addr}{fs:List Addr}(x:dz P w H h)(mv:Mv h h' e To fs T')(f':hV e cls d h')(he:H e=some (.ext (hV e cls d)))(hT:∀T,To=some T->H T=none)(hf:∀b∈fs,H b=none):dz P w H h':=λb u q=>by
 by_cases z:b=e
 ·subst z;rw[he] at q;cases q;exact f'.ok
 ·refine (x b u q).gP (λc v hc r=>?_) (λ_ q=>q) (λ_ _ q=>q) λ_ _ _ q=>q;have tr:∃o,H c=some o:=by
   rcases hc with rfl|hc
   ·exact⟨u,q⟩
   ·exact⟨_,hc⟩
  obtain⟨o,tr⟩:=tr;refine mv.keep c v (λz2=>?_) (λT hT' z2=>?_) (λm=>?_) r
  ·rcases hc with rfl|hc
   ·exact z z2
   ·rw[z2,he] at hc;cases hc
  ·rw[z2,hT T hT'] at tr;cases tr
  ·rw[hf c m] at tr;cases tr
section
variable {X:Cx} {pins:List (Addr×Obj)} {σ:St} {H H':Hp} {s:Shared} {h':Heap}
theorem Inv.E8{ch:List Addr}(I:Inv X pins σ H s)
  (hch:∀b∈ch,X.s₀.heap.get? b=none/\b≠X.env.locals/\(∀x c,X.env.cells.lookup x=some c->c≠b)/\∀p∈X.pn++pins,p.1≠b)
  (keep:∀b o,b≠X.env.locals->b∉X.fs->b∉ch->s.heap.get? b=some o->H b=none->h'.get? b=some o)
  (slot:∀b o,b≠X.env.locals->b∈X.fs->b∉ch->s.heap.get? b=some o->H b=none->∃sl,h'.get? b=some {o with slots:=sl})
  (there:∀b o,b∉ch->s.heap.get? b=some o->∃o',h'.get? b=some o')
  (ns:∀m,s.heap.Ns X.env.locals m->h'.Ns X.env.locals m) (aI:dz X.prog X.w H h') :
  Inv X pins σ H {s with heap:=h'}:=by
 have neL:∀b o,X.s₀.heap.get? b=some o->b≠X.env.locals:=λb o e=>Iz (ID (Io e) I.ok.above);have neC:∀b o,X.s₀.heap.get? b=some o->b∉ch:=λb o e hb=>by rw[(hch b hb).1] at e;cases e
 have cellK:∀x c,X.env.cells.lookup x=some c->∀v,s.heap.IsCell c v->h'.IsCell c v:=λx c e v ⟨o,ho,hd⟩=>by
  have nch:c∉ch:=λz=>(hch c z).2.2.1 x c e rfl;by_cases hc:c∈X.fs
  ·obtain⟨sl,q⟩:=slot c o (I.uh x c e) hc nch ho (I.bW x c e);exact⟨_,q,hd⟩
  ·exact⟨o,keep c o (I.uh x c e) hc nch ho (I.bW x c e),hd⟩
 refine⟨I.ok,I.os,I.bare,⟨λb o e n hb hx=>?_,λb o e n hb hx=>?_,I.base.free,λb o e hx=>?_,I.base.iq,I.base.gy,I.base.gc⟩,?_,λx c e=>?_,I.free,I.bW,λp hp=>?_,aI,I.len⟩
 ·exact keep b o (neL b o e) hb (neC b o e) (I.base.keep b o e n hb hx) (I.base.free b o e n hx)
 ·obtain⟨sl,e1⟩:=I.base.slot b o e n hb hx;obtain⟨sl',e2⟩:=slot b _ (neL b o e) hb (neC b o e) e1 (I.base.free b o e n hx);exact⟨sl',e2⟩
 ·obtain⟨o',e1⟩:=I.base.there b o e hx;exact there b o' (neC b o e) e1
 ·obtain⟨m,hn,hl⟩:=I.loc;refine⟨m,ns m hn,λi x v e1 e2 e3=>?_⟩;obtain⟨u,r,l⟩:=hl i x v e1 e2 e3;refine⟨u,r,?_⟩;rcases l with l|⟨k,c,e,z⟩
  ·exact .inl l
  ·exact .inr ⟨k,c,e,cellK x c e _ z⟩
 ·obtain⟨v,z⟩:=I.cell x c e;exact⟨v,cellK x c e v z⟩
 ·obtain⟨e,n,ne,nf,d⟩:=I.pin p hp;have nch:p.1∉ch:=λz=>(hch p.1 z).2.2.2 p hp rfl;exact⟨keep p.1 p.2 ne nf nch e n,n,ne,nf,d⟩
structure Nw (X:Cx) (pins:List (Addr×Obj)) (H:Hp) (e:Addr) (cls:Value) (d To:Option Addr):Prop where
 tr:H e=some (.ext (hV e cls d))
 e0:X.s₀.heap.get? e=none
 d0:∀a,d=some a->X.s₀.heap.get? a=none
 t0:∀T,To=some T->H T=none/\X.s₀.heap.get? T=none/\∀p∈X.pn++pins,p.1≠T
theorem Inv.moved{T':Addr}(I:Inv X pins σ H s)(hex:X.ex=[])(f:Fl s.heap e cls d To)(nw:Nw X pins H e cls d To)(mv:Mv s.heap h' e To (gN X.stack) T')(f':Fl h' e cls d (some T')):
  Inv X pins σ H {s with heap:=h'}/\Nw X pins H e cls d (some T'):=by
 have hfr:=I.iR;have teT:∀T o,To=some T->s.heap.get? T=some o->T∉gN X.stack:=λT o hT _=>by subst hT;exact f.n4 I.stack
 have hne:∀b o,s.heap.get? b=some o->H b=none->b≠e:=λb o _ n z=>by rw[z,nw.tr] at n;cases n
 refine⟨I.E8 (ch:=To.toList) (λb hb=>?_) (λb o hL hb hc q n=>?_) (λb o _ hb hc q n=>?_) (λb o hc q=>?_) (λm hm=>?_) (I.aI.moved mv f'.is nw.tr (λT hT=>(nw.t0 T hT).1) hfr),nw.tr,nw.e0,nw.d0,λT hT=>?_⟩
 ·cases To with
  |none=>cases hb
  |some T =>
   have:b=T:=by simpa using hb
   subst this;obtain⟨h1,h2,h3⟩:=nw.t0 b rfl;obtain⟨_,_,oT,ts,_,_,_,_,_,_,hT,hdT,_⟩:=f;refine⟨h2,λz=>?_,λx c hc z=>?_,h3⟩
   ·obtain⟨m,⟨o,es,ep,ho,hd,_⟩,_⟩:=I.loc;rw[<- z,hT] at ho;cases ho;rw[hdT] at hd;cases hd
   ·obtain⟨v,o,ho,hd⟩:=I.cell x c hc;rw[z,hT] at ho;cases ho;rw[hdT] at hd;cases hd
 ·refine mv.keep b o (hne b o q n) (λT hT z=>hc (by rw[hT,z];simp)) (λm=>?_) q
  exact (Ih.mp (I.j0 b m)).elim hL hb
 ·by_cases m:b∈gN X.stack
  ·exact mv.slot b o m q
  ·exact⟨o.slots,mv.keep b o (hne b o q n) (λT hT z=>hc (by rw[hT,z];simp)) m q⟩
 ·by_cases z:b=e
  ·obtain⟨o',_,q',_⟩:=f'.is;exact⟨o',by rw[z];exact q'⟩
  ·by_cases m:b∈gN X.stack
   ·obtain⟨sl,q2⟩:=mv.slot b o m q;exact⟨_,q2⟩
   ·exact⟨o,mv.keep b o z (λT hT z=>hc (by rw[hT,z];simp)) m q⟩
 ·obtain⟨o,es,ep,ho,r⟩:=hm;have n:=I.free;by_cases mm:X.env.locals∈gN X.stack
  ·obtain⟨sl,q2⟩:=mv.slot _ o mm ho;exact⟨_,es,ep,q2,r⟩
  ·refine⟨o,es,ep,mv.keep _ o (hne _ o ho n) (λT hT z=>?_) mm ho,r⟩;subst hT;obtain⟨_,_,oT,ts,_,_,_,_,_,_,hT,hdT,_⟩:=f;rw[z,hT] at ho;cases ho;obtain⟨hd,_⟩:=r;rw[hdT] at hd;cases hd
 ·cases hT;rcases mv.new.1 with q|q
  ·refine⟨I.aI.none_of q,?_,λp hp z=>?_⟩
   ·cases q2:X.s₀.heap.get? T' with
    |none=>rfl
    |some o =>
     obtain⟨o',q3⟩:=I.base.there T' o q2 (by rw[hex];simp)
     rw[q] at q3;cases q3
   ·rw[<- z,(I.pin p hp).1] at q;cases q
  ·exact nw.t0 T' q
noncomputable def f_(X:Cx)(cls:Value)(d:Option Addr)(e:Addr)(σ:St)(H:Hp):Prop:=∀(pins:List (Addr×Obj)) (s:Shared) (To:Option Addr),Inv X pins σ H s->Fl s.heap e cls d To->Nw X pins H e cls d To->X.xe (.ref e) s
noncomputable def mM(P:Program)(w:World):mQ:=λouter H s E x s'=>∃(e T:Addr) (cls:Value) (d:Option Addr) (H':Hp),x=.ref e/\s'.os=s.os/\AllBare s'.gens/\Un (gN outer) [] H H' s.heap s'.heap/\dz P w H' s'.heap/\Fl s'.heap e cls d (some T)/\s.heap.get? e=none/\(∀a,d=some a->s.heap.get? a=none)/\s.heap.get? T=none/\H' e=some (.ext (hV e cls d))/\H' T=none/\E cls (some e) H'
end
theorem ji{base:Heap}{cd:Value}{A:Around}{outer:List Env}{s0:Shared}{H0:Hp}{E:XK}(hE:E cls (some e) H):
  f_ (i9 (mM P w) P w K mg base N qual scope f cd A outer s0 H0 E) cls d e σ H:=by
 intro pins s To I fl nw;refine tG (base:=base) I.ok.frames rfl I.stack fl λh' T' mv f'=>?_;obtain⟨I2,nw2⟩:=I.moved rfl fl nw mv f';exact⟨e,T',cls,d,H,rfl,I.os,I.bare,I2.base,I2.aI,f',nw.e0,nw.d0,(nw2.t0 T' rfl).2.1,nw.tr,(nw2.t0 T' rfl).1,hE⟩
section
variable {X:Cx}
noncomputable def Cj(X:Cx)(σ:St)(H:Hp):XK:=λcls de H'=>∃(e:Addr) (d:Option Addr),de=some e/\H' e=some (.ext (hV e cls d))/\(H e=none->(∀a,d=some a->H a=none)->f_ X cls d e σ H')
noncomputable def vY(X:Cx)(sp:Sp)(t:TA):TE:=λσ H Q=>t σ H λvs H1=>sp vs H1 Q (Cj X σ H1)
theorem BI{k:Nat}{ps:List Str}{p pos:Pos}{e:Expr}{t:TA}(F:ai X.prog X.w X.K X.mg X.base (mM X.prog X.w) k x ps sp)(hr:bj k X.A)(hg:Gl X x)(hex:X.ex=[])(ha:PA X (e::es) t)(h1:autoParam (cG e=true) ℜ0)(h2:autoParam (es.all cG=true) ℜ0)(hdb:autoParam ((x ==("__debug__":Str))=false) ℜ1):
  PE X (.Call (.Name x p) (e::es) [] pos) (vY X sp t):=by
 intro pins s σ H Q I h;obtain⟨f,fd,hm,hk,hb,G⟩:=F.ex;refine JC (d5 I hg hm ?_ hdb);refine M0 (h₀:=X.base) I.ok.mod.j_ hk (bD (ha pos pins s σ H _ I h) λus s1 ⟨vs,H1,I1,r,q⟩=>⟨I1.fo,?_⟩) (bF h1) (plain_any h2);have hl:us.length=ps.length:=by rw[<- r.length];exact G.len _ _ _ _ q
 have hb2:=hb s1 us I1.fo (by rw[Jd];exact hl)
 rw[Jd] at hb2;refine KP (LK (G.run X.A X.stack s1 H1 ⟨us,[]⟩ us vs Q (Cj X σ H1) hr I1.A2 hb2 r q) λr s' hq=>?_)
 cases r with
 |error e =>
  obtain⟨ea,T,cls,d,H',rfl,ho,hbare,un,aI,fl,n1,n3,n2,tr,nT,ea',d',hea,tr',hd⟩:=hq;cases hea;obtain⟨_,rfl⟩:=fl.is.one (show hV ea cls d' s'.heap from (aI _ _ tr').1);have I2:=I1.xX (ch:=[]) ho un aI hbare (λb z=>absurd z (by simp))
  have n0:∀b,s1.heap.get? b=none->X.s₀.heap.get? b=none:=λb z=>by
   cases q2:X.s₀.heap.get? b with
   |none=>rfl
   |some o =>
    obtain⟨o',q3⟩:=I1.base.there b o q2 (by rw[hex];simp)
    rw[z] at q3;cases q3
  exact hd (I1.aI.none_of n1) (λa z=>I1.aI.none_of (n3 a z)) pins s' (some T) I2 fl ⟨tr,n0 _ n1,λa z=>n0 _ (n3 a z),λT' hT=>by
   cases hT;exact⟨nT,n0 _ n2,λp hp z=>by rw[<- z,(I1.pin p hp).1] at n2;cases n2⟩⟩
 |ok fl =>
  cases fl with
  |ret u=>exact I1.after hq
  |next=>exact False.elim hq
  |brk=>exact False.elim hq
  |cont=>exact False.elim hq
structure AF (K:W.Frag) (C:Addr):Prop where
 q:W.excIn K C [.type "ValueError",.type "Exception",.type "BaseException",.type "object"] "ValueError.__new__"=true
theorem AF.obj(c:AF K C):∃bm N nm qn bs hd sn sub ab col dd k0 k1 k2 k3 k5,K.lookup C=some (excClassObj nm qn C N bs bm hd sn sub ab col dd k0 k1 k2 k3 k5 "ValueError.__new__") /\
  (∀h:Heap,K.In h->OwnTail h [.type "ValueError",.type "Exception",.type "BaseException",.type "object"] bm)/\(∃oN,K.lookup N=some oN)/\∀h:Heap,K.In h->∃mN,h.Ns N mN/\mN "__init__"=none:=by
 have q:=c.q;unfold W.excIn at q
 split at q
 ·rename_i dd cd sl ho
  split at q
  ·rename_i C2 bm k0 k1 k2 k3 nw k5 hm hs;simp only[beq_iff_eq,Bool.not_eq_true',Bool.and_eq_true] at q;obtain⟨⟨⟨⟨⟨z1,z2⟩,z3⟩,z4⟩,z5⟩,z6⟩:=q;subst z1;subst z2;obtain⟨nm,bs,mr,ns,qn,hd,sn,sub,ab,col,dl⟩:=cd;dsimp only at hm z3 z5 z6 ho;subst hm;subst z3;obtain⟨l⟩:=sl;have hs':l=[k0,k1,k2,k3,some (.builtin "ValueError.__new__"),k5]:=hs;subst hs';refine⟨bm,ns,nm,qn,bs,hd,sn,sub,ab,col,dd,k0,k1,k2,k3,k5,ho,λh j_=>W.tail_of_in j_ z4,?_,λh j_=>⟨_,.of_isNs (W.isNs_of_in j_ z5),W.nsMap_none_of_in j_ z5 z6⟩⟩;unfold W.nsOkIn at z5
   split at z5
   ·rename_i hN;exact⟨_,hN⟩
   ·cases z5
  ·cases q
 ·cases q
end
abbrev Xw:=T->Mu->Prop
abbrev ph:=Value->Option Addr->Addr->St->Hp->Prop
abbrev UX:=Mu->(R->Mu->Prop)->Xw->Prop
abbrev HG:=Ed->Xw->Mu->Prop
noncomputable def Cc(K:W.Frag)(mg:Str->Option Value)(x:Str)(f:Addr)(cdv:Value):Prop:=mg x=some (.ref f)/\∃(o:Obj) (fd:FuncData),K.lookup f=some o/\o.data=.func fd/\fd.code=cdv
abbrev t6(X:Cx)(pins:List (Addr×Obj))(E:Value->Shared->Prop):Cx:={X with xe:=E,pn:=X.pn++pins}
abbrev D8(X:Cx)(e:Addr):Cx:={X with A:=X.A.mark (some (.ref e)),calm:=false,xe:=λ_ _=>False}
section
variable {X:Cx} {pins pins':List (Addr×Obj)} {σ:St} {H:Hp} {s:Shared} {E:Value->Shared->Prop} {e:Addr}
theorem Inv.Fw(I:Inv X pins σ H s):Inv (t6 X pins E) [] σ H s:=
 ⟨⟨I.ok.mod,I.ok.kind,I.ok.glob,I.ok.blt,I.ok.above,I.ok.inj,I.ok.has,I.ok.xT,I.ok.hd,I.ok.frames,I.ok.yn,I.ok.AU,I.ok.bs,I.ok.pd,I.ok.jP,I.ok.kr,I.ok.eX,I.ok.u0,I.ok.tabs⟩,
  I.os,I.bare,I.base,I.loc,I.cell,I.free,I.bW,λp hp=>I.pin p (by simpa using hp),I.aI,I.len⟩
theorem Inv.iH(I:Inv (t6 X pins E) pins' σ H s):Inv X pins σ H s:=
 ⟨⟨I.ok.mod,I.ok.kind,I.ok.glob,I.ok.blt,I.ok.above,I.ok.inj,I.ok.has,I.ok.xT,I.ok.hd,I.ok.frames,I.ok.yn,I.ok.AU,I.ok.bs,I.ok.pd,I.ok.jP,I.ok.kr,I.ok.eX,I.ok.u0,I.ok.tabs⟩,
  I.os,I.bare,I.base,I.loc,I.cell,I.free,I.bW,λp hp=>I.pin p (Jv _ hp),I.aI,I.len⟩
theorem Inv.Az(I:Inv X pins σ H s):Inv (D8 X e) pins σ H s:=
 ⟨⟨I.ok.mod,I.ok.kind,I.ok.glob,I.ok.blt,I.ok.above,I.ok.inj,I.ok.has,I.ok.xT,(λz=>nomatch z),I.ok.frames,I.ok.yn,I.ok.AU,I.ok.bs,I.ok.pd,I.ok.jP,I.ok.kr,I.ok.eX,I.ok.u0,I.ok.tabs⟩,
  I.os,I.bare,I.base,I.loc,I.cell,I.free,I.bW,I.pin,I.aI,I.len⟩
theorem SP.iH{f:Flow}(h:SP (t6 X pins E) pins' D f s):SP X pins D f s:=by
 cases f with
 |next=>obtain⟨σ',H',I,q⟩:=h;exact⟨σ',H',I.iH,q⟩
 |brk=>obtain⟨σ',H',I,q⟩:=h;exact⟨σ',H',I.iH,q⟩
 |cont=>obtain⟨σ',H',I,q⟩:=h;exact⟨σ',H',I.iH,q⟩
 |ret u=>obtain⟨v,σ',H',I,r,q⟩:=h;exact⟨v,σ',H',I.iH,r,q⟩
theorem SP.GX{f:Flow}(hd:X.A.handled=none)(hc:X.calm=true)(h:SP (D8 X e) pins D f s):SP X pins D f s:=by
 have go:∀{σ':St} {H':Hp} {s':Shared},Inv (D8 X e) pins σ' H' s'->Inv X pins σ' H' s':=λI =>
  ⟨⟨I.ok.mod,I.ok.kind,I.ok.glob,I.ok.blt,I.ok.above,I.ok.inj,I.ok.has,I.ok.xT,λ_=>hd,I.ok.frames,I.ok.yn,I.ok.AU,I.ok.bs,I.ok.pd,I.ok.jP,I.ok.kr,I.ok.eX,I.ok.u0,I.ok.tabs⟩,
   I.os,I.bare,I.base,I.loc,I.cell,I.free,I.bW,I.pin,I.aI,I.len⟩
 cases f with
 |next=>obtain⟨σ',H',I,q⟩:=h;exact⟨σ',H',go I,q⟩
 |brk=>obtain⟨σ',H',I,q⟩:=h;exact⟨σ',H',go I,q⟩
 |cont=>obtain⟨σ',H',I,q⟩:=h;exact⟨σ',H',go I,q⟩
 |ret u=>obtain⟨v,σ',H',I,r,q⟩:=h;exact⟨v,σ',H',go I,r,q⟩
end
abbrev UJ:=Mu->(Mu->Prop)->Prop
theorem jS(a b:Str):(a++b).length=a.length+b.length:=Mo
theorem lH{n:Nat}(h:n<=40000):n<=sizeLine:=Ia h (by decide)
structure qf (K:W.Frag) (C:Addr):Prop where
 ga:W.findIn K (.ref C) "__getattribute__"=some (some (.builtin "BaseException.__getattribute__"))
 gt:W.findIn K (.ref C) "__getattr__"=some none
 ck:W.findIn K (.ref C) "__class__"=some (some (.builtin "object.__class__"))
 sp:W.specialIn K (.builtin "object.__class__") "__get__"=some (some (.builtin "getset_descriptor.__get__"))
 tk:W.takesIn K (.builtin "object.__class__")=some true
 mo:W.mroIn K C (.type "object")=some true
 mb:W.mroIn K C (.type "BaseException")=some true
section
variable {X:Cx} {pins:List (Addr×Obj)} {σ:St} {H:Hp} {s:Shared}
theorem name_goes{A:Around}{pos:Pos}{Q:Unit->Shared->Prop}(I:Inv X pins σ H s)(hN:X.N.Nodup)(hi:X.N[i]?=some x)(hk:X.env.kindOf x=some .local)
  (hq:∀s',Inv X pins (σ.set i none) H s'->Q () s'):wpAny M A (do bindName X.env x .none;unbindBehindTheSuite X.env x pos) Q E s:=by
 obtain⟨m,hn,hl⟩:=id I.loc;have hcls:(X.env.scope.kind == .class || (X.env.scope.kind == .module && X.env.locals != X.env.globals))=false:=by rw[I.ok.kind];rfl
 have uh:=I.uh;refine wpAny_nameGoes_keeps hk hn hcls λh' v hn' hs=>hq _ ?_;have keep:∀b o,b≠X.env.locals->s.heap.get? b=some o->h'.get? b=some o:=λb o n q=>(hs.2 b n).trans q;have neL:∀b o,X.s₀.heap.get? b=some o->b≠X.env.locals:=λb o e=>Iz (ID (Io e) I.ok.above);refine⟨I.ok,I.os,I.bare,⟨λb o e n hb hx=>keep b o (neL b o e) (I.base.keep b o e n hb hx),λb o e n hb hx=>?_,I.base.free,λb o e hx=>?_,I.base.iq,I.base.gy,I.base.gc⟩,⟨_,hn',λj y v' e1 e2 e3=>?_⟩,λy c e=>?_,I.free,I.bW,λp hp=>?_,λb ob e=>?_,by simpa using I.len⟩
 ·obtain⟨sl,e1⟩:=I.base.slot b o e n hb hx;exact⟨sl,keep b _ (neL b o e) e1⟩
 ·obtain⟨o',e1⟩:=I.base.there b o e hx;exact⟨o',keep b _ (neL b o e) e1⟩
 ·by_cases hj:j=i
  ·subst hj;have:j<σ.length:=by rw[I.len];exact (HZ.mp hi).1
   rw[Ke this] at e2;cases e2
  ·rw[KO (I_ hj)] at e2;obtain⟨u',r',q⟩:=hl j y v' e1 e2 e3;refine⟨u',r',?_⟩;rcases q with ⟨k,e⟩|⟨k,c,e,z⟩
   ·refine .inl ⟨k,?_⟩;have:y≠x:=λe=>hj (jx hN e1 (e ▸ hi));simp[this,e]
   ·exact .inr ⟨k,c,e,z.sameBut hs (uh y c e)⟩
 ·obtain⟨w',z⟩:=I.cell y c e;exact⟨w',z.sameBut hs (uh y c e)⟩
 ·obtain⟨e,n,ne,nf,d⟩:=I.pin p hp;exact⟨keep _ _ ne e,n,ne,nf,d⟩
 ·refine (I.aI b ob e).gP (λc w' hc q=>keep c w' ?_ q) (λ_ q=>q) (λ_ _ q=>q) λ_ _ _ q=>q;rintro rfl;rcases hc with rfl|hc
  ·rw[I.free] at e;cases e
  ·rw[I.free] at hc;cases hc
end
section
variable {prog:Program} {w:World} {A:Around} {E:Value->Shared->Prop} {s:Shared} {K:W.Frag} {x C:Addr} {ox:Obj} {od:Option Obj}
theorem zJ{tk:Tok}{v:Value}{Q:Fin->Shared->Prop}(X:K.In s.heap)(I:W.InstAt s.heap x ox C od)(hf:W.findObj K C od name=some (.value v))(h:Q (.done (.ret v)) s):wpAny (model prog w) A (Builtin.«object.__getattribute__» ⟨[.ref x,.str name tk],[]⟩) Q E s:=by
 have L0:=I.type (M:=model prog w);have L1:=W.looks_find (M:=model prog w) X I hf;obtain⟨hh,g,d,t,os⟩:=s;unfold Builtin.«object.__getattribute__»
 repeat (any_goals (first|assumption|with_reducible refine HU (L0.at ?_)|with_reducible refine HU (L1.at ?_)|wp_step))
theorem Bz{v:Value}{fill expr:Bool}(KX:qf K C)(X:K.In s.heap)(I:W.InstAt s.heap x ox C od)(hh:W.handedIn v=true)
  (ent:∀(A':Around) (Q':Fin->Shared->Prop) (E':Value->Shared->Prop) (t':Nat),Q' (.done (.ret v)) {s with toks:=t'}->wpAny (model prog w) A' (Builtin.«object.__getattribute__» ⟨[.ref x,.str name s.toks],[]⟩) Q' E' {s with toks:=t'})
  (h:Q v {s with toks:=s.toks+1}):wpAny (model prog w) A (getAttrBy (.ref x) (.str name s.toks) fill expr) Q E {s with toks:=s.toks+1}:=by
 have L0:=I.type (M:=model prog w);have L1:=LZ (M:=model prog w) X KX.ga;have L2:=LZ (M:=model prog w) X KX.gt;have LB:W.Looks (model prog w) s.heap (isInstance (.ref x) (.type "BaseException")) true:=L0.andThen (W.looks_mroIn (M:=model prog w) X KX.mb);have fb:=PySem.F.attr_ValueError.ga.bind (.ref x);have n1:(onTheHeap (Value.ref C) && Value.builtin "BaseException.__getattribute__" == Value.builtin "object.__getattribute__")=false:=by
  rw[show (Value.builtin "BaseException.__getattribute__" == Value.builtin "object.__getattribute__")=false from by decide +kernel];rfl
 obtain⟨hp,g,d,t,os⟩:=s;unfold getAttrBy;refine wpAny_holding (wpAny_bind (L0.at (wpAny_bind (L1.at ?_))));dsimp only;rw[if_neg (by rw[n1];decide)]
 unfold getAttrByItsOwn hookBefore;rw[Ig (show onTheHeap (Value.ref C)=true from rfl)];refine HU (L2.at (HU (Ld (Jl ?_))));unfold callGetattribute boundAndCalled;rw[show (expr && onTheHeap (Value.builtin "BaseException.__getattribute__"))=false from Bool.and_false _,H_ (by decide),fb]
 refine HU (Ii (KP ?_));refine KQ PySem.F.attr_ValueError.ga.plain PySem.F.entry_bexc_ga ?_;have hk:builtinKind "BaseException.__getattribute__"=some .slot:=by decide +kernel
 have iM:splitId "BaseException.__getattribute__"=some ("BaseException","__getattribute__"):=by decide +kernel
 have ha:=PySem.F.args_bexc_ga (.ref x) (.str name t);simp only[checkBuiltinCall,hk,iM];show wpAny _ _ (isInstance (.ref x) (.type "BaseException") >>= _) _ _ _;refine HU (LB.at ?_);rw[H_ (by decide)]
 unfold argsOk at ha;have fin:∀(A':Around),wpAny (model prog w) A (handedOut v) Q E ⟨hp,g,d,t+1,os⟩:=λ_=>by rw[W.handedOut_of hh];exact Ii h
 cases q:Manifest.signature? "BaseException.__getattribute__" with
 |none =>
  refine Ii (ent _ _ _ _ ?_);exact fin A
 |some sg =>
  rw[q] at ha;have ha':Bind.checkArgs "BaseException.__getattribute__" sg ⟨[.ref x,.str name t],[]⟩=pure ():=ha;show wpAny _ _ (Bind.checkArgs "BaseException.__getattribute__" sg ⟨[.ref x,.str name t],[]⟩) _ _ _;rw[ha'];refine Ii (ent _ _ _ _ ?_);exact fin A
theorem zj{v:Value}{expr:Bool}(KX:qf K C)(X:K.In s.heap)(I:W.InstAt s.heap x ox C od)(hf:W.findObj K C od name=some (.value v))(hh:W.handedIn v=true)
  (h:Q v {s with toks:=s.toks+1}):wpAny (model prog w) A (getAttr (.ref x) name expr) Q E s:=by
 unfold getAttr;refine HU (wpAny_mkText ?_);exact Bz KX X I hh (λA' Q' E' t' z=>zJ (s:={s with toks:=t'}) X I hf z) h
theorem zM{vs:Array Value}{v:Value}{cd:ClassData}{Q:Unit->Shared->Prop}(KX:qf K C)(X:K.In s.heap)(hx:s.heap.get? x=some ox)(hcl:ox.cls=.ref C)(hdn:ox.dict=none)(hfd:ox.data=.fields vs)
  (hc:W.clsIn K C=some cd) (hmr:cd.mro=[.ref C,.ref S,.type "ValueError",.type "Exception",.type "BaseException",.type "object"]) (hhd:cd.hasDict=true)
  (hs:W.findIn K (.ref C) "__setattr__"=some (some (.builtin "object.__setattr__"))) (ha:W.findIn K (.ref C) name=some none)
  (h:∀(h':Heap) (tk':Nat),h'.get? x=some {ox with dict:=some s.heap.objs.size}->h'.Ns1 s.heap.objs.size (λy=>if y=name then some v else none)->(∀b o,b≠x->s.heap.get? b=some o->h'.get? b=some o)->Q () {s with heap:=h',toks:=tk'}) :
  wpAny (model prog w) A (setAttr (.ref x) name v) Q E s:=by
 have I:W.InstAt s.heap x ox C none:=⟨hx,hcl,by unfold W.notCls;rw[hfd],by rw[hdn];trivial⟩
 refine W.set_plain X I hs ?_;have SF:=PySem.F.store_ValueError;obtain⟨hp,g,d,t,os⟩:=s;have L0:=I.type (M:=model prog w);have sub:W.Looks (model prog w) hp (isInstance (.ref x) (.type "object")) true:=L0.andThen (W.looks_mroIn (M:=model prog w) X KX.mo);refine KQ SF.slot.plain SF.entry (@W.check_slot (model prog w) _ _ ⟨hp,g,d,t+1,os⟩ "object.__setattr__" "object" "__setattr__" (.ref x) [.str name t,v] [] _ SF.kind SF.split sub (SF.args (.ref x) (.str name t) v) ?_);have hm:W.Looks (model prog w) hp (mroOf (.ref C)) cd.mro:=(W.looks_clsIn X hc).andThen .now;have hpass:=SF.passes (.ref x);rw[W.osa_eq,refuse_eq];refine HU (HU (L0.at (HU (hm.at ?_))));rw[hmr,refuseLoop_ref,refuseLoop_ref,hpass];refine Ii (HU (L0.at (HU ((LZ (M:=model prog w) X ha).at (HU ((show W.Looks (model prog w) hp (Builtin.ObjectAttr.storeTaker? none) none from .now).at ?_))))));obtain⟨oc,odt,oda,osl⟩:=ox;obtain rfl:oc=.ref C:=hcl;obtain rfl:odt=none:=hdn;obtain rfl:oda=.fields vs:=hfd;have hx':hp.get? x=some ⟨.ref C,none,.fields vs,osl⟩:=hx;have hxs:x≠hp.objs.size:=Iz (Io hx');refine HU (Ii (HU (HU (wpAny_loadPart hx' (HU (W.Looks.here (s:=⟨hp,g,d,t+1,os⟩) (W.looks_clsIn X hc) ?_))))));rw[hhd];have hx₁:(hp.push {cls:=.type "dict",data:=.dict #[]}).get? x=some ⟨.ref C,none,.fields vs,osl⟩:=HW _ hx';refine HU (wpAny_alloc' ?_);refine HU (wpAny_update' hx₁ ?_);refine Ii ?_;have hgd:((hp.push {cls:=.type "dict",data:=.dict #[]}).update x λo=>{cls:=o.cls,dict:=some hp.objs.size,data:=o.data,slots:=o.slots}).get? hp.objs.size
   = some {cls:=.type "dict",data:=.dict #[]}:=
  (Lf _ _ _ _ hxs.symm).trans (Heap.get?_push_at rfl rfl)
 have hnd:((hp.push {cls:=.type "dict",data:=.dict #[]}).update x λo=>{cls:=o.cls,dict:=some hp.objs.size,data:=o.data,slots:=o.slots}).Ns hp.objs.size (λ_=>none):=
  ⟨_,#[],_,hgd,rfl,λe he=>absurd he (by simp),λ_=>rfl⟩
 show wpAny _ _ (Builtin.ObjectAttr.storeInDict hp.objs.size (.str name t) name v) _ _ _;unfold Builtin.ObjectAttr.storeInDict Builtin.ObjectAttr.newKeyGuard;refine HU (Ii (HU (wpAny_nsSet1 (Heap.Ns1.of_empty hnd) λh' hn' hs=>?_)));obtain⟨oD,esD,epD,hoD,hdD,hcD⟩:=hn'.count (PySem.Within.cons name v PySem.Within.nil);refine HU (wpAny_lookBehind hoD (by rw[hdD];exact pastItsLine_dict (Ia hcD (by rw[Iq,Je,Js];lia))) ?_)
 refine Ii (h h' _ ?_ hn' λb o hb q=>?_)
 ·exact (hs.2 x hxs).trans (JA _ hx₁ rfl)
 ·exact (hs.2 b (Iz (Io q))).trans ((Lf _ _ _ _ hb).trans (HW _ q))
end
abbrev sC:List Value:=[.type "ValueError",.type "Exception",.type "BaseException",.type "object"]
structure eV (K:W.Frag) (C S f:Addr) (name:Str):Prop where
 lk:∃nm qn N bs sn sub ab col dd k0 k1 k2 k3 k5,K.lookup C=some (excClassObj nm qn C N bs (.ref S::sC) true sn sub ab col dd k0 k1 k2 k3 k5 "ValueError.__new__")
 sb:AF K S
 j_:qf K C
 hi:W.findIn K (.ref C) "__init__"=some (some (.ref f))
 hf:W.typeIn K (.ref f)=some (.type "function")
 hs:W.findIn K (.ref C) "__setattr__"=some (some (.builtin "object.__setattr__"))
 ha:W.findIn K (.ref C) name=some none
 kp:W.keepIn K (.ref C)=true
 si:W.findCls K (.ref S) (.type "type") "__init__"=some (.val (.builtin "ValueError.__init__"))
 sr:W.readsIn K S (.type "type")=true
 sg:W.specialIn K (.ref S) "__getattribute__"=some (some (.builtin "type.__getattribute__"))
section
variable {prog:Program} {w:World} {A:Around} {E:Value->Shared->Prop} {s:Shared} {K:W.Frag} {C S f:Addr} {name:Str}
theorem eV.tail(x:eV K C S f name)(X:K.In h):OwnTail h sC (.ref S::sC):=by
 obtain⟨bm,N,nm,qn,bs,hd,sn,sub,ab,col,dd,k0,k1,k2,k3,k5,lk,tl,_,hns⟩:=x.sb.obj;obtain⟨mN,hN,hni⟩:=hns h X;exact .own (X _ _ lk) hN hni .base
theorem tF{vs:Array Value}{rest:List Value}(x:eV K C S f name)(X:K.In s.heap)(he:s.heap.get? e=some oe)(hcls:oe.cls=.ref C)(hfd:oe.data=.fields vs){a0:Addr}(h0:vs[0]?=some (.ref a0))(hrest:rest.length<=sizeLine)
  (hq:∀(h':Heap) (a1:Addr),h'.get? e=some {oe with data:=.fields (vs.setIfInBounds 0 (.ref a1))}->(∀b o,b≠e->s.heap.get? b=some o->h'.get? b=some o)->Q .none {s with heap:=h'}) :
  wpAny (model prog w) A (call (.builtin "ValueError.__init__") (.ref e::rest)) Q E s:=by
 obtain⟨nm,qn,N,bs,sn,sub,ab,col,dd,k0,k1,k2,k3,k5,lk⟩:=x.lk;have F:=PySem.F.excBase_ValueError;have T:=x.tail X;have hC:=X _ _ lk;obtain⟨hp,g,d,t,os⟩:=s;refine KP (KQ F.init.plain F.initEntry (wpAny_check_init_subU F T hC he hcls ?_));obtain⟨oc,odt,oda,osl⟩:=oe;obtain rfl:oda=.fields vs:=hfd
 wp_walk
 rw[h0]
 wp_walk
 have hsz:=(Iw.mp h0).1;have he1:(hp.push {cls:=.type "tuple",data:=.seq rest.toArray}).get? e=some ⟨oc,odt,.fields vs,osl⟩:=HW _ he;rw[Ig hsz];refine wpAny_update' he1 ?_
 wp_walk
 refine hq _ hp.objs.size ?_ λb o hb q=>?_
 ·exact JA _ he1 rfl
 ·exact (Lf _ _ _ _ hb).trans (HW _ q)
theorem j7{rest:List Value}{Q:Fin->Shared->Prop}(x:eV K C S f name)(X:K.In s.heap)(hrest:rest.length<=sizeLine)
  (hq:∀h' e,Heap.MadeExcOf s.heap h' e (.ref C) rest->wpAny (model prog w) A (call (.ref f) (.ref e::rest)) (λr s'=>r=.none/\Q (.done (.ret (.ref e))) s') E {s with heap:=h'}) :
  wpAny (model prog w) A (Builtin.«type.__call__» ⟨.ref C::rest,[]⟩) Q E s:=by
 obtain⟨nm,qn,N,bs,sn,sub,ab,col,dd,k0,k1,k2,k3,k5,lk⟩:=x.lk;have F:=PySem.F.excBase_ValueError;have T:=x.tail X;have hC:=X _ _ lk;obtain⟨h,g,d,t,os⟩:=s
 repeat (first|with_reducible refine JY hC ?_|with_reducible refine wpAny_madeBy_exc hC ?_|wp_step)
 refine codeAny_call_builtin_code (Md _ F.quiet) (wpAny_check_new_subU F F.hasB T hC ?_);refine codeAny_exc_new_subU F F.hasB F T hC ?_ hrest;show wpAny _ _ _ _ _ _;have kp:∀b o,h.get? b=some o->((h.push {cls:=.type "tuple",data:=.seq rest.toArray}).push {cls:=.ref C,data:=.fields #[.ref h.objs.size,.none,.none,.none,.bool false,.none]}).get? b=some o:=λb o e=>HW _ (HW _ e);have X₁:=W.Frag.In.keeps X kp;have hC₁:=X₁ _ _ lk;have hget:((h.push {cls:=.type "tuple",data:=.seq rest.toArray}).push
   {cls:=.ref C,data:=.fields #[.ref h.objs.size,.none,.none,.none,.bool false,.none]}).get? (h.objs.size+1)=some
   {cls:=.ref C,data:=.fields #[.ref h.objs.size,.none,.none,.none,.bool false,.none]}:=by heap_get
 have hcC:(Value.ref C::.ref S::sC).contains (.ref C)=true:=by simp
 unfold isInstance
 repeat (first|with_reducible refine JY hget ?_ | (with_reducible refine Lg hC₁ ?_;rw[hcC])|wp_step)
 show wpAny _ _ (typeLookup (.ref C) _) _ _ _;refine (LZ (M:=model prog w) X₁ x.hi).at ?_;refine Jl (HU ((W.bind_fn (M:=model prog w) X₁ (.ref (h.objs.size+1)) x.hf).at ?_));refine HU (IZ (hq _ (h.objs.size+1) ⟨kp,KN (JT _),h.objs.size,hget,KN (Ib _),?_⟩) (λr s' hr=>?_) λ_ _ x=>x)
 ·exact HW _ (Heap.get?_push_at rfl rfl)
 ·obtain⟨rfl,hQ⟩:=hr
  wp_walk
  exact hQ
theorem tH{rest:List Value}(x:eV K C S f name)(X:K.In s.heap)(hrest:rest.length<=sizeLine)
  (hq:∀h' e,Heap.MadeExcOf s.heap h' e (.ref C) rest->wpAny (model prog w) (A.under (.builtin "type.__call__" ⟨.ref C::rest,[]⟩)) (call (.ref f) (.ref e::rest)) (λr s'=>r=.none/\Q (.ref e) s') E {s with heap:=h'}) :
  wpAny (model prog w) A (call (.ref C) rest) Q E s:=by
 obtain⟨nm,qn,N,bs,sn,sub,ab,col,dd,k0,k1,k2,k3,k5,lk⟩:=x.lk;have hC:=X _ _ lk;obtain⟨h,g,d,t,os⟩:=s;have f1:=tc_lookup;have f2:=tc_bind (.ref C);have hT:(⟨h,g,d,t,os⟩:Shared).TypeIs (.ref C) "type":=⟨_,hC,rfl⟩;refine KP (codeAny_of_tree ?_);show wpAny _ _ (callAny (.ref C) _) _ _ _
 repeat (any_goals (first|assumption|with_reducible refine JY hC ?_|wp_step))
 refine⟨rfl,?_⟩;refine codeAny_call_builtin_at (Md _ (by decide +kernel)) entry_typeCall (wpAny_check_type_call_sub hC (j7 x X hrest λh' e hm=>?_))
 exact hq h' e hm
end
noncomputable def jY(e:Addr)(cls:Value)(d:Option Addr)(h:Heap):Prop:=∃(oe:Obj) (vs:Array Value) (a0:Addr),h.get? e=some oe/\oe.cls=cls/\oe.dict=d/\oe.data=.fields vs/\vs[0]?=some (.ref a0)/\vs[1]?=some Value.none
theorem jY.ok(x:jY e cls d h):aM P w H h e (.ext (jY e cls d)):=
 ⟨x,let ⟨o,_,_,h1,_⟩:=x;⟨o,h1⟩,λh1 h2 ⟨o,vs,a0,a,r⟩ k=>⟨o,vs,a0,k o a,r⟩⟩
theorem jY.fl(x:jY e cls d h):Fl h e cls d none:=by
 obtain⟨oe,vs,a0,h1,h2,h3,h4,_,h5⟩:=x;exact⟨oe,vs,h1,h2,h3,h4,h5⟩
section
variable {fs ex:List Addr} {H:Hp} {h h':Heap} {e d:Addr} {φ ψ:Heap->Prop}
theorem Un.vR(he:H e=some (.ext φ))(k:∀b u,b≠e->h.get? b=some u->h'.get? b=some u)(te:∃o,h'.get? e=some o):Un fs ex H (upd H e (.ext ψ)) h h' where
 keep:=λb u q n _ _=>k b u (λz=>by rw[z,he] at n;cases n) q
 slot:=λb u q n _ _=>⟨u.slots,k b u (λz=>by rw[z,he] at n;cases n) q⟩
 free:=λb u q n _=>by rw[ae (λz=>by rw[z,he] at n;cases n)];exact n
 there:=λb u q _=>by
  by_cases z:b=e
  ·subst z;exact te
  ·exact⟨u,k b u z q⟩
 iq:=λb xs q=>by rw[ae (λz=>by rw[z,he] at q;cases q)];exact q
 gy:=λb u xs q=>by rw[ae (λz=>by rw[z,he] at q;cases q)];exact q
 gc:=λb ps q=>⟨#[],by rw[ae (λz=>by rw[z,he] at q;cases q),q];simp⟩
theorem Un.B8(he:H e=some (.ext φ))(k:∀b u,b≠e->h.get? b=some u->h'.get? b=some u)(te:∃o,h'.get? e=some o)(hd:h.get? d=none)(hn:H d=none):Un fs ex H (upd (upd H e (.ext ψ)) d o) h h' where
 keep:=λb u q n _ _=>k b u (λz=>by rw[z,he] at n;cases n) q
 slot:=λb u q n _ _=>⟨u.slots,k b u (λz=>by rw[z,he] at n;cases n) q⟩
 free:=λb u q n _=>by rw[ae (λz=>by rw[z,hd] at q;cases q),ae (λz=>by rw[z,he] at n;cases n)];exact n
 there:=λb u q _=>by
  by_cases z:b=e
  ·subst z;exact te
  ·exact⟨u,k b u z q⟩
 iq:=λb xs q=>by rw[ae (λz=>by rw[z,hn] at q;cases q),ae (λz=>by rw[z,he] at q;cases q)];exact q
 gy:=λb u xs q=>by rw[ae (λz=>by rw[z,hn] at q;cases q),ae (λz=>by rw[z,he] at q;cases q)];exact q
 gc:=λb ps q=>⟨#[],by rw[ae (λz=>by rw[z,hn] at q;cases q),ae (λz=>by rw[z,he] at q;cases q),q];simp⟩
theorem dz.vR(x:dz P w H h)(he:H e=some (.ext φ))(k:∀b u,b≠e->h.get? b=some u->h'.get? b=some u)(new:aM P w (upd H e (.ext ψ)) h' e (.ext ψ)):dz P w (upd H e (.ext ψ)) h':=λb u q=>by
 by_cases z:b=e
 ·subst z;rw[aa] at q;cases q;exact new
 ·rw[ae z] at q;refine (x b u q).gP (λc v hc r=>k c v (λz2=>?_) r) (λc q2=>by rw[ae (λz2=>by rw[z2,he] at q2;cases q2)];exact q2) (λc xs q2=>by rw[ae (λz2=>by rw[z2,he] at q2;cases q2)];exact q2) λc _ _ q2=>by rw[ae (λz2=>by rw[z2,he] at q2;cases q2)];exact q2
  rcases hc with rfl|hc
  ·exact z z2
  ·rw[z2,he] at hc;cases hc
theorem dz.B8(x:dz P w H h)(he:H e=some (.ext φ))(k:∀b u,b≠e->h.get? b=some u->h'.get? b=some u)(hn:H d=none)(new:aM P w (upd (upd H e (.ext ψ)) d o) h' e (.ext ψ))(newD:aM P w (upd (upd H e (.ext ψ)) d o) h' d o):dz P w (upd (upd H e (.ext ψ)) d o) h':=λb u q=>by
 by_cases z0:b=d
 ·subst z0;rw[aa] at q;cases q;exact newD
 ·rw[ae z0] at q;by_cases z:b=e
  ·subst z;rw[aa] at q;cases q;exact new
  ·rw[ae z] at q;refine (x b u q).gP (λc v hc r=>k c v (λz2=>?_) r) (λc q2=>by rw[ae (λz2=>by rw[z2,hn] at q2;cases q2),ae (λz2=>by rw[z2,he] at q2;cases q2)];exact q2) (λc xs q2=>by rw[ae (λz2=>by rw[z2,hn] at q2;cases q2),ae (λz2=>by rw[z2,he] at q2;cases q2)];exact q2) λc _ _ q2=>by rw[ae (λz2=>by rw[z2,hn] at q2;cases q2),ae (λz2=>by rw[z2,he] at q2;cases q2)];exact q2
   rcases hc with rfl|hc
   ·exact z z2
   ·rw[z2,he] at hc;cases hc
theorem vG(he:H e=some o):upd H e o=H:=by
 funext b
 by_cases z:b=e
 ·subst z;rw[aa,he]
 ·rw[ae z]
end
noncomputable def DN(C:Addr)(name:Str):Sp:=λvs H Q _=>∃(e:Addr) (i:Int),vs=[.ref e,.int i]/\i.natAbs<2^1900/\H e=some (.ext (jY e (.ref C) none))/\∀(H':Hp) (d:Addr),(∀b o,H b=some o->b≠e->H' b=some o)->H' e=some (.ext (jY e (.ref C) (some d)))->H' d=some (.xd [(name,.int i)])->H d=none->Q .aJ H'
noncomputable def Hc(C:Addr):TE:=λσ H Q=>∃(e:Addr) (i:Int),σ=[some (.ref e),some (.int i)]/\i.natAbs<2^1900/\H e=some (.ext (jY e (.ref C) none))/\∀H':Hp,jr H H'->Q .aJ H'
section
variable {X:Cx} {C S f:Addr} {name:Str}
noncomputable def GS(C:Addr)(name:Str):TS:=λD σ H=>∃(e:Addr) (i:Int),σ=[some (.ref e),some (.int i)]/\H e=some (.ext (jY e (.ref C) none))/\∀(H':Hp) (d:Addr),(∀b o,H b=some o->b≠e->H' b=some o)->H' e=some (.ext (jY e (.ref C) (some d)))->H' d=some (.xd [(name,.int i)])->H d=none->D.nx σ H'
theorem DF{o value:Expr}{pos pos':Pos}(x:eV X.K C S f name)(ho:QE X o (jf 0))(hv:QE X value (jf 1))(hs:autoParam (swapsWith value (some (.Attribute o name pos')) pos.line X.env=pure false) ℜ0):PS X (.Assign [.Attribute o name pos'] value pos) (GS C name):=by
 intro pins s σ H D I h;obtain⟨e,i,rfl,he,q⟩:=h;refine plainObj_wpAny_Assign_Attribute (bD (hv.h pins s _ H (λy H1=>y=.int i/\H1=H) I ⟨.int i,rfl,rfl,rfl⟩) λu s1 ⟨y,H1,I1,ry,ey,eH⟩=>bD (ho.h pins s1 _ H1 (λy H2=>y=.ref e/\H2=H1) I1 ⟨.ref e,rfl,rfl,rfl⟩) λov s2 hq3=>?_) hs;obtain⟨z,H2,I2,rz,ez,eH2⟩:=hq3;subst ey eH ez eH2;obtain rfl:ov=Value.ref e:=rz;obtain⟨oe,ws,a0,g1,g2,g3,g4,g5,g6⟩:=(show jY e (.ref C) none s2.heap from (I2.aI _ _ he).1);obtain⟨nm,qn,N,bs,sn,sub,ab,col,dd,k0,k1,k2,k3,k5,lk⟩:=x.lk;obtain⟨cd,hc,hmr,hhd⟩:∃cd,W.clsIn X.K C=some cd/\cd.mro=[.ref C,.ref S,.type "ValueError",.type "Exception",.type "BaseException",.type "object"]/\cd.hasDict=true:=by
  unfold W.clsIn;rw[lk];exact⟨_,rfl,rfl,rfl⟩
 refine zM (S:=S) x.j_ I2.fo g1 g2 g3 g4 hc hmr hhd x.hs x.ha λh' tk' j1 j2 j3=>?_;have hd:s2.heap.get? s2.heap.objs.size=none:=KN (Ib _);have hn:=I2.aI.none_of hd;have ne:e≠s2.heap.objs.size:=Iz (Io g1);have hN':jY e (.ref C) (some s2.heap.objs.size) h':=⟨_,_,a0,j1,g2,rfl,g4,g5,g6⟩;have I3:Inv X pins _ (upd (upd H2 e (.ext (jY e (.ref C) (some s2.heap.objs.size)))) s2.heap.objs.size (.xd [(name,.int i)])) {s2 with heap:=h',toks:=tk'}:=
  I2.un (t':=tk') (Un.B8 he j3 ⟨_,j1⟩ hd hn) (I2.aI.B8 he j3 hn hN'.ok ⟨_,j2,λy=>?_⟩)
 ·refine⟨_,_,I3,q _ s2.heap.objs.size (λb o z n=>?_) ?_ aa hn⟩
  ·rw[ae (λz2=>by rw[z2,hn] at z;cases z),ae n];exact z
  ·rw[ae ne,aa]
 ·show iO (match y == name with|true=>some (V.int i)|false=>List.lookup y []) (if y=name then some u else none)
  by_cases z:y=name
  ·subst z;rw[Ka,Ig rfl];exact ry
  ·rw[Jn.mpr z,H_ z];exact True.intro
end
section
variable {X:Cx} {pins:List (Addr×Obj)} {σ:St} {H:Hp} {s:Shared} {C S f:Addr} {name:Str}
theorem zv{k:Nat}{ps:List Str}{i:Int}{u:Value}(x:eV X.K C S f name)(F:d2 X.prog X.w X.K X.mg X.base (mM X.prog X.w) k f fd ps (DN C name))(hb:Binds X.K fd ps [])(hr:bj (k+1) X.A)(hex:X.ex=[])(I:Inv X pins σ H s)(ru:RelV (.int i) u)(hi:i.natAbs<2^1900)
  (h:∀(e d:Addr) (H':Hp) (s':Shared),H e=none->H d=none->jr H H'->H' e=some (.ext (hV e (.ref C) (some d)))->H' d=some (.xd [(name,.int i)])->Inv X pins σ H' s'->Fl s'.heap e (.ref C) (some d) none->Nw X pins H' e (.ref C) (some d) none->Q (.ref e) s') :
  wpAny (model X.prog X.w) X.A (call (.ref C) [u]) Q X.xe s:=by
 refine tH x I.fo (by simp[Js]) λh' e hm=>?_
 have hne:=I.aI.none_of hm.new;obtain⟨tt,g1,g2,g3⟩:=hm.there;have nN:jY e (.ref C) none h':=⟨_,_,tt,g1,rfl,rfl,rfl,rfl,rfl⟩;have I2:Inv X pins σ (upd H e (.ext (jY e (.ref C) none))) {s with heap:=h'}:=I.un (t':=s.toks) (Un.vF hm.keeps hm.new hne) (I.aI.vF hm.keeps hne nN.ok)
 have r2:Vals [V.ref e,.int i] [Value.ref e,u]:=.cons rfl (.cons ru .nil);have iM:DN C name [V.ref e,.int i] (upd H e (.ext (jY e (.ref C) none))) (λv H'=>v=.aJ/\∃d,(∀b o,H b=some o->b≠e->H' b=some o)/\H' e=some (.ext (jY e (.ref C) (some d)))/\H' d=some (.xd [(name,.int i)])/\(upd H e (.ext (jY e (.ref C) none))) d=none) (λ_ _ _=>False):=
  ⟨e,i,rfl,hi,aa,λH' d a b c dd=>⟨rfl,d,λb' o q n=>a b' o (by rw[ae n];exact q) n,b,c,dd⟩⟩
 have hl:([Value.ref e,u]++[]).length=ps.length:=by rw[Jd,<- r2.length];exact F.len _ _ _ _ iM
 have hb2:=hb {s with heap:=h'} [Value.ref e,u] I2.fo hl
 rw[Jd] at hb2;refine KP (LK (F.run _ X.stack _ _ ⟨[Value.ref e,u],[]⟩ [Value.ref e,u] [V.ref e,.int i] _ _ (hr.make C [u] []) (I2.A2.make C [u] []) hb2 r2 iM) λr s' hq'=>?_)
 cases r with
 |error y =>
  obtain⟨_,_,_,_,_,_,_,_,_,_,_,_,_,_,_,_,z⟩:=hq';exact z.elim
 |ok fl =>
  cases fl with
  |ret u' =>
   obtain⟨v,H',os,bare,un,aI,rv,ev,d,a1,a2,a3,a4⟩:=hq';subst ev;obtain rfl:u'=Value.none:=rv;obtain⟨hh,g',d',t',os'⟩:=s';obtain rfl:os'=s.os:=os;have I3:Inv X pins σ H' ⟨hh,g',d',t',s.os⟩:=Inv.call (s:={s with heap:=h'}) (h':=hh) (g':=g') (d':=d') (t':=t') (ch:=[]) I2 un aI bare (λb z=>absurd z (by simp))
   have hde:d≠e:=λz=>by rw[z,aa] at a4;cases a4
   have hHd:H d=none:=by rw[ae hde] at a4;exact a4
   have hd0:h'.get? d=none:=by
    cases q:h'.get? d with
    |none=>rfl
    |some o =>
     have:=un.free d o q a4 (by simp)
     rw[a3] at this;cases this
   have hN':jY e (.ref C) (some d) hh:=(aI _ _ a2).1;have I4:Inv X pins σ (upd H' e (.ext (hV e (.ref C) (some d)))) ⟨hh,g',d',t',s.os⟩:=I3.un (s:=⟨hh,g',d',t',s.os⟩) (t':=t') (Un.vR a2 (λb u _ q=>q) (let ⟨o,_,_,q,_⟩:=hN';⟨o,q⟩)) (aI.vR a2 (λb u _ q=>q) hN'.fl.is.ok)
   have n0:∀b,h'.get? b=none->X.s₀.heap.get? b=none:=λb z=>by
    cases q2:X.s₀.heap.get? b with
    |none=>rfl
    |some o =>
     obtain⟨o',q3⟩:=I2.base.there b o q2 (by rw[hex];simp)
     have q3':h'.get? b=some o':=q3;rw[z] at q3';cases q3'
   have e0:X.s₀.heap.get? e=none:=by
    cases q2:X.s₀.heap.get? e with
    |none=>rfl
    |some o =>
     obtain⟨o',q3⟩:=I.base.there e o q2 (by rw[hex];simp)
     rw[hm.new] at q3;cases q3
   refine⟨rfl,h e d _ _ hne hHd (λb o q=>?_) aa (by rw[ae hde];exact a3) I4 hN'.fl ⟨aa,e0,λa z=>by cases z;exact n0 d hd0,λT z=>by cases z⟩⟩
   have nbe:b≠e:=λz=>by rw[z,hne] at q;cases q
   rw[ae nbe];exact a1 b o q nbe
  |next=>exact False.elim hq'
  |brk=>exact False.elim hq'
  |cont=>exact False.elim hq'
end
section
variable {X:Cx} {C S f:Addr} {name:Str}
theorem t9{s:Shared}{e:Expr}{pos:Pos}(hc:X.calm=true)(I:Inv X pins σ H s)(x:eV X.K C S f name)
  (h:wpAny (model X.prog X.w) X.A (eval e X.env) (λv s₁=>∃(ea:Addr) (oe:Obj),v=.ref ea/\X.K.In s₁.heap/\s₁.heap.get? ea=some oe/\oe.cls=.ref C/\(∃vs,oe.data=.fields vs/\vs[1]?=some Value.none)/\X.xe (.ref ea) s₁) X.xe s) :
  wpAny (model X.prog X.w) X.A (exec (.Raise (some e) none pos) X.env) (SP X pins D) X.xe s:=by
 have hh:=I.ok.hd hc;obtain⟨nm,qn,N,bs,sn,sub,ab,col,dd,k0,k1,k2,k3,k5,lk⟩:=x.lk;rw[arm_exec_Raise];refine HU (La ?_);unfold raiseStmt;refine HU (HU (IZ h (λv s₃ h₃=>HU (La (Ii ?_))) λ_ _ x=>x));obtain⟨ea,⟨oc,od,oda,osl⟩,rfl,j_,he,hcl,⟨vs,hdt,hv1⟩,hE⟩:=h₃;obtain rfl:oc=.ref C:=hcl;obtain rfl:oda=.fields vs:=hdt;have hC:=j_ _ _ lk;have hcB:(Value.ref C::.ref S::sC).contains (.type "BaseException")=true:=by rw[List.contains_cons,(x.tail j_).hasType PySem.F.excBase_ValueError.hasBase,Bool.or_true]
 obtain⟨hp,g,d,tk,os⟩:=s₃
 repeat (first|with_reducible refine JY he ?_|with_reducible refine JY hC ?_ | (with_reducible refine Lg hC ?_;rw[hcB])|wp_step)
 rw[hv1]
 repeat wp_step
 exact wpAny_raiseNew_none hh hE
end
structure B_ (K:W.Frag) (C:Addr):Prop where
 lk:∃nm qn N bs bm hd sn sub ab col dd k0 k1 k2 k3 k5 nw,K.lookup C=some (excClassObj nm qn C N bs bm hd sn sub ab col dd k0 k1 k2 k3 k5 nw)
theorem eV.toAny(x:eV K C S f name):B_ K C:=by
 obtain⟨nm,qn,N,bs,sn,sub,ab,col,dd,k0,k1,k2,k3,k5,lk⟩:=x.lk;exact⟨nm,qn,N,bs,_,true,sn,sub,ab,col,dd,k0,k1,k2,k3,k5,_,lk⟩
structure G0 (K:W.Frag) (C:Addr):Prop where
 lk:∃nm qn N bs bm hd sn sub ab col dd k0 k1 k2 k3 k5 nw,K.lookup C=some (excClassObj nm qn C N bs bm hd sn sub ab col dd k0 k1 k2 k3 k5 nw)/\∀h:Heap,K.In h->bm.contains (.type "BaseException")=true
theorem eV.Az(x:eV K C S f name):G0 K C:=by
 obtain⟨nm,qn,N,bs,sn,sub,ab,col,dd,k0,k1,k2,k3,k5,lk⟩:=x.lk;exact⟨nm,qn,N,bs,_,true,sn,sub,ab,col,dd,k0,k1,k2,k3,k5,_,lk,λh j_=>(x.tail j_).hasType PySem.F.excBase_ValueError.hasBase⟩
theorem qM{A:Around}{g:Array GenState}{d:Drawn}{t:Nat}{os:OsState}{D:Addr}{d0:Option Addr}{Q:Bool->Shared->Prop}(j_:K.In h)(hC:B_ K C)(hD:G0 K D)(he:hV e (.ref C) d0 h)(hs:W.mroIn K C (.ref D)=some true)
  (hq:Q true ⟨h,g,d,t,os⟩):wpAny M A (excMatches (.ref e) (.ref D)) Q E ⟨h,g,d,t,os⟩:=by
 obtain⟨nm,qn,N,bs,bm,hd,sn,sub,ab,col,dd,k0,k1,k2,k3,k5,nw,lk⟩:=hC.lk;obtain⟨nm',qn',N',bs',bm',hd',sn',sub',ab',col',dd',k0',k1',k2',k3',k5',nw',lk',tl'⟩:=hD.lk;have gC:=j_ _ _ lk;have gD:=j_ _ _ lk';obtain⟨oe,vs,h1,h2,_,_⟩:=he;have c1:(Value.ref D::bm').contains (.type "BaseException")=true:=by rw[List.contains_cons,tl' _ j_,Bool.or_true]
 have c2:(Value.ref C::bm).contains (.ref D)=true:=by
  unfold W.mroIn W.clsIn at hs;rw[lk] at hs;simp only[excClassObj,M5] at hs
  split at hs
  ·cases hs
  ·exact Option.some.inj hs
 have f:=tc_notTuple;unfold excMatches
 repeat (first | (with_reducible refine JY h1 ?_;rw[h2])|with_reducible refine JY gD ?_ | (with_reducible refine Lg gD ?_;rw[c1]) | (with_reducible refine Lg gC ?_;rw[c2])|wp_step)
 exact hq
theorem nH:∀{ws:List Str} {its:List Value},Vals (ws.map V.str) its->∀(m:Nat) (y:Str),ws[m]?=some y->∃t,its[m]?=some (.str y t):=λr m y e=>by
 obtain⟨u,h1,h2⟩:=r.get (i:=m) (x:=V.str y) (by rw[Ie,e];rfl)
 obtain⟨t,rfl⟩:=(show RelV (.str y) u from h2);exact⟨t,h1⟩
open Builtin Builtin.Str
noncomputable def Fh(z:Str):It:=⟨λi _=>i<z.cps.size,λi H x H'=>H'=H/\∃c,z.cps[i]?=some c/\x=.str ⟨#[c]⟩,λi _=>z.cps.size<=i⟩
theorem tO(z:Str)(t:Tok)(it:Addr):Turn P w K tg (Fh z) [it] it (λi h=>h.IsStrIter it "str_ascii_iterator" z t i) where
 mem:=by simp
 obj:=λi h st b hb=>by
  have e:b=it:=by simpa using hb
  subst e;obtain⟨o,e,c,d⟩:=st;exact⟨o,e,λv z=>by rw[d] at z;cases z⟩
 keep:=λi h h' st k=>let ⟨o,e,r⟩:=st;⟨o,k it (by simp) o e,r⟩
 item:=by
  intro X hP hw hK hc i pins s σ H E I hf st hg;subst hP hw hK;obtain⟨f0,f1,f2,f3,f4,f5⟩:=hf it (by simp)
  have hi:i<z.cps.size:=hg;refine wpAny_pyNext_ascii_item st (c:=z.cps[i]) (by simp[hi]) λh' st' sb=>?_
  have I1:Inv X pins σ H {s with heap:=h',toks:=s.toks+1}:=I.turned (t':=s.toks+1) (λb o hb e=>(sb.2 b hb).trans e) f0 f1 f3 f4 f5
  obtain⟨o,e,c,d⟩:=id st';exact⟨_,rfl,oX (s:={s with heap:=h',toks:=s.toks+1}) e c d (by decide) ⟨.str ⟨#[z.cps[i]]⟩,H,I1,⟨_,rfl⟩,⟨rfl,_,by simp[hi],rfl⟩,st',λb hb=>(hf b hb).1⟩⟩
 done:=by
  intro X hP hw hK hc i pins s σ H E I hf st hg;subst hP hw hK;obtain⟨f0,f1,f2,f3,f4,f5⟩:=hf it (by simp)
  have hi:z.cps.size<=i:=hg;exact wpAny_pyNext_ascii_end (I.ok.hd hc) st (by simpa using hi) λh' eb=>⟨rfl,I.turned (t':=s.toks) (λb o hb e=>eb b o hb e) f0 f1 f3 f4 f5⟩
 self:=λ_ _ _ _ _ st h=>wpAny_pyIter_striter_ascii st h
theorem tN(z:Str)(t:Tok)(it:Addr):Turn P w K tg (Fh z) [it] it (λi h=>h.IsStrIter it "str_iterator" z t i) where
 mem:=by simp
 obj:=λi h st b hb=>by
  have e:b=it:=by simpa using hb
  subst e;obtain⟨o,e,c,d⟩:=st;exact⟨o,e,λv z=>by rw[d] at z;cases z⟩
 keep:=λi h h' st k=>let ⟨o,e,r⟩:=st;⟨o,k it (by simp) o e,r⟩
 item:=by
  intro X hP hw hK hc i pins s σ H E I hf st hg;subst hP hw hK;obtain⟨f0,f1,f2,f3,f4,f5⟩:=hf it (by simp)
  have hi:i<z.cps.size:=hg;refine wpAny_pyNext_wide_item st (c:=z.cps[i]) (by simp[hi]) λh' st' sb=>?_
  have I1:Inv X pins σ H {s with heap:=h',toks:=s.toks+1}:=I.turned (t':=s.toks+1) (λb o hb e=>(sb.2 b hb).trans e) f0 f1 f3 f4 f5
  obtain⟨o,e,c,d⟩:=id st';exact⟨_,rfl,oX (s:={s with heap:=h',toks:=s.toks+1}) e c d (by decide) ⟨.str ⟨#[z.cps[i]]⟩,H,I1,⟨_,rfl⟩,⟨rfl,_,by simp[hi],rfl⟩,st',λb hb=>(hf b hb).1⟩⟩
 done:=by
  intro X hP hw hK hc i pins s σ H E I hf st hg;subst hP hw hK;obtain⟨f0,f1,f2,f3,f4,f5⟩:=hf it (by simp)
  have hi:z.cps.size<=i:=hg;exact wpAny_pyNext_wide_end (I.ok.hd hc) st (by simpa using hi) λh' eb=>⟨rfl,I.turned (t':=s.toks) (λb o hb e=>eb b o hb e) f0 f1 f3 f4 f5⟩
 self:=λ_ _ _ _ _ st h=>wpAny_pyIter_striter_wide st h
noncomputable def x5(tl:TE):TI:=λσ H R=>tl σ H λx H1=>∃z,x=V.str z/\R (Fh z) H1
theorem Dz{l:Expr}(hl:PE X l tl):PI X tg l (x5 tl):=by
 intro pins s σ H R I h;refine bD (hl pins s σ H _ I h) λv s1 hq1=>?_;obtain⟨x,H1,I1,r1,q1⟩:=hq1;obtain⟨z,rfl,q⟩:=q1;obtain⟨t,rfl⟩:=r1;have fr:∀b∈[s1.heap.objs.size],jd X pins H1 b:=λb hb=>by
  have e:b=s1.heap.objs.size:=by simpa using hb
  subst e;exact I1.mH (Ib _) (I1.aI.fresh (Ib _))
 cases ha:z.cps.all (· < 128)
 ·refine wpAny_pyIter_wide ha ?_;exact⟨s1.heap.objs.size,[s1.heap.objs.size],_,_,H1,rfl,I1.kept (t':=s1.toks) λb o e=>HW _ e,tN z t _,⟨_,Ip _ rfl,rfl,rfl⟩,fr,q⟩
 ·refine wpAny_pyIter_ascii ha ?_;exact⟨s1.heap.objs.size,[s1.heap.objs.size],_,_,H1,rfl,I1.kept (t':=s1.toks) λb o e=>HW _ e,tO z t _,⟨_,Ip _ rfl,rfl,rfl⟩,fr,q⟩
open PySem PySem.Spec PyProof PyProof.Rows
variable{X:Cx}
noncomputable def yd(K:W.Frag)(a:Addr):It:=
 ⟨λi H=>∃x,getL K a i H x,λi H x H'=>∃p y,(∀xs,bz K H a xs->xs[i]?=some y)/\H p=none/\x=.ref p/\H'=upd H p (.tup [.int i,y]),G4 K a⟩
theorem pH{P:Program}{w:World}{K:W.Frag}{es:List Expr}{tk:Nat}{tp:Pos}(a it e:Addr)(hne:e≠it):Turn P w K (.Tuple es tk tp) (yd K a) [e,it] e (λi h=>(∃old,IsEnum h e it i old)/\h.IsListIter it a i) where
 mem:=by simp
 obj:=λi h st b hb=>by
  obtain⟨⟨old,he⟩,o,eo,c,d⟩:=st;rcases Ih.mp hb with z|z
  ·subst z;exact⟨_,he,λv z=>by cases z⟩
  ·have z:b=it:=by simpa using z
   subst z;exact⟨o,eo,λv z=>by rw[d] at z;cases z⟩
 keep:=λi h h' st k=>by
  obtain⟨⟨old,he⟩,o,eo,r⟩:=st;exact⟨⟨old,k e (by simp) _ he⟩,o,k it (by simp) o eo,r⟩
 item:=by
  intro X hP hw hK hc i pins s σ H E I hf st hg;subst hP hw hK;obtain⟨x,xs,hq,hx⟩:=hg;obtain⟨⟨old,he⟩,hit⟩:=st;obtain⟨its,rv,p,hz⟩:=I.list hq;obtain⟨u,hu,ru⟩:=rv.get hx;obtain⟨g0,g1,g2,g3,g4,g5⟩:=hf e (by simp)
  obtain⟨f0,f1,f2,f3,f4,f5⟩:=hf it (by simp)
  have ht:s.heap.IsList a its.toArray:=p.isList;have ha:a≠it:=by
   rintro rfl;obtain⟨o,e1,c1,_⟩:=hit;obtain⟨o',e2,c2,_⟩:=ht;rw[e1] at e2;cases e2;rw[c1] at c2;exact absurd (Value.type.inj c2) (by decide)
  have hea:e≠a:=by
   rintro rfl;obtain⟨o',e2,c2,_⟩:=ht;have e1:s.heap.get? e=some _:=he;rw[e1] at e2;cases e2;exact absurd (Value.type.inj c2) (by decide)
  have hi:i<its.toArray.size:=by
   have:=(HZ.mp hu).1
   simpa using this
  refine MH (Draws.list (A:=X.A.in1) (I.ok.hd hc) it a ha its.toArray) he ⟨hit,ht⟩ hi hne (by simp[hne,hea]) λx' h' tk' hP ho hs' hT hsz hk=>?_
  have ex:x'=u:=by
   have hP':its.toArray[i]?=some x':=hP;rw[Jf,hu] at hP';exact (Option.some.inj hP').symm
  subst ex;refine⟨.ref s.heap.objs.size,rfl,Mm ho λh2 he2 hs2=>?_⟩;have fr:H s.heap.objs.size=none:=I.aI.fresh (Ib _);have hle:e≠s.heap.objs.size:=Iz (Io he);have hT2:h2.get? s.heap.objs.size=some {cls:=.type "tuple",data:=.seq #[.int i tk',x']}:=(hs2.2 _ (I_ hle)).trans hT;have I2:Inv X pins σ (upd H s.heap.objs.size (.tup [.int i,x])) {s with heap:=h2,toks:=tk'+1}:=by
   refine I.m8 (fp:=[e,it]) hf (Ib _) (λb o hb eb=>?_) ⟨by show 2<=sizeLine;decide,[.int i tk',x'],.cons ⟨_,rfl⟩ (.cons ru .nil),⟨_,hT2,rfl,_,rfl,rfl⟩⟩
   have n1:b≠e:=λz=>hb (by simp[z])
   have n2:b≠it:=λz=>hb (by simp[z])
   exact (hs2.2 b n1).trans (hk b o n1 n2 eb)
  refine⟨.ref s.heap.objs.size,_,I2,rfl,⟨s.heap.objs.size,x,λys hy=>by rw[I.jy hy hq];exact hx,fr,rfl,rfl⟩,⟨⟨x',?_⟩,?_⟩,λb hb=>?_⟩
  ·have e:(((i+1:Nat)):Int)=(i:Int)+1:=by lia
   rw[e];exact he2
  ·obtain⟨o,e1,r⟩:=hs'.1;exact⟨o,(hs2.2 it (I_ hne)).trans e1,r⟩
  ·have n:b≠s.heap.objs.size:=by
    rcases Ih.mp hb with z|z
    ·subst z;exact hle
    ·have z:b=it:=by simpa using z
     subst z;obtain⟨o,e1,_⟩:=hit;exact Iz (Io e1)
   rw[ae n];exact (hf b hb).1
 done:=by
  intro X hP hw hK hc i pins s σ H E I hf st hg;subst hP hw hK;obtain⟨xs,hq,hx⟩:=hg;obtain⟨⟨old,he⟩,hit⟩:=st;obtain⟨its,rv,p,hz⟩:=I.list hq;have ht:s.heap.IsList a its.toArray:=p.isList;have ha:a≠it:=by
   rintro rfl;obtain⟨o,e1,c1,_⟩:=hit;obtain⟨o',e2,c2,_⟩:=ht;rw[e1] at e2;cases e2;rw[c1] at c2;exact absurd (Value.type.inj c2) (by decide)
  have hl:=rv.length;have hsz:its.toArray.size=i:=by simp;lia
  refine MT (Draws.list (A:=X.A.in1) (I.ok.hd hc) it a ha its.toArray) he (by rw[hsz];exact⟨hit,ht⟩) λh' eb=>⟨rfl,?_⟩
  exact I.turns (t':=s.toks) hf λb o hb e1=>eb b o (λz=>hb (by simp[z])) e1
 self:=λA i s Q E st h=>by
  obtain⟨⟨old,he⟩,_⟩:=st;exact L3 he h
section
variable {X:Cx} {es:List Expr} {tk:Nat} {tp:Pos}
noncomputable def jR(K:W.Frag)(ta:TA):TI:=λσ H R=>ta σ H λvs H1=>∃a,vs=[.ref a]/\(∃xs,bz K H1 a xs)/\R (yd K a) H1
theorem wQ{e:Expr}{ta:TA}{p pos:Pos}(hg:Gl X "enumerate")(hm:X.mg "enumerate"=none)(ha:PA X [e] ta)(h1:autoParam (cG e=true) ℜ0)(hv:autoParam (bootBuiltins "enumerate"=some (.type "enumerate")) ℜ6):
  PI X (.Tuple es tk tp) (.Call (.Name "enumerate" p) [e] [] pos) (jR X.K ta):=by
 intro pins s σ H R I h;refine Call_ (dO I hg hm hv (Jo (bD (ha pos pins s σ H _ I h) λus s1 hq1=>?_) (bF h1) rfl));obtain⟨vs,H1,I1,r1,q1⟩:=hq1;obtain⟨a,e,⟨xs,hq⟩,q⟩:=q1;subst e;obtain⟨u,rfl,ru⟩:=vals1 r1;cases ru;obtain⟨its,rv,pt,hz⟩:=I1.list hq;refine call_enumerate_list pt.isList λh' he hit hsz hk=>?_;refine L3 he ?_;have I2:Inv X pins σ H1 {s1 with heap:=h'}:=I1.kept (t':=s1.toks) hk
 refine⟨s1.heap.objs.size+1,[s1.heap.objs.size+1,s1.heap.objs.size],_,_,H1,rfl,I2,pH a s1.heap.objs.size (s1.heap.objs.size+1) (JM (Nat.lt_succ_self _)),⟨⟨_,he⟩,hit⟩,λb hb=>?_,q⟩;have hb':s1.heap.objs.size<=b:=by
  rcases Ih.mp hb with z|z
  ·rw[z];exact JT _
  ·have z:b=s1.heap.objs.size:=by simpa using z
   rw[z];exact Ib _
 exact I1.mH hb' (I1.aI.fresh hb')
end
noncomputable def vI(K:W.Frag)(ws:List Str)(v:Value):Prop:=∃p,v=.ref p/\FV K p (ws.map V.str)
structure kx (K:W.Frag) (a:Addr) (D:List (Str×List Str)):Prop where
 low:(a == sysModules)=false
 ex:∃o es ep,K.lookup a=some o/\o.ExactDict/\o.data=.dict es ep/\KTD.Rows (vI K) es.toList D
section
variable {prog:Program} {w:World} {A:Around} {E:Value->Shared->Prop} {s:Shared} {K:W.Frag} {a:Addr} {D:List (Str×List Str)} {k:Str} {tk:Tok}
theorem kx.typeIs(T:kx K a D)(X:K.In s.heap):s.TypeIs (.ref a) "dict":=let ⟨o,_,_,ho,hc,_⟩:=T.ex;⟨o,X _ _ ho,hc.1⟩
theorem xc{Q:Option Value->Shared->Prop}(T:kx K a D)(X:K.In s.heap)(h1:∀d v,KTD.datumAt k D=some d->vI K d v->Q (some v) {s with toks:=s.toks+1})(h2:KTD.datumAt k D=none->Q none {s with toks:=s.toks+1}):
  wpAny (model prog w) A (dictGet a (.str k tk)) Q E s:=by
 obtain⟨o,es,ep,ho,hc,hd,hr⟩:=T.ex;have ho:=X _ _ ho;unfold dictGet
 try with_reducible refine Jl ?_
 refine HU (wpAny_pyHash_str (HU (KTD.kt_dictFind_strs (s:={s with toks:=s.toks+1}) ho hd (by obtain⟨l⟩:=es;simpa using hr.exact) ?_)))
 have hq:Q (findBy (λk v=>v.isStr k) es k) {s with toks:=s.toks+1}:=by
  have hf:findBy (λk v=>v.isStr k) es k=(es.toList.find? λe=>e.key.isStr k).map (·.val):=by
   obtain⟨l⟩:=es;simp[findBy]
  rw[hf]
  cases hat:KTD.datumAt k D with
  |some d=>obtain⟨v,hv,hfl⟩:=hr.find_some hat;rw[hv];exact h1 d v hat hfl
  |none=>rw[hr.find_none hat];exact h2 hat
 rw[findBy_of_findIdx?] at hq
 cases hi:es.findIdx? λe=>e.key.isStr k with
 |none=>rw[hi] at hq;exact Ii hq
 |some i=>rw[hi] at hq;exact HU (L5 (s:={s with toks:=s.toks+1}) ho hd (Ii hq))
end
namespace Y
noncomputable def AJ(neg:Bool):R2:=λx y H Q=>∃a o,y=.ref a/\fO H a x o/\Q (.bl (if neg then !o.isSome else o.isSome)) H
theorem yH(hu:X.A.units+1<cLine):cR X (compareOp .In) (AJ false):=by
 intro pins s σ H x y v u Q I rx ry h;obtain⟨a,o,rfl,g,q⟩:=h;obtain rfl:u=Value.ref a:=ry;exact Hb hu I g rx λs' I'=>⟨.bl o.isSome,H,I',rfl,q⟩
theorem uT(hu:X.A.units+1<cLine):cR X (compareOp .NotIn) (AJ true):=by
 intro pins s σ H x y v u Q I rx ry h;obtain⟨a,o,rfl,g,q⟩:=h;obtain rfl:u=Value.ref a:=ry;exact yL hu I g rx λs' I'=>⟨.bl (!o.isSome),H,I',rfl,q⟩
theorem kQ:∀(more kvs:List (Key×V)),((kvs++more).map (·.1)).Nodup->fh kvs more=kvs++more
 |[],kvs,_=>by rw[Jd];rfl
 |p::r,kvs,h=>by
  have hn:bS kvs p.1=none:=by
   cases hv:bS kvs p.1 with
   |none=>rfl
   |some v =>
    have hm:=zC hv;rw[IB,IA] at h;have:=List.nodup_append.mp h;exact absurd rfl (this.2.2 _ hm _ Ij)
  show fh (putK kvs p.1 p.2) r=_;rw[nr p.2 hn,kQ r _ (by rw[II];exact h),II]
  rfl
end Y
noncomputable def iz{α:Type}(xs:List α)(i:Nat)(y:α):List α:=xs.take i++y::xs.drop i
noncomputable def ze:V->List V->Hp->VK->Prop:=λx vs H Q=>∃l xs i y,x=.ref l/\vs=[.int i,y]/\H l=some (.lst xs)/\0<=i/\i<2^63/\xs.length<sizeLine/\Q .aJ (upd H l (.lst (iz xs (min i.toNat xs.length) y)))
theorem lj:E5 X "list.insert" ze:=by
 intro pins s σ H x vs v us Q I rx rv h;obtain⟨l,xs,i,y,rfl,rfl,hH,h0,h1,hz,q⟩:=h;cases rx;obtain⟨u,w',rfl,⟨t,rfl⟩,rw'⟩:=vals2 rv;obtain⟨z,its,n,r,hl,e⟩:=I.nv hH;have hfit:¬ (!Builtin.List.listFitsIndex i)=true:=by
  have:=Nc (k:=i) (by lia) h1
  rw[this];exact Il
 refine K1 F.slot_list_insert ⟨_,e,rfl⟩ F.entry_list_insert (F.args_list_insert_3 _ _ _) (AutoSeq1.list_insert_list_int_val_1 l its.toArray n i t w' hfit (by rw[Im];lia)) ⟨e,?_⟩
 have el:its.length=xs.length:=hl.symm;refine⟨.aJ,_,I.Dj (its':=iz its (min i.toNat its.length) w') hH e ?_ ?_ ?_,rfl,q⟩
 ·show (have k:=if i<0 then _ else min i.toNat its.toArray.size;(its.toArray.extract 0 k).push w'++its.toArray.extract k)=_
  rw[H_ (by lia)]
  apply M6.mp;unfold iz;simp[Mw,Ji]
 ·rw[el];unfold iz;exact (r.take _).append (.cons rw' (r.drop _))
 ·unfold iz;rw[HX,Iq,IF,IQ];lia
open Builtin Builtin.Str
open PySem PySem.Spec PyProof PyProof.Rows
open Builtin Builtin.Str
section
variable {prog:Program} {w:World} {A:Around} {E:Value->Shared->Prop} {h:Heap} {g:Array GenState} {d:Drawn} {t:Nat} {os:OsState} {a:Addr} {items:Array Value} {cn:Nat}
theorem Aa:typeLookup (.type "list") "keys"=pure none:=am_miss_of_fast (by kernel_rfl)
theorem pA:typeLookup (.type "list") "__getattr__"=pure none:=by rw[typeLookup_type,builtinLookup_eq_fast];kernel_rfl
theorem vU{name:Str}{tk:Tok}{Q:Fin->Shared->Prop}(hx:h.get? a=some {cls:=.type "list",dict:=none,data:=.seq items cn,slots:=#[]})(hmiss:typeLookup (.type "list") name=pure none)(hnc:(["__module__","__name__","__qualname__","__doc__","__annotations__"]:List Str).contains name=false)(hh:A.handled=none)
  (hq:∀h' tk' e,Heap.NewAttrErr h h' e (.ref a) name->E (.ref e) ⟨h',g,d,tk',os⟩) (hsz:name.length+100<=sizeLine:=by size_fits) :
  wpAny (model prog w) A (Builtin.«object.__getattribute__» ⟨[.ref a,.str name tk],[]⟩) Q E ⟨h,g,d,t,os⟩:=by
 have hT:(⟨h,g,d,t,os⟩:Shared).TypeIs (.ref a) "list":=⟨_,hx,rfl⟩;unfold Builtin.«object.__getattribute__»
 repeat (any_goals (first|assumption|wp_step))
 rw[H_ (by rw[hnc];decide)]
 repeat (any_goals (first|assumption|wp_step))
 exact wpAny_raiseAttrError hh hq (attrMsg_fits (by decide +kernel) hsz)
theorem zU{name:Str}{tk:Tok}{R:Result->Shared->Prop}(hx:h.get? a=some {cls:=.type "list",dict:=none,data:=.seq items cn,slots:=#[]})(hmiss:typeLookup (.type "list") name=pure none)(hnc:(["__module__","__name__","__qualname__","__doc__","__annotations__"]:List Str).contains name=false)(hh:A.handled=none)
  (hq:∀h' tk' e,Heap.NewAttrErr h h' e (.ref a) name->R (.error (.ref e)) ⟨h',g,d,tk',os⟩) (hsz:name.length+100<=sizeLine:=by size_fits) :
  codeAny (model prog w) A (.call (.builtin "list.__getattribute__") ⟨[.ref a,.str name tk],[]⟩) R ⟨h,g,d,t,os⟩:=
 KQ Ko.plain F.entry_list_ga (Ko.check _ _ _ _ _ _ _ _ (show (⟨h,g,d,t,os⟩:Shared).TypeIs (.ref a) "list" from⟨_,hx,rfl⟩) (F.args_list_getattribute_2 _ _) (vU hx hmiss hnc hh hq hsz))
theorem EE{name:Str}{tk:Tok}{Q:Value->Shared->Prop}(hx:h.get? a=some {cls:=.type "list",dict:=none,data:=.seq items cn,slots:=#[]})(hmiss:typeLookup (.type "list") name=pure none)(hnc:(["__module__","__name__","__qualname__","__doc__","__annotations__"]:List Str).contains name=false)(hh:A.handled=none)
  (hq:∀h' tk' e,Heap.NewAttrErr h h' e (.ref a) name->E (.ref e) ⟨h',g,d,tk',os⟩) (hsz:name.length+100<=sizeLine:=by size_fits) :
  wpAny (model prog w) A (getAttrBy (.ref a) (.str name tk) false) Q E ⟨h,g,d,t,os⟩:=by
 have hT:(⟨h,g,d,t,os⟩:Shared).TypeIs (.ref a) "list":=⟨_,hx,rfl⟩;have f1:=sub_AttributeError;have f2:=Ko.lookup;have f3:=Ko.bind (.ref a);have f5:=pA
 repeat (any_goals (first|assumption|wp_step))
 refine zU hx hmiss hnc hh (λh' tk' e x=>?_) hsz;obtain⟨t',u',he⟩:=x.there;show wpAny _ _ (getattributeRaised _ _ _ _ _ _ _) _ _ _;unfold getattributeRaised
 repeat (any_goals (first|assumption|wp_step))
 exact hq _ _ _ x
theorem yQ{name:Str}{Q:Option Value->Shared->Prop}(hx:h.get? a=some {cls:=.type "list",dict:=none,data:=.seq items cn,slots:=#[]})(hmiss:typeLookup (.type "list") name=pure none)(hnc:(["__module__","__name__","__qualname__","__doc__","__annotations__"]:List Str).contains name=false)(hh:A.handled=none)
  (hq:∀h' tk',(∀b o,h.get? b=some o->h'.get? b=some o)->Q none ⟨h',g,d,tk',os⟩) (hsz:name.length+100<=sizeLine:=by size_fits) :
  wpAny (model prog w) A (getAttr? (.ref a) name) Q E ⟨h,g,d,t,os⟩:=by
 have f1:=sub_AttributeError;unfold getAttr? getAttrBy?;refine HU (wpAny_mkText (HU (Ld (EE hx hmiss hnc hh (λh' tk' e x=>?_) hsz))));obtain⟨t',u',he⟩:=x.there;have k:=x.keeps
 repeat (any_goals (first|assumption|wp_step))
 exact hq _ _ x.keeps
end
section
variable {prog:Program} {w:World} {K:Type} [DecidableEq K] {knd:KeyKind prog w K} {A:Around} {R:Result->Shared->Prop}
theorem gE:plainId "dict.update.loop"=true:=by decide +kernel
theorem fS:entryFor table "dict.update.loop"=some Builtin.«dict.update.loop»:=entryFor_of_fast (by kernel_rfl)
theorem qr(kvs:List (K×Value))(k:K)(v:Value):(stored kvs k v).length<=kvs.length+1:=by
 unfold stored;split
 ·rw[HY];lia
 ·rw[HX];simp
theorem jA:∀(more kvs:List (K×Value)),(merged kvs more).length<=kvs.length+more.length
 |[],kvs=>by unfold merged;simp
 |p::more,kvs=>by
  have h1:=jA more (stored kvs p.1 p.2);have h2:=qr kvs p.1 p.2;have e:merged kvs (p::more)=merged (stored kvs p.1 p.2) more:=rfl;rw[e,Iq];lia
theorem zT{it l dd:Addr}{items:Array Value}{more:List (K×Value)}(hh:A.handled=none)(hn:more.length=items.size)(h1:dd≠it)(h2:dd≠l)(h3:it≠l)(ps:Nat->Addr)(hps:∀i,i<items.size->items[i]?=some (.ref (ps i))/\ps i≠it/\ps i≠dd)(hsz:more.length<=20000):
  ∀(k i:Nat) (s:Shared),items.size-i=k->i<=items.size->s.heap.IsListIter it l i->s.heap.IsList l items->s.heap.DictOf knd dd (merged [] (more.take i)) ->
  (∀j,j<items.size->∃key v,s.heap.IsTuple (ps j) #[key,v]/\∃kk,more[j]?=some (kk,v)/\knd.is kk key=true) ->
  (∀h' tk,h'.DictOf knd dd (merged [] more)->(∀b o,b≠it->b≠dd->s.heap.get? b=some o->h'.get? b=some o)->R (.ok (.ret .none)) {s with heap:=h',toks:=tk}) ->
  codeAny (model prog w) A (.builtin "dict.update.loop" ⟨[.ref dd,.ref it,rawInt i,.none],[]⟩) R s:=by
 intro k
 induction k with
 |zero =>
  intro i s hk hi hit hl hd hp hR;have hin:i=items.size:=by lia
  subst hin;refine K6 fS ?_;rw[KR gE _];show wpAny _ A.in1 (pyNext (.ref it) >>= _) _ _ s;refine HU (wpAny_pyNext_list_end hh hit hl (by simp) λh' he=>?_)
  refine HU (Ii (Ii ?_));refine hR h' s.toks ?_ λb o b1 b2 e=>he b o b1 e;rw[Ji (by lia)] at hd
  exact hd.extBut he h1
 |succ k ih =>
  intro i s hk hi hit hl hd hp hR;have hlt:i<items.size:=by lia
  refine K6 fS ?_;rw[KR gE _];show wpAny _ A.in1 (pyNext (.ref it) >>= _) _ _ s;obtain⟨e1,e2,e3⟩:=hps i hlt;refine HU (MR hit hl e1 λh' hit' hs'=>?_);obtain⟨key,v,ht,kk,em,hkk⟩:=hp i hlt;have ht':h'.IsTuple (ps i) #[key,v]:=by obtain⟨o,ho,r⟩:=ht;exact⟨o,(hs'.2 _ e2).trans ho,r⟩
  have hd':h'.DictOf knd dd (merged [] (more.take i)):=by obtain⟨o,es,ep,ho,r⟩:=hd;exact⟨o,es,ep,(hs'.2 _ h1).trans ho,r⟩
  refine HU (Jl (HU (wpAny_tryCatch ?_)));unfold Dict.pairItems;refine HU (Ny ht'.typeIs ?_);rw[Ig (by decide)]
  obtain⟨o,ho,hoc,nn,hod⟩:=id ht';refine HU (KI ho hod (Ii ?_));show wpAny _ A.in1 (holding [key,v] (dictSet dd key v)) _ _ _;refine Jl (wpAny_dictSet_pairs hkk hd' (λh2' hd2 hs2=>?_) ?_)
  rotate_left
  ·exact Ia (jA _ _) (Ia (by rw[Je,Ls,IF];exact Ia (Nat.min_le_right _ _) hsz) (by decide))
  have et:merged [] (more.take (i+1))=stored (merged [] (more.take i)) kk v:=by
   have hlt':i<more.length:=by lia
   have:more[i]=(kk,v):=by rw[HV hlt'] at em;exact Option.some.inj em
   rw[List.take_succ_eq_append_getElem hlt',this];unfold merged;rw[List.foldl_append];rfl
  refine Ii ⟨Nr gE _,?_⟩;have:=ih (i+1) {s with heap:=h2',toks:=s.toks+1} (by lia) hlt (by obtain⟨o,ho,r⟩:=hit';exact⟨o,(hs2.2 _ (I_ h1)).trans ho,r⟩) (by obtain⟨o,ho,r⟩:=hl;exact⟨o,(hs2.2 _ (I_ h2)).trans ((hs'.2 _ (I_ h3)).trans ho),r⟩) (by rw[et];exact hd2) (λj hj=>by
   obtain⟨key,v,⟨o,ho,r⟩,rr⟩:=hp j hj;obtain⟨f1,f2,f3⟩:=hps j hj;exact⟨key,v,⟨o,(hs2.2 _ f3).trans ((hs'.2 _ f2).trans ho),r⟩,rr⟩) (λh3' tk hd3 hk3=>hR h3' tk hd3 λb o b1 b2 e=>hk3 b o b1 b2 ((hs2.2 _ b2).trans ((hs'.2 _ b1).trans e)))
  exact this
theorem qI{E:Value->Shared->Prop}{s:Shared}{l:Addr}{items:Array Value}{cn:Nat}{more:List (K×Value)}{Q:Value->Shared->Prop}(hl:s.heap.get? l=some {cls:=.type "list",dict:=none,data:=.seq items cn,slots:=#[]})(hh:A.handled=none)(hn:more.length=items.size)(hsz:more.length<=20000)
  (ps:Nat->Addr) (hps:∀i,i<items.size->items[i]?=some (.ref (ps i))) (hp:∀j,j<items.size->∃key v,s.heap.IsTuple (ps j) #[key,v]/\∃kk,more[j]?=some (kk,v)/\knd.is kk key=true)
  (h:∀h' tk,h'.DictOf knd s.heap.objs.size (merged [] more)->(∀b o,s.heap.get? b=some o->h'.get? b=some o)->Q (.ref s.heap.objs.size) {s with heap:=h',toks:=tk}) :
  wpAny (model prog w) A (call (.type "dict") [.ref l]) Q E s:=by
 refine callType_codes (Q₁:=λobj s₁=>obj=.ref s.heap.objs.size/\s₁={s with heap:=s.heap.push {cls:=.type "dict",data:=.dict #[]}}) F.kt_called_dict (F.kt_typeCall_dict_1 _) F.entry_dict_init (kt_code_dict_new _ ⟨rfl,rfl⟩) ?_
 rintro obj s₁ ⟨rfl,rfl⟩;have hnew:(s.heap.push {cls:=.type "dict",data:=.dict #[]}).DictOf knd s.heap.objs.size []:=Heap.DictOf.new s.heap;refine⟨hnew.typeIs,F.args_dict_init_2 _ _,?_⟩;unfold Builtin.«dict.__init__»;refine HU ?_;unfold Builtin.Dict.selfAndRest;refine HU (wpAny_notOrdered_dict hnew.typeIs ?_);show wpAny _ _ (pure (s.heap.objs.size,[Value.ref l])) _ _ _;refine Ii ?_;show wpAny _ _ (Builtin.Dict.updateFrom "dict.__init__" s.heap.objs.size (.ref l) [] .none) _ _ _;unfold Builtin.Dict.updateFrom;have hl1:(s.heap.push {cls:=.type "dict",data:=.dict #[]}).get? l=some {cls:=.type "list",dict:=none,data:=.seq items cn,slots:=#[]}:=HW _ hl;have hT:({s with heap:=s.heap.push {cls:=.type "dict",data:=.dict #[]}}:Shared).TypeIs (.ref l) "list":=⟨_,hl1,rfl⟩
 refine HU (Ny hT ?_);rw[Ig (by decide)]
 refine HU ?_;refine yQ hl1 Aa (by decide +kernel) hh (λh1 tk1 k1=>?_)
 rw[Ig (show (none:Option Value).isNone=true from rfl)];have hl2:h1.IsList l items:=⟨_,k1 _ _ hl1,rfl,cn,rfl⟩;have up:∀b o,s.heap.get? b=some o->h1.get? b=some o:=λb o e=>k1 b o (HW _ e);obtain⟨od,es,ep,hod,hor⟩:=hnew;have hdl:s.heap.objs.size<h1.objs.size:=Io (k1 _ _ hod);have hll:l<s.heap.objs.size:=Io hl;have hpl:∀j,j<items.size->ps j<s.heap.objs.size:=λj hj=>by obtain⟨key,v,⟨o,ho,_⟩,_⟩:=hp j hj;exact Io ho
 refine HU (Np (HU (L4 hl2 (Ii ⟨Nr gE _,?_⟩))));refine zT (knd:=knd) (it:=h1.objs.size) (l:=l) (items:=items) (more:=more) (A:=A.in1) hh hn (Iz hdl) (JM hll) (JM (Lp hll hdl)) ps (λi hi=>⟨hps i hi,Iz (Lp (hpl i hi) hdl),Iz (hpl i hi)⟩) hsz _ 0 _ rfl (Iv _) ⟨_,Ip _ rfl,rfl,rfl⟩ ?_ ⟨od,es,ep,HW _ (k1 _ _ hod),hor⟩ (λj hj=>?_) (λh' tk hd hk=>⟨rfl,h h' tk hd λb o e=>hk b o ?_ ?_ (HW _ (up b o e))⟩)
 ·obtain⟨o,ho,r⟩:=hl2;exact⟨o,HW _ ho,r⟩
 ·obtain⟨key,v,⟨o,ho,r⟩,rr⟩:=hp j hj;exact⟨key,v,⟨o,HW _ (up _ _ ho),r⟩,rr⟩
 ·exact Iz (Lp (Io e) hdl)
 ·exact Iz (Io e)
end
theorem kP{α β:Type}{F:α->β->Prop}:∀{l₁:List α} {l₂:List β},l₁.length=l₂.length->(∀(j:Nat) a b,l₁[j]?=some a->l₂[j]?=some b->F a b)->Paired F l₁ l₂
 |[],[],_,_=>.nil
 |[],_::_,h,_=>by cases h
 |_::_,[],h,_=>by cases h
 |a::l₁,b::l₂,h,f=>.cons (f 0 a b rfl rfl) (kP (Nat.succ.inj h) λj x y hx hy=>f (j+1) x y (by simpa using hx) (by simpa using hy))
noncomputable def Ac(K:W.Frag)(H:Hp)(vs:List V)(kvs:List (Key×V)):Prop:=vs.length=kvs.length/\∀(j:Nat) (k:Key) (x:V),kvs[j]?=some (k,x)->∃p,vs[j]?=some (.ref p)/\H p=some (.tup [kV k,x])
noncomputable def B0(K:W.Frag):List V->Hp->VK->Prop:=λxs H Q=>∃l vs kvs,xs=[.ref l]/\H l=some (.lst vs)/\Ac K H vs kvs/\kvs.length<=20000/\∀p,H p=none->Q (.ref p) (upd H p (.dK (fh [] kvs)))
theorem mU{X:Cx}(K:W.Frag)(hc:X.calm=true):bc X (.type "dict") (B0 K):=by
 intro pins s σ H xs us Q I r h;obtain⟨l,vs,kvs,rfl,hl,hp,hk,q⟩:=h;obtain⟨u,rfl,e0⟩:=vals1 r;have e1:u=.ref l:=e0;subst e1;obtain⟨hlen,its,n,hv,hget⟩:=(show aM X.prog X.w H s.heap l (.lst vs) from I.aI l _ hl);have hsz:its.toArray.size=kvs.length:=by rw[<- hp.1,Im,<- Paired.length hv]
 have key:∀j,j<kvs.length->∃p k x,kvs[j]?=some (k,x)/\its[j]?=some (.ref p)/\∃ku xu,s.heap.IsTuple p #[ku,xu]/\gQ k ku=true/\RelV x xu:=λj hj=>by
  obtain⟨p,e1,e2⟩:=hp.2 j kvs[j].1 kvs[j].2 (HV hj);obtain⟨u,e3,e4⟩:=Vals.get hv e1;have e5:u=.ref p:=e4;subst e5;obtain⟨_,ts,tv,hT⟩:=(show aM X.prog X.w H s.heap p (.tup [kV kvs[j].1,kvs[j].2]) from I.aI p _ e2);obtain⟨ku,xu,rfl,r1,r2⟩:=vals2 tv;exact⟨p,_,_,HV hj,e3,ku,xu,hT.to,kU (P:=X.prog) (w:=X.w) r1,r2⟩
 obtain⟨f,hf⟩:=Classical.axiomOfChoice (r:=λ(j:Nat) (y:Addr×Value×Value)=>∀hj:j<kvs.length,s.heap.IsTuple y.1 #[y.2.1,y.2.2]/\gQ kvs[j].1 y.2.1=true/\RelV kvs[j].2 y.2.2/\its[j]?=some (.ref y.1)) (λj=>by
  by_cases hj:j<kvs.length
  ·obtain⟨p,k,x,e1,e2,ku,xu,hT,h1,h2⟩:=key j hj;rw[HV hj] at e1;have e1':kvs[j]=(k,x):=Option.some.inj e1;exact⟨(p,ku,xu),λ_=>⟨hT,by rw[e1'];exact h1,by rw[e1'];exact h2,e2⟩⟩
  ·exact⟨(0,.none,.none),λh=>absurd h hj⟩)
 let mv:List (Key×Value):=(List.range kvs.length).map λj=>((kvs[j]?.getD (.inl 0,.aJ)).1,(f j).2.2)
 have hmv:mv.length=kvs.length:=by simp[mv]
 have hmj:∀j (hj:j<kvs.length),mv[j]?=some (kvs[j].1,(f j).2.2):=λj hj=>by
  simp only[mv,Ie,Ks hj,Li,HV hj,Option.getD_some]
 have at':∀j (hj:j<kvs.length),∃ku xu,s.heap.IsTuple (f j).1 #[ku,xu]/\gQ kvs[j].1 ku=true/\RelV kvs[j].2 xu/\its[j]?=some (.ref (f j).1)/\mv[j]?=some (kvs[j].1,xu):=λj hj=>by
  obtain⟨h1,h2,h3,h4⟩:=hf j hj;exact⟨_,_,h1,h2,h3,h4,hmj j hj⟩
 have hKV:KV kvs mv:=by
  refine kP (by rw[hmv]) λj a b ha hb=>?_
  have hj:j<kvs.length:=by
   rcases Jb j kvs.length with c|c
   ·exact c
   ·rw[Jr.mpr c] at ha;cases ha
  obtain⟨ku,xu,_,_,h2,_,h3⟩:=at' j hj;rw[HV hj] at ha;cases ha;rw[h3] at hb;cases hb;exact⟨rfl,h2⟩
 refine qI (knd:=bJ X.prog X.w) hget (I.ok.hd hc) (by rw[hmv,hsz]) (by rw[hmv];exact hk) (λj=>(f j).1) (λi hi=>?_) (λj hj=>?_) (λh' tk hd hkp=>?_)
 ·rw[hsz] at hi;obtain⟨_,_,_,_,_,e,_⟩:=at' i hi;rw[Jf];exact e
 ·rw[hsz] at hj;obtain⟨ku,xu,hT,h1,_,_,h3⟩:=at' j hj;exact⟨ku,xu,hT,_,h3,h1⟩
 ·have hz:(fh [] kvs).length<=sizeLine:=by
   have h1:=fP kvs [];rw[Je] at h1;exact Ia (show _<=20000 by lia) (by decide)
  exact⟨.ref s.heap.objs.size,_,I.laid (t':=tk) hkp (Ib _) (vg hz (Jn.mpr (I_ (Iz I.big))) (hKV.merge .nil) hd),rfl,q _ (I.aI.fresh (Ib _))⟩
open PySem PySem.Spec PyProof PyProof.Rows
namespace Z
section
variable {X:Cx} {CX:mQ} {k:Nat} {f C:Addr} {fd:FuncData} {ps:List Str} {sp:Sp} {E:XK} {x m nm:Str} {p pos pos' apos:Pos} {e o i value:Expr} {es:List Expr} {ta tv td ty:TE} {t:TA}
theorem Fc(hu:X.A.units+1<cLine)(ho:QE X o td)(hi:QE X i ty)(hs:wO i:=by exactλ_ _=>rfl):QE X (.Subscript o i pos) (nB td ty):=⟨y8 hu ho.h hi.h hs⟩
theorem dput(hu:X.A.units+1<cLine)(ho:QE X o td)(hi:QE X i ty)(hv:QE X value tv)(hs:autoParam (swapsWith value (some (.Subscript o i pos')) pos.line X.env=pure false) ℜ0):QS X (.Assign [.Subscript o i pos'] value pos) (oi td ty tv):=⟨zi hu ho.h hi.h hv.h hs⟩
end
end Z
namespace Ap
theorem nB(td ty:TE)(σ:St)(H:Hp)(Q:VK):L2.nB td ty σ H Q=td σ H λx H1=>ty σ H1 λy H2=>∃a v,x=.ref a/\fO H2 a y (some v)/\Q v H2:=rfl
theorem oi(td ty tv:TE)(D:Ends)(σ:St)(H:Hp):L2.oi td ty tv D σ H=tv σ H λv H1=>td σ H1 λx H2=>ty σ H2 λy H3=>∃a H4,x=.ref a/\t7 H3 a y v H4/\D.nx σ H4:=rfl
end Ap
section
variable {prog:Program} {w:World} {A:Around} {E:Value->Shared->Prop} {s:Shared} {K:W.Frag} {a:Addr} {D:List (Str×List Str)} {k:Str} {tk:Tok}
theorem sT{ws:List Str}{Q:Value->Shared->Prop}(T:kx K a D)(X:K.In s.heap)(hk:KTD.datumAt k D=some ws)(h:∀v,vI K ws v->Q v {s with toks:=s.toks+1}):wpAny (model prog w) A (getItem (.ref a) (.str k tk)) Q E s:=by
 have hT:=T.typeIs X;unfold getItem
 try with_reducible refine Jl ?_
 refine HU (wpAny_sequenceKey hT (by decide) ?_)
 refine HU (Ju (name:=Str.ofString "__getitem__") hT PySem.F.slot_dict_getitem
  (Jx PySem.F.slot_dict_getitem hT PySem.F.entry_dict_getitem ?_ (args_dict_getitem _ _)))
 show wpAny _ _ (dictGet a (.str k tk) >>= _) _ _ s;refine HU (xc T X (λd v e r=>?_) λe=>?_)
 ·rw[hk] at e;cases e;exact Ii ⟨v,rfl,Ii (h v r)⟩
 ·rw[hk] at e;cases e
end
variable{Q:Value->Shared->Prop}{X:Cx}{body e:Expr}{c' d f kS:Addr}{D:List (Str×List Str)}{a b:List Nat}{q x:Str}{e1 ep i:Nat}{y:Int×Int}{α:Type}{p:Array Nat}{N:List Str}{σf:List (Option V)}{scope:Scope}{cl:List (Str×Addr)}{params:Arguments}{ctv pm:Value}{H H1:Hp}{h h':Heap}{P:PySem.Fin->Shared->Prop}{us:List Value}{kz:List Int}{xs:List V}{K:W.Frag}{es:Array DictEntry}{prog:Program}{w:World}{prs:List (Int×Int)}
noncomputable def yf(K:W.Frag)(D:List (Str×List Str))(te:TE):TE:=λσ H Q=>te σ H λy H1=>∃k ws,y=.str k/\KTD.datumAt k D=some ws/\∀p,FV K p (ws.map V.str)->Q (.ref p) H1
theorem B3{o:Expr}{te:TE}{pos:Pos}(ho:PE X o (tC (.ref d)))(hD:kx X.K d D)(he:PE X e te)(hs:wO e):PE X (.Subscript o e pos) (yf X.K D te):=by
 intro pins s σ H Q I h;refine rA PySem.F.slot_dict_getitem.lookup hs (bD (ho pins s σ H (λv H'=>v=.ref d/\H'=H) I ⟨rfl,rfl⟩) λu s1 hq1=>?_);obtain⟨x,H1,I1,rx,ex,eh⟩:=hq1;subst ex eh;obtain rfl:u=Value.ref d:=rx;refine bD (he pins s1 σ H1 _ I1 h) λiv s2 hq2=>?_;obtain⟨y,H2,I2,ry,k,ws,ek,e1,q⟩:=hq2;subst ek;obtain⟨t,rfl⟩:=ry;refine⟨hD.typeIs I2.fo,sT hD I2.fo e1 λv r=>?_⟩;obtain⟨p,rfl,r⟩:=r;exact⟨.ref p,H2,I2.tok _,rfl,q p r⟩
theorem Z.seq{tg l:Expr}{tl:TE}(K:W.Frag)(hK:X.K=K)(hl:QE X l tl):QI X tg l (uL K tl):=by subst hK;exact⟨BL hl.h⟩
theorem Ap.uL(K:W.Frag)(tl:TE)(σ:St)(H:Hp)(R:It->Hp->Prop):L2.uL K tl σ H R=tl σ H λx H1=>∃a,x=V.ref a/\(((∃xs,bz K H1 a xs)/\R (yc K a) H1)\/((∃xs,bq K H1 a xs)/\R (tZ K a) H1)):=rfl
namespace Y
noncomputable def C0:V->List V->Hp->VK->Prop:=λx vs H Q=>∃(z y:Str) (i:Nat) (rest:List Nat),x=.str z/\vs=[.str y]/\Builtin.Str.occurrences z y 0 z.length 1=i::rest/\Q (.int (i:Nat)) H
theorem nL:uI X "str.index" C0:=by
 intro pins s σ H x xs v us Q I rx rs h;obtain⟨z,y,i,rest,rfl,rfl,ho,q⟩:=h;obtain⟨t,rfl⟩:=rx;obtain⟨u,rfl,k,rfl⟩:=vals1 rs;exact SC.index ho ⟨.int _,H,I.tok _,⟨_,rfl⟩,q⟩
noncomputable def E_:V->List V->Hp->VK->Prop:=λx vs H Q=>∃(a:Addr) (ws:List Str) (k:Str) (j:Nat),x=.ref a/\H a=some (.lst (ws.map V.str))/\vs=[.str k]/\ws[j]?=some k/\(∀m,m<j->ws[m]?≠some k)/\Q (.int (j:Nat)) H
theorem za:E5 X "list.index" E_:=by
 intro pins s σ H x xs v us Q I rx rs h;obtain⟨a,ws,k,j,rfl,hH,rfl,hj,hno,q⟩:=h;cases rx;obtain⟨u,rfl,t,rfl⟩:=vals1 rs;obtain⟨z,its,n,r,hl,e⟩:=I.nv hH;obtain⟨t',hit⟩:=nH r j k hj;have hjl:j<ws.length:=(HZ.mp hj).1;rw[HY] at z hl;have hji:j<its.toArray.size:=by rw[Im];lia
 have sz:(sizeLine:Int)<2^63-1:=by decide
 have hje:its.toArray[j]=.str k t':=by
  have:its.toArray[j]?=some (.str k t'):=by rw[Jf];exact hit
  exact (Iw.mp this).2
 have hall:∀(m:Nat) (hm:m<its.toArray.size),∃y ty,its.toArray[m]=.str y ty/\ws[m]?=some y:=λm hm=>by
  have hm':m<ws.length:=by rw[Im] at hm;lia
  have e1:=HV hm';obtain⟨ty,hy⟩:=nH r m _ e1;have:its.toArray[m]?=some (.str ws[m] ty):=by rw[Jf];exact hy
  exact⟨_,ty,(Iw.mp this).2,e1⟩
 refine K1 PySem.F.slot_list_index ⟨_,e,rfl⟩ PySem.F.entry_list_index (PySem.F.args_list_index_2 _ _) (SeqAt.list_indexAt a its.toArray n none _ (.str k t) (λy=>match y with|.str y _=>y == k|_=>false) j hji (by lia) (by rw[hje];exact Ka k) λm hm hmj=>?_) ⟨e,λy hy=>?_,⟨.int (j:Nat),H,I.tok _,⟨_,rfl⟩,q⟩⟩
 ·obtain⟨y,ty,ey,ew⟩:=hall m hm;rw[ey];exact Jn.mpr λz=>hno m hmj (by rw[ew,z])
 ·obtain⟨m,hm,rfl⟩:=Ng.mp hy;obtain⟨y,ty,ey,ew⟩:=hall m hm;rw[ey];exact SeqAt.EqAt.str_str _ _ _ _
end Y
open PySem PySem.Spec PyProof PyProof.Rows PySem.W
namespace SP
section
variable (k:Nat->Int)
noncomputable def R(i j:Nat):Prop:=k i<k j\/(k i=k j/\i<j)
variable {k}
theorem R.le{a b:Nat}(h:R k a b):k a<=k b:=by unfold R at h;lia
end
structure PI (n m:Nat) (p:Array Nat) (a:List Nat):Prop where
 eq:p.toList=a++List.range' m (n-m)
 perm:a.Perm (List.range m)
 le:m<=n
section
variable {n m:Nat} {p:Array Nat} {a:List Nat}
theorem PI.len(h:PI n m p a):a.length=m:=by rw[h.perm.length_eq,IP]
theorem PI.lt(h:PI n m p a){x:Nat}(hx:x∈a):x<m:=Jc.mp (h.perm.mem_iff.mp hx)
theorem PI.size(h:PI n m p a):p.size=n:=by
 have:=h.len;have:=h.le;rw[<- IU,h.eq,HX,List.length_range',h.len];lia
theorem PI.at(h:PI n m p a){x:Nat}(hi:a[i]?=some x):p.getD i 0=x:=by
 have:p[i]?=some x:=by
  rw[<- IL,h.eq,IJ (HZ.mp hi).1];exact hi
 rw[Me,this];rfl
theorem PI.nx(h:PI n m p a)(hm:m<n):p.getD m 0=m:=by
 have:p[m]?=some m:=by
  rw[<- IL,h.eq,IG (by rw[h.len];exact Ib m),h.len,JG,List.getElem?_range' (by lia)];simp
 rw[Me,this];rfl
theorem PI.step(h:PI n m p a)(hm:m<n):PI n (m+1) p (a++[m]):=by
 refine⟨?_,?_,hm⟩
 ·rw[h.eq,II,show n-m=(n-(m+1))+1 by lia,Kn];rfl
 ·rw[LN];exact h.perm.append_right [m]
theorem PI.last(h:PI n m p a){y:Nat}(e:a=b++[y]):p.getD (m-1) 0=y:=by
 refine h.at ?_;have:=h.len;rw[e,HX] at this;simp only[Iq,Je] at this;rw[e,IG (by lia),show m-1-b.length=0 by lia];rfl
end
theorem vn{xs:Array α}{k l:Nat}{y:α}(hy:xs[k]?=some y)(hl:l<=k):(bubble xs k (k-l)).toList=xs.toList.take l++y::(xs.toList.drop l).take (k-l)++xs.toList.drop (k+1):=by
 have hk:k<xs.size:=(Iw.mp hy).1;have hL:xs.toList.length=xs.size:=by simp
 apply Kk;intro i;rw[IL,getElem?_bubble hk _ (by lia),show k-(k-l)=l by lia]
 rw[II,KU];have ht:(xs.toList.take l).length=l:=by rw[IF];lia
 rw[ht];by_cases h1:i<l
 ·rw[Ig h1,H_ (by lia),H_ (by lia),K7,Ig h1,IL]
 ·rw[H_ h1];by_cases h2:i=l
  ·subst h2;rw[Ig rfl,JG,hy];rfl
  ·rw[H_ h2,show i-l=(i-l-1)+1 by lia,JD,MI,KU]
   have hm:((xs.toList.drop l).take (k-l)).length=k-l:=by rw[IF,IQ];lia
   rw[hm];by_cases h3:i-l-1<k-l
   ·rw[Ig h3,Ig (by lia),K7,Ig h3,JF,IL]
    congr 1;lia
   ·rw[H_ h3,H_ (by lia),JF,IL]
    congr 1;lia
theorem wk{xs:Array α}{j:Nat}(hi:i<=j)(hj:j<=xs.size):(mirror xs i j ((j-i) / 2)).toList=xs.toList.take i++((xs.toList.drop i).take (j-i)).reverse++xs.toList.drop j:=by
 have hL:xs.toList.length=xs.size:=by simp
 apply Kk;intro k;rw[IL,getElem?_mirror_all hj,II,KU];have ht:(xs.toList.take i).length=i:=by rw[IF];lia
 have hm:((xs.toList.drop i).take (j-i)).length=j-i:=by rw[IF,IQ];lia
 rw[ht];by_cases h1:k<i
 ·rw[Ig h1,H_ (by lia),K7,Ig h1,IL]
 ·rw[H_ h1,KU,Kt,hm];by_cases h2:k<j
  ·rw[Ig (by lia),Ig (by lia),List.getElem?_reverse (by lia),hm,K7,Ig (by lia),JF,IL]
   congr 1;lia
  ·rw[H_ (by lia),H_ (by lia),JF,IL]
   congr 1;lia
theorem PI.rev{n m:Nat}{c:List Nat}(h:PI n m p (b++c)):PI n m (kas_rev p b.length m) (b++c.reverse):=by
 have hl:b.length+c.length=m:=by rw[<- h.len,HX]
 refine⟨?_,((List.reverse_perm c).append_left b).trans h.perm,h.le⟩;unfold kas_rev;rw[wk (by lia) (by rw[h.size];exact h.le),h.eq,II b c,Nh,List.drop_left,show m-b.length=c.length by lia,Nh,<- II b c,List.drop_left' (by rw[HX];exact hl)]
theorem lM{m:Nat}(h:a.length=m)(hm:1<=m):∃b y,a=b++[y]:=by
 rcases Ni a with rfl|⟨b,y,rfl⟩
 ·cases h;exact absurd hm (by decide)
 ·exact⟨b,y,by simp⟩
section
variable {k:Nat->Int} {n:Nat} {cmp:Nat->Nat->(Bool->Shared->Prop)->Shared->Prop} {I:Shared->Prop}
noncomputable def oZ(k:Nat->Int)(n:Nat)(cmp:Nat->Nat->(Bool->Shared->Prop)->Shared->Prop)(I:Shared->Prop):Prop:=∀i j C s,i<n->j<n->I s->(∀s',I s'->C (decide (k i<k j)) s')->cmp i j C s
theorem qg(hc:oZ k n cmp I){G:Nat->Shared->Prop}:∀(f m:Nat) (a:List Nat) (s:Shared),PI n m p a->1<=m->f=n-m->a.Pairwise (R k)->I s ->
  (∀m' a' s',PI n m' p a'->m<=m'->a'.Pairwise (R k)->I s'->(∀b y,a'=b++[y]->m'<n->k m'<k y)->G m' s')->(kas_asc p f m).kasWp cmp G s
 |0,m,a,s,h,h1,hf,hp,hI,g=>g m a s h (Ib m) hp hI λ_ _ _ hl=>by have:=h.le;lia
 |f+1,m,a,s,h,h1,hf,hp,hI,g=>by
  have hm:m<n:=by lia
  obtain⟨b,y,e⟩:=lM h.len h1;show cmp (p.getD m 0) (p.getD (m-1) 0) _ s;rw[h.nx hm,h.last e];have hy:y<m:=h.lt (by rw[e];simp)
  refine hc m y _ s hm (by lia) hI λs' hI'=>?_
  by_cases c:k m<k y
  ·rw[IM c];exact g m a s' h (Ib m) hp hI' λb' y' e' _=>by
    rw[e] at e';have:[y]=[y']:=(List.append_inj' e' rfl).2
    cases this;exact c
  ·rw[IE c];refine qg hc f (m+1) (a++[m]) s' (h.step hm) (by lia) (by lia) ?_ hI' λm' a' s2 h' hm' hp' hI2 gl=>g m' a' s2 h' (by lia) hp' hI2 gl
   refine Jz.mpr ⟨hp,by simp,λx hx z hz=>?_⟩
   rw[Ir.mp hz];have hxm:=h.lt hx;have:k x<=k y:=by
    rw[e] at hx hp;rcases Jk.mp hx with hx|hx
    ·exact ((Jz.mp hp).2.2 x hx y (by simp)).le
    ·rw[Ir.mp hx];exact MU _
   unfold R;lia
structure DI (k:Nat->Int) (b c:List Nat):Prop where
 DC:b.Pairwise λx y=>R k y x
 less:∀y∈b,∀x∈c,k x<k y
 one:∀x∈c,∀y∈c,k x=k y
 up:c.Pairwise (· < ·)
theorem DI.rise{c:List Nat}(h:DI k b c):(b++c.reverse).reverse.Pairwise (R k):=by
 rw[LW,KW];refine Jz.mpr ⟨?_,LF.mpr h.DC,λx hx y hy=>.inl (h.less y (Kb.mp hy) x hx)⟩;exact Lu (λ{x y} hx hy hl=>.inr ⟨h.one x hx y hy,hl⟩) h.up
theorem DI.next{c:List Nat}{x:Nat}(h:DI k b c)(hc:c≠[])(hx:∀y∈c,k x<k y):DI k (b++c.reverse) [x]:=by
 refine⟨Jz.mpr ⟨h.DC,LF.mpr (Lu (λ{x y} hx hy hl=>.inr ⟨h.one x hx y hy,hl⟩) h.up),λy hy z hz=>.inl (h.less y hy z (Kb.mp hz))⟩,λy hy z hz=>?_,λy hy z hz=>?_,by simp⟩
 ·rw[Ir.mp hz];rcases Jk.mp hy with hy|hy
  ·obtain⟨w,hw⟩:=Mx c hc;exact Int.lt_trans (hx w hw) (h.less y hy w hw)
  ·exact hx y (Kb.mp hy)
 ·rw[Ir.mp hy,Ir.mp hz]
theorem DI.more{c:List Nat}{x:Nat}(h:DI k b c)(he:∀y∈c,k x=k y)(hc:c≠[])(hl:∀y∈c,y<x):DI k b (c++[x]):=by
 refine⟨h.DC,λy hy z hz=>?_,λy hy z hz=>?_,Jz.mpr ⟨h.up,by simp,λy hy z hz=>by rw[Ir.mp hz];exact hl y hy⟩⟩
 ·rcases Jk.mp hz with hz|hz
  ·exact h.less y hy z hz
  ·rw[Ir.mp hz];obtain⟨w,hw⟩:=Mx c hc;rw[he w hw];exact h.less y hy w hw
 ·rcases Jk.mp hy with hy|hy<;>rcases Jk.mp hz with hz|hz
  ·exact h.one y hy z hz
  ·rw[Ir.mp hz];exact (he y hy).symm
  ·rw[Ir.mp hy];exact he z hz
  ·rw[Ir.mp hy,Ir.mp hz]
theorem iZ(hc:oZ k n cmp I){G:Array Nat×Nat×Nat->Shared->Prop}:∀(f:Nat) (p:Array Nat) (m q:Nat) (b c:List Nat) (s:Shared),PI n m p (b++c)->c.length=q+1->DI k b c->f=n-m->I s ->
  (∀p' m' q' b' c' s',PI n m' p' (b'++c')->c'.length=q'+1->DI k b' c'->I s'->G (p',m',q') s')->(kas_desc f p m q).kasWp cmp G s
 |0,p,m,q,b,c,s,h,hl,hd,hf,hI,g=>g p m q b c s h hl hd hI
 |f+1,p,m,q,b,c,s,h,hl,hd,hf,hI,g=>by
  have hm:m<n:=by lia
  obtain⟨c0,y,e⟩:=lM hl (by lia)
  have hbl:b.length+(q+1)=m:=by rw[<- hl,<- HX,h.len]
  have ne:c≠[]:=by rw[e];simp
  have hy:y∈c:=by rw[e];simp
  have hya:y<m:=h.lt (Iy _ hy);have e1:p.getD m 0=m:=h.nx hm;have e2:p.getD (m-1) 0=y:=h.last (b:=b++c0) (by rw[e,II])
  show cmp (p.getD m 0) (p.getD (m-1) 0) _ s;rw[e1,e2];refine hc m y _ s hm (by lia) hI λs' hI'=>?_
  by_cases c1:k m<k y
  ·rw[IM c1];have hx:∀z∈c,k m<k z:=λz hz=>by rw[hd.one z hz y hy];exact c1
   show KasT.kasWp cmp (if q > 0 then _ else _) G s'
   by_cases hq:q > 0
   ·rw[Ig hq,show m-(q+1)=b.length by lia]
    exact iZ hc f _ (m+1) 0 (b++c.reverse) [m] s' (h.rev.step hm) rfl (hd.next ne hx) (by lia) hI' g
   ·rw[H_ hq];have e3:c.reverse=c:=by
     have:c.length=1:=by lia
     obtain⟨z,rfl⟩:=MV.mp this;rfl
    exact iZ hc f p (m+1) 0 (b++c.reverse) [m] s' (by rw[e3];exact h.step hm) rfl (hd.next ne hx) (by lia) hI' g
  ·rw[IE c1];show cmp y m _ s';refine hc y m _ s' (by lia) hm hI' λs2 hI2=>?_
   by_cases c2:k y<k m
   ·rw[IM c2];exact g p m q b c s2 h hl hd hI2
   ·rw[IE c2];refine iZ hc f p (m+1) (q+1) b (c++[m]) s2 (by rw[<- II];exact h.step hm) (by rw[HX,hl];rfl) (hd.more (λz hz=>?_) ne λz hz=>h.lt (Iy _ hz)) (by lia) hI2 g
    rw[hd.one z hz y hy];lia
theorem rq(hc:oZ k n cmp I){G:Nat×Array Nat->Shared->Prop}{m:Nat}{s:Shared}(h:PI n m p a)(h1:1<=m)(hr:a.reverse.Pairwise (R k))(hI:I s)
  (g:∀m' p' a' s',PI n m' p' a'->1<=m'->a'.Pairwise (R k)->I s'->G (m',p') s'):(kas_tail3 m n p).kasWp cmp G s:=by
 unfold kas_tail3;rw[Lk];have hv:=PI.rev (b:=[]) (c:=a) h;exact qg hc (n-m) m a.reverse s hv h1 rfl hr hI λm' a' s' h' hm' hp' hI' _=>g m' _ a' s' h' (by lia) hp' hI'
theorem qW(hc:oZ k n cmp I){G:Nat×Array Nat->Shared->Prop}{m:Nat}{s:Shared}(h:PI n m p a)(hm:m<n)(hd:DI k a [m])(hI:I s)
  (g:∀m' p' a' s',PI n m' p' a'->1<=m'->a'.Pairwise (R k)->I s'->G (m',p') s'):(kas_descPart m n p).kasWp cmp G s:=by
 unfold kas_descPart;rw[Lk];refine iZ hc (n-(m+1)) p (m+1) 0 a [m] s (h.step hm) rfl hd rfl hI λp' m' q' b' c' s' h' hl' hd' hI'=>?_;have hbl:b'.length+(q'+1)=m':=by rw[<- hl',<- HX,h'.len]
 show KasT.kasWp cmp (if q' > 0 then _ else _) G s'
 by_cases hq:q' > 0
 ·rw[Ig hq];show (kas_tail3 m' n (kas_rev p' (m'-(q'+1)) m')).kasWp cmp G s';rw[show m'-(q'+1)=b'.length by lia]
  exact rq hc h'.rev (by lia) hd'.rise hI' g
 ·rw[H_ hq];have e3:c'.reverse=c':=by
   have:c'.length=1:=by lia
   obtain⟨z,rfl⟩:=MV.mp this;rfl
  exact rq hc h' (by lia) (by rw[<- e3];exact hd'.rise) hI' g
theorem xl(hc:oZ k n cmp I){G:Nat×Array Nat->Shared->Prop}{s:Shared}(hn:1<=n)(hI:I s)
  (g:∀m' p' a' s',PI n m' p' a'->1<=m'->a'.Pairwise (R k)->I s'->G (m',p') s'):(kas_count n (List.toArray (List.range n))).kasWp cmp G s:=by
 unfold kas_count;rw[Lk];have h0:PI n 1 (List.toArray (List.range n)) [0]:=by
  refine⟨?_,List.Perm.refl _,hn⟩;show List.range n=[0]++List.range' 1 (n-1);rw[KY,show n=(n-1)+1 by lia,Kn];rfl
 refine qg hc (n-1) 1 [0] s h0 (Ib 1) rfl (by simp) hI λm a s' h hm hp hI' gl=>?_
 show KasT.kasWp cmp (if (m == n)=true then _ else _) G s'
 by_cases e:m=n
 ·subst e;rw[Ig (Ka m)];exact g m _ a s' h hm hp hI'
 ·rw[H_ (by simpa using e)]
  have hmn:m<n:=by have:=h.le;lia
  obtain⟨b,y,ea⟩:=lM h.len hm;have ky:=gl b y ea hmn;have hya:y<m:=h.lt (by rw[ea];simp)
  by_cases h2:m > 1
  ·rw[Ig h2];obtain⟨x,r,ex⟩:∃x r,a=x::r:=by
    cases a with
    |nil=>have:=h.len;rw[Je] at this;lia
    |cons x r=>exact⟨x,r,rfl⟩
   have hxa:x<m:=h.lt (by rw[ex];simp)
   show cmp ((List.toArray (List.range n)).getD 0 0) ((List.toArray (List.range n)).getD (m-1) 0) _ s';rw[h.at (i:=0) (x:=x) (by rw[ex];rfl),h.last ea]
   refine hc x y _ s' (by lia) (by lia) hI' λs2 hI2=>?_
   by_cases c:k x<k y
   ·rw[IM c];exact g m _ a s2 h hm hp hI2
   ·rw[IE c];have hv:=PI.rev (b:=[]) (c:=a) h;refine qW hc hv hmn ⟨LF.mpr hp,λz hz w hw=>?_,λz hz w hw=>by rw[Ir.mp hz,Ir.mp hw],by simp⟩ hI2 g
    rw[Ir.mp hw];have hz':=Kb.mp hz;have hxz:k x<=k z:=by
     rw[ex] at hz' hp;rcases Ih.mp hz' with rfl|hz'
     ·exact MU _
     ·exact ((IS.mp hp).1 z hz').le
    lia
  ·rw[H_ h2];have hm1:m=1:=by lia
   have hb:b=[]:=by
    have:=h.len;rw[ea,HX,hm1] at this;simp only[Iq,Je] at this;exact Kx.mp (by lia)
   subst hb;refine qW hc h hmn ⟨by rw[ea];simp,λz hz w hw=>?_,λz hz w hw=>by rw[Ir.mp hz,Ir.mp hw],by simp⟩ hI' g
   rw[Ir.mp hw];rw[ea] at hz;rw[Ir.mp hz];exact ky
theorem jE(hc:oZ k n cmp I){G:Nat->Shared->Prop}{t:Nat}(h:PI n t p a)(ht:t<n)(hp:a.Pairwise (R k)):∀(f l r:Nat) (s:Shared),l<=r->r<=t->r-l<=f->(∀i x,i<l->a[i]?=some x->k x<=k t)->(∀i x,r<=i->a[i]?=some x->k t<k x)->I s ->
  (∀l' s',l'<=t->(∀i x,i<l'->a[i]?=some x->k x<=k t)->(∀i x,l'<=i->a[i]?=some x->k t<k x)->I s'->G l' s')->(kas_place p t f l r).kasWp cmp G s
 |0,l,r,s,h1,h2,h3,hlo,hhi,hI,g=>g l s (by lia) hlo (λi x hi e=>hhi i x (by lia) e) hI
 |f+1,l,r,s,h1,h2,h3,hlo,hhi,hI,g=>by
  show KasT.kasWp cmp (if l >= r then _ else _) G s
  by_cases hlr:l >= r
  ·rw[Ig hlr];exact g l s (by lia) hlo (λi x hi e=>hhi i x (by lia) e) hI
  ·rw[H_ hlr];have hmid:(l+r) / 2<a.length:=by rw[h.len];lia
   have em:a[(l+r) / 2]?=some a[(l+r) / 2]:=HV hmid;have hma:a[(l+r) / 2]<t:=h.lt (IH hmid);have mono:∀i j x y,i<=j->a[i]?=some x->a[j]?=some y->k x<=k y:=λi j x y hij ex ey=>by
    rcases Jb i j with c|c
    ·obtain⟨hi,rfl⟩:=HZ.mp ex;obtain⟨hj,rfl⟩:=HZ.mp ey;exact (JS.mp hp i j hi hj c).le
    ·have:i=j:=Nat.le_antisymm hij c;subst this;rw[ex] at ey;cases ey;exact MU _
   show cmp (p.getD t 0) (p.getD ((l+r) / 2) 0) _ s;rw[h.nx ht,h.at em];refine hc t _ _ s ht (by lia) hI λs' hI'=>?_
   by_cases c:k t<k a[(l+r) / 2]
   ·rw[IM c];exact jE hc h ht hp f l ((l+r) / 2) s' (by lia) (by lia) (by lia) hlo (λi x hi e=>Int.lt_of_lt_of_le c (mono _ i _ x hi em e)) hI' g
   ·rw[IE c];exact jE hc h ht hp f ((l+r) / 2+1) r s' (by lia) h2 (by lia) (λi x hi e=>Int.le_trans (mono i _ x _ (by lia) e em) (by lia)) hhi hI' g
theorem vc(hc:oZ k n cmp I){G:Array Nat->Shared->Prop}:∀(f:Nat) (p:Array Nat) (t:Nat) (a:List Nat) (s:Shared),PI n t p a->a.Pairwise (R k)->f=n-t->I s ->
  (∀p' a' s',PI n n p' a'->a'.Pairwise (R k)->I s'->G p' s')->(kas_bin f p t).kasWp cmp G s
 |0,p,t,a,s,h,hp,hf,hI,g=>by
  have:t=n:=by have:=h.le;lia
  subst this;exact g p a s h hp hI
 |f+1,p,t,a,s,h,hp,hf,hI,g=>by
  have ht:t<n:=by lia
  show KasT.kasWp cmp ((kas_place p t t 0 t).bind _) G s;rw[Lk];refine jE hc h ht hp t 0 t s (Iv _) (Ib _) (by lia) (λi x hi _=>absurd hi (LQ i)) (λi x hi e=>?_) hI λl s' hl hlo hhi hI'=>?_
  ·have:=(HZ.mp e).1;rw[h.len] at this;lia
  ·have et:p[t]?=some t:=by
    rw[<- IL,h.eq,IG (by rw[h.len];exact Ib t),h.len,JG,List.getElem?_range' (by lia)];simp
   have hla:l<=a.length:=by rw[h.len];exact hl
   have e1:(bubble p t (t-l)).toList=(a.take l++t::a.drop l)++List.range' (t+1) (n-(t+1)):=by
    rw[vn et hl,h.eq,List.take_append_of_le_length hla,List.drop_append_of_le_length hla,show n-t=(n-(t+1))+1 by lia,Kn]
    have e2:(a.drop l).length=t-l:=by rw[IQ,h.len]
    have e3:∀r:List Nat,(a++t::r).drop (t+1)=r:=λr=>by
     rw[show a++t::r=(a++[t])++r by simp]
     exact List.drop_left' (by rw[HX,h.len];rfl)
    rw[List.take_left' e2,e3]
   have hP:PI n (t+1) (bubble p t (t-l)) (a.take l++t::a.drop l):=by
    refine⟨e1,?_,ht⟩;have:(a.take l++t::a.drop l).Perm (a++[t]):=by
     have h1:(a.take l++t::a.drop l).Perm (t::(a.take l++a.drop l)):=M7;rw[KJ] at h1;exact h1.trans (List.perm_append_singleton t a).symm
    rw[LN];exact this.trans (h.perm.append_right [t])
   refine vc hc f _ (t+1) _ s' hP ?_ (by lia) hI' g
   have hp1:=(KJ l a) ▸ hp;obtain⟨q1,q2,q3⟩:=Jz.mp hp1;refine Jz.mpr ⟨q1,IS.mpr ⟨λx hx=>?_,q2⟩,λx hx y hy=>?_⟩
   ·obtain⟨i,hi⟩:=LG.mp hx;rw[JF] at hi;exact .inl (hhi (l+i) x (by lia) hi)
   ·rcases Ih.mp hy with rfl|hy
    ·obtain⟨i,hi⟩:=LG.mp hx;rw[K7] at hi
     split at hi
     ·rename_i hil;have:=hlo i x hil hi;have hxt:=h.lt (LR hx);unfold R;lia
     ·cases hi
    ·exact q3 x hx y hy
theorem sj(hc:oZ k n cmp I){G:Array Nat->Shared->Prop}{s:Shared}(hn:1<=n)(hI:I s)(g:∀p s',p.toList.Perm (List.range n)->p.toList.Pairwise (R k)->I s'->G p s'):(kas_sort n).kasWp cmp G s:=by
 unfold kas_sort;rw[Lk];have fin:∀p a s',PI n n p a->a.Pairwise (R k)->I s'->G p s':=λp a s' h hp hI'=>by
  have e:p.toList=a:=by rw[h.eq,JG,List.range'_zero,Jd]
  refine g p s' ?_ ?_ hI'<;>rw[e]
  ·exact h.perm
  ·exact hp
 refine xl hc hn hI λm p a s' h h1 hp hI'=>?_;show KasT.kasWp cmp (if m<n then _ else _) G s'
 by_cases hm:m<n
 ·rw[Ig hm];show (kas_bin (n-max m 1) p (max m 1)).kasWp cmp G s';rw[show max m 1=m by lia]
  exact vc hc (n-m) p m a s' h hp rfl hI' fin
 ·rw[H_ hm];have:m=n:=by have:=h.le;lia
  subst this;exact fin p a s' h hp hI'
end
end SP
abbrev BM(qual:Str)(scope:Scope)(L f:Addr)(cd:Value)(cl:List (Str×Addr)):Env:=W.envX qual scope L f cd cl
noncomputable def rg(X:Cx)(A:Around)(N:List Str)(qual:Str)(scope:Scope)(f:Addr)(cd:Value)(cl:List (Str×Addr))(s:Shared)(H:Hp):Cx where
 prog:=X.prog
 w:=X.w
 K:=X.K
 mg:=X.mg
 base:=X.base
 A:=A.deeper (BM qual scope s.heap.objs.size f cd cl)
 N:=N
 s₀:=s
 H₀:=H
 env:=BM qual scope s.heap.objs.size f cd cl
 outer:=X.stack
 stack:=BM qual scope s.heap.objs.size f cd cl::X.stack
 ex:=[]
 calm:=true
 fn:=λ_=>false
 pn:=[]
 xe:=λ_ _=>False
section
variable {X:Cx} {pins:List (Addr×Obj)} {σ:St} {H:Hp} {s:Shared}
theorem yV(I:Inv X pins σ H s){A:Around}(hA:A.frames=some X.stack)(hd:A.handled=none){qual:Str}{v:V}{u:Value}{cd:Value}{h₁:Heap}{tk:Nat}
  (hk:scope.kind=.function) (rv:RelV v u) (hloc:scope.names.lookup x=some .local) (hns:h₁.Ns s.heap.objs.size (λy=>[(x,u)].reverse.lookup y)) (old:∀b o,s.heap.get? b=some o->h₁.get? b=some o)
  (hlen:σf.length=N.length) (hcl:∀y c,cl.lookup y=some c->X.env.cells.lookup y=some c) (hhas:∀y,(scope.names.lookup y=some .cell\/scope.names.lookup y=some .free)->∃c,cl.lookup y=some c)
  (hf:∀(i:Nat) (y:Str) (v:V),N[i]?=some y->σf[i]?=some (some v)->scope.names.lookup y=some .free/\∃c u,cl.lookup y=some c/\s.heap.IsCell c (some u)/\RelV v u) :
  Inv (rg X A (x::N) qual scope f cd cl s H) [] (some v::σf) H {s with heap:=h₁,toks:=tk}:=by
 have noA:∀b:Addr,b∉(rg X A (x::N) qual scope f cd cl s H).ex:=λb z=>absurd (show b∈([]:List Addr) from z) (by simp)
 refine⟨⟨I.ok.mod,hk,rfl,rfl,Ib _,λy z c e1 e2=>I.ok.inj y z c (hcl y c e1) (hcl z c e2),hhas,λy c z _=>(by cases z),λ_=>hd,Around.frames_deeper hA,.inr ⟨rfl,rfl⟩,λb z=>absurd z (noA b),I.bs,Ia I.ok.pd I.sz,λb _ _=>noA b,λb z=>absurd z (noA b),I.stack,I.iR,I.ok.tabs.un I.base⟩,
  rfl,I.bare,Un.kept old,⟨_,hns,λi y w e1 e2 e3=>?_⟩,λy c e=>?_,I.aI.fresh (Ib _),λy c e=>I.bW y c (hcl y c e),λp hp=>absurd (show p∈([]:List (Addr×Obj)) from hp) (by simp),I.aI.kept old,?_⟩
 ·cases i with
  |zero =>
   have e1':some x=some y:=e1;have e2':some (some v)=some (some w):=e2
   cases e1';cases e2'
   exact⟨u,rv,.inl ⟨hloc,by simp⟩⟩
  |succ i =>
   obtain⟨h1,c,u',h2,h3,h4⟩:=hf i y w e1 e2;obtain⟨o,ho,hd'⟩:=h3;exact⟨u',h4,.inr ⟨.inr h1,c,h2,o,old _ _ ho,hd'⟩⟩
 ·obtain⟨v',o,ho,hd'⟩:=I.cell y c (hcl y c e);exact⟨v',o,old _ _ ho,hd'⟩
 ·show (some v::σf).length=(x::N).length;rw[Iq,Iq,hlen]
theorem vE(I:Inv X pins σ H s){A:Around}{k:Nat}(hr:bj (k+1) A)(hA:A.frames=some X.stack){qual:Str}{v:V}{u:Value}{f:Addr}{t:TE}{Q:VK}
  (hk:scope.kind=.function) (hco:scope.isCoroutine=false) (hgen:scope.isGenerator=false) (hcell:∀y∈scope.names,y.2≠.cell) (rv:RelV v u) (hloc:scope.names.lookup x=some .local)
  (ho:s.heap.get? f=some (W.kla_obj "<lambda>" qual params body scope cl pm c' ctv)) (fM:s.heap.CodeRec (.ref c') qual)
  (hbind:∀u,bindArgs (W.kla_fn "<lambda>" qual params body scope cl pm (.ref c') ctv) ⟨[u],[]⟩=pure [(x,u)])
  (hlen:σf.length=N.length) (hcl:∀y c,cl.lookup y=some c->X.env.cells.lookup y=some c) (hhas:∀y,(scope.names.lookup y=some .cell\/scope.names.lookup y=some .free)->∃c,cl.lookup y=some c)
  (hf:∀(i:Nat) (y:Str) (v:V),N[i]?=some y->σf[i]?=some (some v)->scope.names.lookup y=some .free/\∃c u,cl.lookup y=some c/\s.heap.IsCell c (some u)/\RelV v u)
  (hb:PE (rg X A (x::N) qual scope f (.ref c') cl s H) body t) (hq:t (some v::σf) H Q) :
  wpAny (model X.prog X.w) A (call (.ref f) [u]) (EP X pins σ Q) (λ_ _=>False) s:=by
 refine KP (W.kla_callFunE hr.depth ho rfl hco hgen rfl fM ?_);rw[hbind];refine Ii (wpAny_newFunctionEnv hcell (λy hy=>by rw[Ir.mp hy];exact hloc) (λh₁ hns hsb=>⟨I.nolimit.fresh _ hsb,?_⟩) hk)
 have old:∀b o,s.heap.get? b=some o->h₁.get? b=some o:=λb o e=>hsb.extBut b o (Iz (Io e)) (HW _ e);have J:=yV (tk:=s.toks+1) (qual:=qual) (f:=f) (cd:=.ref c') I hA hr.hd hk rv hloc hns old hlen hcl hhas hf;refine W.kla_codeExpr (IZ (hb [] _ _ H Q J hq) (λw s' h=>?_) λ_ _ h=>h.elim);obtain⟨v',H',J',r',q'⟩:=h;exact I.after ⟨v',H',J'.os,J'.bare,J'.base,J'.aI,r',q'⟩
end
inductive d3:Hp->Hp->Prop
 |refl {H:Hp}:d3 H H
 |more {H H1:Hp} {p:Addr} {o:HO}:d3 H H1->H1 p=none->d3 H (upd H1 p o)
theorem d3.same(g:d3 H H1):jr H H1:=by
 induction g with
 |refl=>exact jr.refl _
 |more g n ih=>exactλb o e=>by rw[ae (ao (ih b o e) n)];exact ih b o e
theorem d3.trans{H2:Hp}(a:d3 H H1)(b:d3 H1 H2):d3 H H2:=by
 induction b with
 |refl=>exact a
 |more _ n ih=>exact .more ih n
theorem iF{i j:Int}{ti tj:Tok}{c:Value}:∀l:List Value,TriplesOk l->TriplesOk (l++[.int i ti,.int j tj,c])
 |[],_=>trivial
 |.int _ _::.int _ _::_::r,h=>iF r (show TriplesOk r from h)
theorem kT{p:Pos}{i j:Int}{ti tj:Tok}{c cv:Value}:∀l:List Value,TriplesOk l->codeAmong p (l++[.int i ti,.int j tj,c])=some cv->codeAmong p l=some cv\/cv=c
 |[],_,e=>by
  have e':(if (i == p.line && j == p.col)=true then some c else codeAmong p [])=some cv:=e
  by_cases z:(i == p.line && j == p.col)=true
  ·rw[Ig z] at e';cases e';exact .inr rfl
  ·rw[H_ z] at e';cases e'
 |.int a ta::.int b tb::d::r,h,e=>by
  have e':(if (a == p.line && b == p.col)=true then some d else codeAmong p (r++[.int i ti,.int j tj,c]))=some cv:=e
  show (if (a == p.line && b == p.col)=true then some d else codeAmong p r)=some cv\/_
  by_cases z:(a == p.line && b == p.col)=true
  ·rw[Ig z] at e' ⊢;exact .inl e'
  ·rw[H_ z] at e' ⊢;exact kT r (show TriplesOk r from h) e'
theorem qQ(q:Str)(more:Array Value):vZ (#[.str q 0]++more)=q:=by
 unfold vZ;rw[Ku];rfl
structure iJ (H:Hp) (f:Addr) (q:Str) (params:Arguments) (body:Expr) (scope:Scope) (cl:List (Str×Addr)) (c':Addr) (pm ctv:Value):Prop where
 fn:H f=some (.hU (W.kla_obj "<lambda>" q params body scope cl pm c' ctv) (.own f))
 cd:Bf H q (.ref c')
section
variable {X:Cx} {pins:List (Addr×Obj)} {σ:St} {H:Hp} {s:Shared} {E:Value->Shared->Prop}
theorem iJ.up(x:iJ H f q params body scope cl c' pm ctv)(g:∀b o u,H b=some (.hU o u)->H1 b=some (.hU o u)):iJ H1 f q params body scope cl c' pm ctv:=
 ⟨g _ _ _ x.fn,let ⟨c,oc,vs,t,e1,e2,e3⟩:=x.cd;⟨c,oc,vs,t,e1,g _ _ _ e2,e3⟩⟩
theorem iJ.get(x:iJ H f q params body scope cl c' pm ctv)(I:Inv X pins σ H s):
  s.heap.get? f=some (W.kla_obj "<lambda>" q params body scope cl pm c' ctv)/\s.heap.CodeRec (.ref c') q:=by
 obtain⟨c,oc,vs,t,e1,e2,e3,e4⟩:=x.cd;exact⟨(I.aI f _ x.fn).1,c,oc,vs,t,e1,(I.aI c _ e2).1,e3,e4⟩
theorem Inv.vN{o:Obj}{t':Nat}(I:Inv X pins σ H s)(k:∀b u,s.heap.get? b=some u->h'.get? b=some u)(hp:s.heap.objs.size<=f)(e:h'.get? f=some o):Inv X pins σ (upd H f (.hU o (.own f))) {s with heap:=h',toks:=t'}:=
 I.laid k hp ⟨e,o,e⟩
theorem we(I:Inv X pins σ H s){c P:Addr}(hx:x∈cZ)(ht:W.tabIn X.K x=some (c,P))(hcode:X.env.code=.ref c)(hq:X.env.qual=x++".<locals>."){pos:Pos}
  (hdef:defaultsOf params X.env=([],[])) (hcl:closureFor scope X.env=pure cl)
  (h:∀f c' pm ctv H1 s1,d3 H H1->Inv X pins σ H1 s1->iJ H1 f ((x++".<locals>.")++"<lambda>") params body scope cl c' pm ctv->Q (.ref f) s1) :
  wpAny (model X.prog X.w) X.A (eval (.Lambda params body scope pos) X.env) Q E s:=by
 have hm:(c,P,(x++".<locals>.")++"<lambda>")∈bH X.K:=Lm.mpr ⟨x,hx,by rw[ht];rfl⟩
 obtain⟨more,hP⟩:=(I.ok.tabs.un I.base) _ hm;have C:W.CodeHd s.heap c P:=(I.ok.mod.codes _ hm).keeps I.bk;obtain⟨qs,eP,tr,fa⟩:=I.aI P _ hP;have hns:=I.ok.mod.glob.keeps I.bk;have hgP:mainGlobals≠P:=λz=>by
  obtain⟨o,es,ep,e,_⟩:=I.ok.mod.glob;have:=(I.bs _ _ e).2;rw[z,hP] at this;cases this
 have hb:s.heap.BuiltinsAt X.mg P:=by
  obtain⟨bm,ob,b1,b2,b3,b4,b5⟩:=I.ok.mod.bm;refine⟨bm,ob,b1,b2,λz=>?_,λz=>?_,I.bk _ _ b3,b4,b5⟩
  ·obtain⟨o,es,ep,e,hd,_⟩:=I.ok.mod.glob;rw[z,e] at b3;cases b3;rw[hd] at b5;cases b5.2
  ·have:=(I.bs _ _ b3).2;rw[z,hP] at this;cases this
 refine W.kla_eval hdef ?_;rw[hq]
 cases ca:codeAmong pos qs.toList with
 |some cv =>
  have il:=fa pos cv ca;rw[qQ] at il;obtain⟨c',oc,vs,t,rfl,e2,e3⟩:=il;refine W.kla_makeFunctionHit hcl I.ok.glob hns hcode C eP tr ca hb λctv h' tk hk hsz=>?_;have n0:H h'.objs.size=none:=I.aI.fresh hsz;have J:=I.vN (f:=h'.objs.size) (t':=tk) (h':=h'.push {cls:=.type "function",data:=.func (W.kla_fn "<lambda>" ((x++".<locals>.")++"<lambda>") params body scope cl ((X.mg "__name__").getD .none) (.ref c') ctv)}) (λb u e=>HW _ (hk b u e)) hsz (Ip _ rfl);exact h _ c' _ ctv _ _ (.more .refl n0) J ⟨aa,c',oc,vs,t,rfl,by rw[ae (ao e2 n0)];exact e2,e3⟩
 |none =>
  refine W.kla_makeFunction hcl I.ok.glob hns hcode C eP tr ca hgP hb λc' ctv h' tk hx2 hge hlt hrec htb=>?_;obtain⟨c2,oc,vs,t,e2,hoc,hd,hv⟩:=hrec;cases e2;have nP:P≠c':=λz=>absurd (Io eP) (by rw[z];exact My.mpr hge)
  have n1:H c'=none:=I.aI.fresh hge;have keep:∀b u,b≠P->s.heap.get? b=some u->h'.get? b=some u:=λb u hb' e=>hx2 b u hb' e;have H1ne:∀b u,H b=some u->upd H c' (.hU oc (.own c')) b=some u:=λb u e=>by rw[ae (ao e n1)];exact e
  have hoP:∀y,H P≠some (.own y):=λy z=>by rw[hP] at z;cases z
  have J1:Inv X pins σ (upd H c' (.hU oc (.own c'))) {s with heap:=h',toks:=tk}:=by
   refine I.un ⟨λb o e n _ _=>keep b o (λz=>by rw[z,hP] at n;cases n) e,λb o e n _ _=>⟨o.slots,keep b o (λz=>by rw[z,hP] at n;cases n) e⟩,λb o e n _=>?_,λb o e _=>?_,λb xs e=>H1ne b _ e,λb o u e=>H1ne b _ e,λb ps e=>⟨#[],by rw[H1ne b _ e,Mb]⟩⟩ λb u e=>?_
   ·rw[ae (λz=>absurd (Io e) (by rw[z];exact My.mpr hge))];exact n
   ·by_cases z:b=P
    ·rw[z];exact⟨_,htb⟩
    ·exact⟨o,keep b o z e⟩
   ·by_cases z:b=c'
    ·subst z;rw[aa] at e;cases e;exact⟨hoc,oc,hoc⟩
    ·rw[ae z] at e;by_cases z2:b=P
     ·subst z2;rw[hP] at e;cases e;refine⟨_,htb,by rw[Ku];exact iF _ tr,λp cv hc=>?_⟩
      rw[Ku] at hc;rcases kT _ tr hc with q|q
      ·obtain⟨c2,oc2,vs2,t2,g1,g2,g3⟩:=fa p cv q;exact⟨c2,oc2,vs2,t2,g1,H1ne _ _ g2,g3⟩
      ·rw[qQ];exact⟨c',oc,vs,t,q,aa,hd,hv⟩
     ·refine (I.aI b u e).gP (λc v hc q=>keep c v ?_ q) (λc q=>H1ne c _ q) (λc xs q=>H1ne c _ q) λc _ _ q=>H1ne c _ q;rcases hc with rfl|hc
      ·exact z2
      ·exactλz3=>hoP b (by rw[<- z3];exact hc)
  have n2:upd H c' (.hU oc (.own c')) h'.objs.size=none:=J1.aI.fresh (Ib _);have J:=J1.vN (f:=h'.objs.size) (t':=tk) (h':=h'.push (W.kla_obj "<lambda>" ((x++".<locals>.")++"<lambda>") params body scope cl ((X.mg "__name__").getD .none) c' ctv)) (λb u e=>HW _ e) (Ib _) (Ip _ rfl);exact h _ c' _ ctv _ _ (.more (.more .refl n1) n2) J ⟨aa,c',oc,vs,t,rfl,by rw[ae (ao aa n2)];exact aa,hd,hv⟩
end
section
variable {α β:Type}
noncomputable def gH(p:Int×α):List (Int×α)->List (Int×α)
 |[]=>[p]
 |q::r=>if p.1<=q.1 then p::q::r else q::gH p r
noncomputable def d8:List (Int×α)->List (Int×α)
 |[]=>[]
 |p::r=>gH p (d8 r)
abbrev DK(l:List (Int×α)):Prop:=l.Pairwise λp q=>p.1<=q.1
noncomputable def atK(a:Int)(l:List (Int×α)):List (Int×α):=l.filter λp=>decide (p.1=a)
theorem fC(p:Int×α):∀l,(gH p l).Perm (p::l)
 |[]=>.refl _
 |q::r=>by
  unfold gH;split
  ·exact .refl _
  ·exact ((fC p r).cons q).trans (List.Perm.swap p q r)
theorem dk:∀l:List (Int×α),(d8 l).Perm l
 |[]=>.refl _
 |p::r=>(fC p _).trans ((dk r).cons p)
theorem rO{p:Int×α}:∀{l:List (Int×α)},DK l->DK (gH p l)
 |[],_=>MJ _ _
 |q::r,h=>by
  obtain⟨h1,h2⟩:=IS.mp h;unfold gH;split
  ·rename_i c;exact IS.mpr ⟨λz hz=>by
    rcases Ih.mp hz with rfl|hz
    ·exact c
    ·exact Int.le_trans c (h1 z hz),h⟩
  ·rename_i c;refine IS.mpr ⟨λz hz=>?_,rO h2⟩;rcases Ih.mp ((fC p r).mem_iff.mp hz) with rfl|hz
   ·lia
   ·exact h1 z hz
theorem nG:∀l:List (Int×α),DK (d8 l)
 |[]=>List.Pairwise.nil
 |_::r=>rO (nG r)
theorem a_(a:Int)(p:Int×α)(l:List (Int×α)):atK a (p::l)=if p.1=a then p::atK a l else atK a l:=by
 unfold atK;rw[List.filter_cons];by_cases z:p.1=a
 ·rw[Ig z,Ig (IM z)]
 ·rw[H_ z,H_ (by simp[z])]
theorem rH{a:Int}{p:Int×α}:∀{l:List (Int×α)},atK a (gH p l)=atK a (p::l)
 |[]=>rfl
 |q::r=>by
  unfold gH;split
  ·rfl
  ·rename_i c;rw[a_,rH,a_,a_,a_];by_cases z:p.1=a
   ·have z2:¬ q.1=a:=by lia
    simp only[z,z2,KG,Km]
   ·simp only[z,Km]
theorem oj{a:Int}:∀l:List (Int×α),atK a (d8 l)=atK a l
 |[]=>rfl
 |p::r=>by
  show atK a (gH p (d8 r))=_;rw[rH,a_,a_,oj r]
theorem jw{a:Int}:∀{l:List (Int×α)},(∀p∈l,a<p.1)->atK a l=[]
 |[],_=>rfl
 |p::r,h=>by
  have:=h p (Ij ..);rw[a_,H_ (by lia),jw λq hq=>h q (Ik _ hq)]
theorem kY:∀{l m:List (Int×α)},DK l->DK m->(∀a,atK a l=atK a m)->l=m
 |[],[],_,_,_=>rfl
 |[],q::m,_,_,h=>by
  have:=h q.1;rw[a_,Ig rfl] at this;cases this
 |p::l,[],_,_,h=>by
  have:=h p.1;rw[a_,Ig rfl] at this;cases this
 |p::l,q::m,hl,hm,h=>by
  obtain⟨l1,l2⟩:=IS.mp hl;obtain⟨m1,m2⟩:=IS.mp hm;have e:p.1=q.1:=by
   rcases Int.lt_trichotomy p.1 q.1 with z|z|z
   ·have q1:=h p.1;rw[a_,Ig rfl,a_,H_ (by lia),jw (l:=m) λr hr=>by have:=m1 r hr;lia] at q1
    cases q1
   ·exact z
   ·have q1:=h q.1;rw[a_,H_ (by lia),a_,Ig rfl,jw (l:=l) λr hr=>by have:=l1 r hr;lia] at q1
    cases q1
  have q1:=h p.1;rw[a_,Ig rfl,a_,Ig e.symm] at q1;obtain⟨q2,q3⟩:=List.cons.inj q1;subst q2;congr 1;refine kY l2 m2 λa=>?_;have q4:=h a;rw[a_,a_] at q4;by_cases z:p.1=a
  ·rw[Ig z,Ig z] at q4;exact (List.cons.inj q4).2
  ·rw[H_ z,H_ z] at q4;exact q4
theorem nY{l m:List (Int×α)}(hm:DK m)(h:∀a,atK a m=atK a l):m=d8 l:=kY hm (nG l) λa=>by rw[h a,oj]
abbrev DR(R:α->β->Prop):List (Int×α)->List (Int×β)->Prop:=Paired λp q=>p.1=q.1/\R p.2 q.2
theorem vK{R:α->β->Prop}{p:Int×α}{q:Int×β}(h:p.1=q.1/\R p.2 q.2){l:List (Int×α)}{m:List (Int×β)}(k:DR R l m):DR R (gH p l) (gH q m):=by
 induction k with
 |nil=>exact .cons h .nil
 |cons r t ih =>
  unfold gH;split
  ·rename_i z;rw[Ig (by rw[<- h.1,<- r.1];exact z)]
   exact .cons h (.cons r t)
  ·rename_i z;rw[H_ (by rw[<- h.1,<- r.1];exact z)]
   exact .cons r ih
theorem tu{R:α->β->Prop}{l:List (Int×α)}{m:List (Int×β)}(k:DR R l m):DR R (d8 l) (d8 m):=by
 induction k with
 |nil=>exact .nil
 |cons r t ih=>exact vK r ih
theorem vh{R:α->β->Prop}{ks:List Int}{l:List α}{m:List β}(k:Paired R l m):DR R (ks.zip l) (ks.zip m):=by
 induction k generalizing ks with
 |nil=>rw[List.zip_nil_right,List.zip_nil_right];exact .nil
 |cons r t ih =>
  cases ks with
  |nil=>exact .nil
  |cons k ks=>exact .cons ⟨rfl,r⟩ ih
theorem vi{R:α->β->Prop}{l:List (Int×α)}{m:List (Int×β)}(k:DR R l m):Paired R (l.map (·.2)) (m.map (·.2)):=by
 induction k with
 |nil=>exact .nil
 |cons r t ih=>exact .cons r.2 ih
noncomputable def iN(ks:List Int)(l:List α):List α:=(d8 (ks.zip l)).map (·.2)
theorem r8{R:α->β->Prop}{ks:List Int}{l:List α}{m:List β}(h:Paired R l m):Paired R (iN ks l) (iN ks m):=vi (tu (vh h))
theorem rf{ks:List Int}{l:List α}(h:ks.length=l.length):(iN ks l).length=l.length:=by
 unfold iN;rw[HY,(dk _).length_eq,MO,h,M8]
theorem jK{ks:List Int}{l:List α}(h:ks.length=l.length):(iN ks l).Perm l:=by
 have h2:((ks.zip l).map (·.2))=l:=M9 (by lia)
 have h3:=(dk (ks.zip l)).map (·.2);rw[h2] at h3;exact h3
end
theorem iB:∀{xs:List V} {us:List Value},Vals xs us->Paired RelV xs us
 |_,_,.nil=>.nil
 |_,_,.cons r t=>.cons r (iB t)
theorem iC:∀{xs:List V} {us:List Value},Paired RelV xs us->Vals xs us
 |_,_,.nil=>.nil
 |_,_,.cons r t=>.cons r (iC t)
theorem qZ:∀{us:List Value} {ns:List Int},IntsAre us ns->∀{i:Nat},i<ns.length->∃t,us.getD i Value.none=.int (ns.getD i 0) t
 |_,_,.cons n t h,0,_=>⟨t,rfl⟩
 |_,_,.cons n t h,i+1,hi=>qZ h (i:=i) (by simpa using hi)
theorem wZ{p:List Nat}(hl:kz.length=us.length)(hp:p.Perm (List.range us.length))(hr:p.Pairwise (SP.R λi=>kz.getD i 0)):p.map (λi=>us.getD i Value.none)=iN kz us:=by
 have ez:(List.range us.length).map (λi=>(kz.getD i 0,us.getD i Value.none))=kz.zip us:=by
  apply Kp
  ·rw[HY,IP,MO,hl,M8]
  ·intro i h1 h2;rw[HY,IP] at h1;rw[MB,Mf,List.getElem_zip];simp[h1,hl]
 have e1:p.map (λi=>(kz.getD i 0,us.getD i Value.none))=d8 (kz.zip us):=by
  refine nY ?_ λa=>?_
  ·exact JZ.mpr (hr.imp λh=>h.le)
  ·have fl:∀l:List Nat,atK a (l.map λi=>(kz.getD i 0,us.getD i Value.none))=(l.filter λi=>decide (kz.getD i 0=a)).map λi=>(kz.getD i 0,us.getD i Value.none):=λl=>by
    unfold atK;rw[List.filter_map];rfl
   rw[<- ez,fl,fl];congr 1;refine MC (le:=(· < ·)) (λa b _ _ h g=>absurd h (Nat.lt_asymm g)) ?_ (L7.filter _) (hp.filter _);rw[List.pairwise_filter];refine hr.imp λ{i j} h hi hj=>?_;have hi:=Jh hi;have hj:=Jh hj;rcases h with h|h
   ·exfalso;have h':kz.getD i 0<kz.getD j 0:=h;lia
   ·exact h.2
 unfold iN;rw[<- e1,MD];rfl
section
variable {X:Cx} {pins:List (Addr×Obj)} {σ:St} {H:Hp} {s:Shared} {E:Value->Shared->Prop}
theorem Inv.take{D:Addr}{ob:Obj}{o:HO}{t':Nat}(I:Inv X ((D,ob)::pins) σ H s)(hs0:X.s₀.heap.objs.size<=D)(hnp:∀p∈X.pn++pins,p.1≠D)(k:∀b u,b≠D->s.heap.get? b=some u->h'.get? b=some u)(new:aM X.prog X.w (upd H D o) h' D o):
  Inv X pins σ (upd H D o) {s with heap:=h',toks:=t'}:=by
 obtain⟨g1,g2,g3,g4,g5⟩:=I.pin (D,ob) (Iy _ (Ij ..));have I0:Inv X pins σ H s:=⟨I.ok,I.os,I.bare,I.base,I.loc,I.cell,I.free,I.bW,λp hp=>I.pin p ((Jk.mp hp).elim (λz=>Jv _ z) λz=>Iy _ (Ik _ z)),I.aI,I.len⟩;have ne:∀b u,H b=some u->b≠D:=λb u e=>ao e g2;refine I0.step (g':=s.gens) (d':=s.drawn) (ch:=[D]) (λb hb=>?_) (λb o' _ _ hc e _=>k b o' (λz=>hc (by rw[z];exact Ir.mpr rfl)) e) (λb o' _ _ hc e _=>⟨o'.slots,k b o' (λz=>hc (by rw[z];exact Ir.mpr rfl)) e⟩) (λb o' hc e n=>by rw[ae (λz=>hc (by rw[z];exact Ir.mpr rfl))];exact n)
  (λb o' hc e=>⟨o',k b o' (λz=>hc (by rw[z];exact Ir.mpr rfl)) e⟩) (λb xs e=>by rw[ae (ne b _ e)];exact e) (λb o' u e=>by rw[ae (ne b _ e)];exact e) (λb ps e=>⟨#[],by rw[ae (ne b _ e),e,Mb]⟩) (λm hm=>?_) (λb u e=>?_) I.bare
 ·rw[Ir.mp hb];refine⟨.inr hs0,g3,λx c e z=>?_,hnp⟩;obtain⟨v,o',ho',hd⟩:=I.cell x c e;rw[z,g1] at ho';cases ho';exact g5 v hd
 ·obtain⟨o',es,ep,ho',r⟩:=hm;exact⟨o',es,ep,k _ _ (I_ g3) ho',r⟩
 ·by_cases z:b=D
  ·subst z;rw[aa] at e;cases e;exact new
  ·rw[ae z] at e;refine (I.aI b u e).gP (λc v hc q=>k c v ?_ q) (λc q=>by rw[ae (ne c _ q)];exact q) (λc xs q=>by rw[ae (ne c _ q)];exact q) λc _ _ q=>by rw[ae (ne c _ q)];exact q
   rcases hc with rfl|hc
   ·exact z
   ·exact ne c _ hc
theorem rn{A:Around}{D:Nat}{st:SortSt}
  (I:Inv X ((D,seqObj "list" #[] e1)::pins) σ (upd H kS (.lst (kz.map V.int))) s) (hkS:H kS=none) (hD:H D=none) (hkD:kS≠D) (hs0:X.s₀.heap.objs.size<=D) (hnp:∀p∈X.pn++pins,p.1≠D)
  (hv:Vals xs us) (hlen:kz.length=us.length) (h64:us.length<64) (ho:((arrOf st).map (·.2)).toList=iN kz us) (hfl:failedOf st=none)
  (h:∀s',Inv X pins σ (upd (upd H kS (.lst [])) D (.lst (iN kz xs))) s'->P (.done (.ret .none)) s') :
  wpAny (model X.prog X.w) A (ksk_tail D false e1 (.ref kS) st) P E s:=by
 obtain⟨_,its,n,vr,ek⟩:=I.aI kS _ aa;have hz:its.toArray.size<=sizeLine:=by
  rw[Im,<- vr.length,HY,hlen,Js];lia
 have pD:=I.pin _ (Iy _ (Ij ..));have hout:((arrOf st).map (·.2)).size=us.length:=by
  rw[<- IU,ho,rf hlen]
 have s1:=J7 s.heap kS (Obj.mapSeq λ_=>(#[]:Array Value));obtain⟨c1,hc1⟩:∃c,(s.heap.update kS (Obj.mapSeq λ_=>(#[]:Array Value))).get? kS=some (seqObj "list" #[] c):=⟨_,Lj ek λ_=>#[]⟩;have J1:Inv X ((D,seqObj "list" #[] e1)::pins) σ (upd H kS (.lst [])) {s with heap:=s.heap.update kS (Obj.mapSeq λ_=>(#[]:Array Value))}:=by
  have J:=I.write (x:=kS) (e:=kS) (o:=.lst []) (t':=s.toks) (h':=s.heap.update kS (Obj.mapSeq λ_=>(#[]:Array Value))) (by rw[aa];trivial) (.inl rfl) (λb u hb q=>(s1.2 b hb).trans q) ⟨_,hc1⟩ ⟨Iv _,[],c1,.nil,hc1⟩
  rw[rL] at J;exact J
 have pD1:=J1.pin _ (List.mem_append_right _ (List.mem_cons_self ..));have s2:=Heap.SameBut.update (s.heap.update kS (Obj.mapSeq λ_=>(#[]:Array Value))) D (Obj.mapSeq λ_=>(arrOf st).map (·.2));obtain⟨c2,hc2⟩:∃c,((s.heap.update kS (Obj.mapSeq λ_=>(#[]:Array Value))).update D (Obj.mapSeq λ_=>(arrOf st).map (·.2))).get? D=some (seqObj "list" ((arrOf st).map (·.2)) c):=⟨_,get?_update_seq pD1.1 λ_=>(arrOf st).map (·.2)⟩;have vB:Vals (iN kz xs) (iN kz us):=iC (r8 (iB hv));unfold ksk_tail;dsimp only;refine wpAny_bind (listUpdate_at ek rfl ?_ hz (Nat.zero_le _));refine wpAny_bind (wpAny_letGo ?_);refine wpAny_bind (seqEpoch_at pD1.1 rfl ?_);refine wpAny_bind (listUpdate_at pD1.1 rfl ?_ (Nat.zero_le _) (by show ((arrOf st).map (·.2)).size<=_;rw[hout,sizeLine_eq];lia))
 rw[hfl];simp only[Mp,Kg,Km];refine Ii (h _ (J1.take hs0 hnp (λb u hb q=>(s2.2 b hb).trans q) ⟨?_,iN kz us,c2,vB,?_⟩))
 ·rw[vB.length,rf hlen,Js];lia
 ·rw[<- ho,KZ];exact hc2
theorem C8{A:Around}{D:Nat}{us:List Value}{kz:List Int}{keys:Array Value}
  (I:Inv X ((D,seqObj "list" #[] e1)::pins) σ (upd H kS (.lst (kz.map V.int))) s) (hkS:H kS=none) (hD:H D=none) (hkD:kS≠D) (hs0:X.s₀.heap.objs.size<=D) (hnp:∀p∈X.pn++pins,p.1≠D)
  (hv:Vals xs us) (hlen:kz.length=us.length) (h64:us.length<64) (hk:IntsAre keys.toList kz)
  (h:∀s',Inv X pins σ (upd (upd H kS (.lst [])) D (.lst (iN kz xs))) s'->P (.done (.ret .none)) s') :
  wpAny (model X.prog X.w) A (ksk_end D false us.toArray e1 (.ref kS) keys) P E s:=by
 have hsz:keys.size=us.length:=by
  have z:=hk.length;rw[IU] at z;exact z.trans hlen
 have hzs:(keys.zip us.toArray).size=us.length:=by
  rw[Array.size_zip,hsz,Im,M8]
 unfold ksk_end;dsimp only;rw[if_neg Bool.false_ne_true,if_neg Bool.false_ne_true];by_cases h2:us.toArray.size<2
 ·rw[if_pos h2,if_pos h2];refine wpAny_bind (wpAny_pure ?_);rw[StateT.run_pure];refine wpAny_bind (wpAny_pure ?_);dsimp only;refine rn I hkS hD hkD hs0 hnp hv hlen h64 ?_ rfl h;rw[List.size_toArray] at h2;have:=wZ (us:=us) (kz:=kz) (p:=List.range us.length) hlen (List.Perm.refl _) (by
   rcases us with _|⟨x,_|⟨y,r⟩⟩
   ·exact .nil
   ·simp
   ·exfalso;simp only[Iq] at h2;lia)
  rw[<- this];show ((keys.zip us.toArray).map (·.2)).toList=_;rw[Array.toList_map,Array.toList_zip,M9 (by simp only[IU,Im];lia)]
  apply Kp
  ·simp
  ·intro i h1 h2;have h1':i<us.length:=h1;simp[h1']
 ·rw[H_ h2,H_ h2];rw[Im] at h2;rw[ksk_kind hk (by lia)]
  refine HU (Ii ?_);have ek:keys=keys.toList.toArray:=(KZ).symm;have hkl:keys.toList.length=us.length:=by rw[IU,hsz]
  have hat:∀i,i<us.length->∃t,keys.toList.getD i Value.none=.int (kz.getD i 0) t:=λi hi=>qZ hk (by rw[hlen];exact hi)
  generalize keys.toList=ks at *;subst ek;refine HU (IZ (W.kat_run (ks:=ks) (vs:=us) (κ:=oneType') (Q:=λst' s'=>s'=s/\failedOf st'=none/\((arrOf st').map (·.2)).toList=iN kz us)
   (G:=λp s'=>s'=s/\p.toList.Perm (List.range us.length)/\p.toList.Pairwise (SP.R λi=>kz.getD i 0)) hkl (by lia) h64 (λp st' s' a1 a2 a3 a4=>⟨a4.1,a3,by rw[W.kat_snds hkl a2];exact wZ hlen a4.2.1 a4.2.2⟩) ?_) ?_ λ_ _ e=>e)
  ·refine SP.sj (k:=λi=>kz.getD i 0) (I:=λs'=>s'=s) (λi j C s' hi hj hI hC=>?_) (by lia) rfl λp s' hp hr hI=>⟨hI,hp,hr⟩
   subst hI;obtain⟨t1,e1⟩:=hat i hi;obtain⟨t2,e2⟩:=hat j hj;unfold W.kas_ask;rw[e1,e2];exact W.kat_lt_int (hC _ rfl)
  rintro⟨⟨⟩,st'⟩ s' ⟨rfl,hf,ho⟩;dsimp only;exact rn I hkS hD hkD hs0 hnp hv hlen h64 ho hf h
theorem ju:∀{us:List Value} {ns:List Int},Vals (ns.map V.int) us->IntsAre us ns
 |_,[],.nil=>.nil
 |_,n::ns,.cons ⟨t,e⟩ r=>by subst e;exact .cons n t (ju r)
theorem yB{A:Around}{D:Nat}{f:Value}
  (I:Inv X ((D,seqObj "list" #[] e1)::pins) σ (upd H kS (.lst [])) s) (hkS:H kS=none) (hD:H D=none) (hkD:kS≠D) (hs0:X.s₀.heap.objs.size<=D) (hnp:∀p∈X.pn++pins,p.1≠D)
  (hv:Vals xs us) (hlen:kz.length=us.length) (h64:us.length<64)
  (turn:∀(i:Nat) (u:Value) (k:Int),us[i]?=some u->kz[i]?=some k->∀pins' H' s',d3 H H'->Inv X pins' σ H' s'->wpAny (model X.prog X.w) A (call f [u]) (λr s2=>(∃t,r=.int k t)/\Inv X pins' σ H' s2) (λ_ _=>False) s')
  (h:∀s',Inv X pins σ (upd (upd H kS (.lst [])) D (.lst (iN kz xs))) s'->P (.done (.ret .none)) s') :
  wpAny (model X.prog X.w) A (ksk_rest D f false us.toArray e1 (.ref kS)) P E s:=by
 unfold ksk_rest;refine HU (Np ?_)
 first
  |rw[List.forIn_toArray]
  | (rw[<- Array.forIn_toList];simp only[LX])
 refine HU (ksk_fold (λi s'=>Inv X ((D,seqObj "list" #[] e1)::pins) σ (upd H kS (.lst ((kz.take i).map V.int))) s') us 0 s I ?one ?all)
 case one =>
  intro j u s' hu J;rw[Ls] at J ⊢;have hj:j<us.length:=(HZ.mp hu).1;obtain⟨k,hkj⟩:∃k,kz[j]?=some k:=⟨_,HV (by lia)⟩
  refine wpAny_bind (wpAny_attempt (wpAny_mono (turn j u k hu hkj _ _ s' (.more .refl hkS) J) (λr s2 hr=>?_) λ_ _ z=>z.elim));obtain⟨⟨t,rfl⟩,J2⟩:=hr;dsimp only;obtain⟨_,its,n,vr,ek⟩:=J2.aI kS _ aa;have lenI:its.length<=us.length:=by
   rw[<- vr.length,HY,IF];lia
  have s1:=J7 s2.heap kS (Obj.mapSeq (·.push (.int k t)));obtain⟨c1,hc1⟩:∃c,(s2.heap.update kS (Obj.mapSeq (·.push (.int k t)))).get? kS=some (seqObj "list" (its.toArray.push (.int k t)) c):=⟨_,Lj ek (·.push (.int k t))⟩;have et:kz.take (j+1)=kz.take j++[k]:=by
   rw[List.take_add_one,hkj];rfl
  have vr2:Vals ((kz.take (j+1)).map V.int) (its++[.int k t]):=by
   rw[et,IB];exact vr.append (.cons ⟨t,rfl⟩ .nil)
  refine HU (L9 ek rfl ?_ (by rw[Im,Js];lia) (by show (its.toArray.push (.int k t)).size<=_;rw[Array.size_push,Im,Js];lia))
  refine Ii ⟨rfl,?_⟩;have J3:=J2.write (x:=kS) (e:=kS) (o:=.lst ((kz.take (j+1)).map V.int)) (t':=s2.toks) (h':=s2.heap.update kS (Obj.mapSeq (·.push (.int k t)))) (by rw[aa];trivial) (.inl rfl) (λb u hb q=>(s1.2 b hb).trans q) ⟨_,hc1⟩
   ⟨by rw[HY,IF,Js];lia,its++[.int k t],c1,vr2,by rw[hc1,List.push_toArray]⟩
  rw[rL] at J3;exact J3
 case all =>
  intro s' J;have ez:kz.take (0+us.length)=kz:=Ji (by lia)
  have J':Inv X ((D,seqObj "list" #[] e1)::pins) σ (upd H kS (.lst (kz.map V.int))) s':=by
   rw[<- ez];rw[ez];simpa only[ez] using J
  obtain⟨_,its,n,vr,ek⟩:=J'.aI kS _ aa;refine HU (LM ek rfl ?_);exact C8 J' hkS hD hkD hs0 hnp hv hlen h64 (by rw[LX];exact ju vr) h
theorem y0{A:Around}{D:Addr}{n0:Nat}{h0:Heap}{f:Value}
  (I:Inv X pins σ H s) (k0:∀b o,s.heap.get? b=some o->h0.get? b=some o) (hDs:s.heap.objs.size<=D) (ho:h0.get? D=some (seqObj "list" us.toArray n0)) (hv:Vals xs us) (hlen:kz.length=us.length) (h64:us.length<64)
  (turn:∀(i:Nat) (u:Value) (k:Int),us[i]?=some u->kz[i]?=some k->∀pins' H' s',d3 H H'->Inv X pins' σ H' s'->wpAny (model X.prog X.w) A (call f [u]) (λr s2=>(∃t,r=.int k t)/\Inv X pins' σ H' s2) (λ_ _=>False) s')
  (h:∀H' s',d3 H H'->H' D=none->Inv X pins σ (upd H' D (.lst (iN kz xs))) s'->P (.done (.ret .none)) s') :
  wpAny (model X.prog X.w) A (ksk_tree D f false) P E {s with heap:=h0}:=by
 have hsz0:D<h0.objs.size:=Io ho;have s1:=J7 h0 D (Obj.mapSeq λ_=>(#[]:Array Value));obtain⟨e1,ho1⟩:∃e,(h0.update D (Obj.mapSeq λ_=>(#[]:Array Value))).get? D=some (seqObj "list" #[] e):=⟨_,Lj ho λ_=>#[]⟩;have hkz:((h0.update D (Obj.mapSeq λ_=>(#[]:Array Value))).push (seqObj "tuple" us.toArray 0)).objs.size=h0.objs.size+1:=by
  rw[size_push',M4]
 have nD:∀b o,s.heap.get? b=some o->b≠D:=λb o e=>Iz (ID (Io e) hDs);have keep:∀b o,s.heap.get? b=some o->(((h0.update D (Obj.mapSeq λ_=>(#[]:Array Value))).push (seqObj "tuple" us.toArray 0)).push (seqObj "list" #[] 0)).get? b=some o:=λb o e =>
  HW _ (HW _ ((s1.2 b (nD b o e)).trans (k0 b o e)))
 have hle:s.heap.objs.size<=h0.objs.size+1:=Ia hDs (Nat.le_succ_of_le (JU hsz0));have hkD:h0.objs.size+1≠D:=JM (K9 hsz0);have hkS:H (h0.objs.size+1)=none:=I.aI.fresh hle;have hD:H D=none:=I.aI.fresh hDs;have hnp:∀p∈X.pn++pins,p.1≠D:=λp hp=>nD _ _ (I.pin p hp).1;have J0:Inv X pins σ (upd H (h0.objs.size+1) (.lst [])) {s with heap:=((h0.update D (Obj.mapSeq λ_=>(#[]:Array Value))).push (seqObj "tuple" us.toArray 0)).push (seqObj "list" #[] 0)}:=
  I.laid (t':=s.toks) keep hle ⟨Iv _,[],0,.nil,by rw[<- hkz];exact Ip _ rfl⟩
 have J:Inv X ((D,seqObj "list" #[] e1)::pins) σ (upd H (h0.objs.size+1) (.lst [])) {s with heap:=((h0.update D (Obj.mapSeq λ_=>(#[]:Array Value))).push (seqObj "tuple" us.toArray 0)).push (seqObj "list" #[] 0)}:=by
  refine J0.mD λp hp=>?_;rcases Ih.mp hp with rfl|hp
  ·exact⟨HW _ (HW _ ho1),by rw[ae (I_ hkD)];exact hD,λz=>absurd I.lt (by rw[<- z];exact My.mpr hDs),I.Ek hDs,λv z=>by cases z⟩
  ·exact J0.pin p (Iy _ hp)
 unfold ksk_tree;refine HU (LM ho rfl ?_);refine HU (L9 ho rfl ?_ (by rw[Im,Js];lia) (Iv _))
 refine HU (seqEpoch_at ho1 rfl ?_);refine HU (Nj ?_ (by show us.length<=_;rw[Js];lia))
 refine HU (Lc ?_ (Iv _));refine Jl ?_;show wpAny _ _ (ksk_rest D f false us.toArray e1 (.ref ((h0.update D (Obj.mapSeq λ_=>(#[]:Array Value))).push (seqObj "tuple" us.toArray 0)).objs.size)) _ _ _;rw[hkz];exact yB J hkS hD hkD (Ia I.sz hDs) hnp hv hlen h64 turn λs' K=>h _ s' (.more .refl hkS) (by rw[ae (I_ hkD)];exact hD) K
end
noncomputable def yY(q:Str)(params:Arguments)(body:Expr)(scope:Scope)(cl:List (Str×Addr)):TE:=λ_ H Q=>∀f c' pm ctv H1,d3 H H1->iJ H1 f q params body scope cl c' pm ctv->Q (.ref f) H1
theorem B1{c P:Addr}(hx:x∈cZ)(ht:W.tabIn X.K x=some (c,P))(hcode:X.env.code=.ref c)(hq:X.env.qual=x++".<locals>."){pos:Pos}
  (hdef:defaultsOf params X.env=([],[])) (hcl:closureFor scope X.env=pure cl):PE X (.Lambda params body scope pos) (yY ((x++".<locals>.")++"<lambda>") params body scope cl):=λpins s σ H Q I h =>
 we I hx ht hcode hq hdef hcl λf c' pm ctv H1 s1 g J l=>⟨.ref f,H1,J,rfl,h f c' pm ctv H1 g l⟩
section
variable {X:Cx} {pins:List (Addr×Obj)} {σ:St} {H:Hp} {s:Shared} {E:Value->Shared->Prop}
noncomputable def uY(X:Cx)(A:Around)(s:Shared)(l:Addr)(xs:List V):Prop:=∀(Q:List Value->Shared->Prop) (E:Value->Shared->Prop),(∀h0 tk us,(∀b o,s.heap.get? b=some o->h0.get? b=some o)->s.heap.objs.size<=h0.objs.size->Vals xs us->Q us {s with heap:=h0,toks:=tk})->wpAny (model X.prog X.w) A (collect (.ref l)) Q E s
theorem tS{A:Around}{l:Addr}{Q:VK}(I:Inv X pins σ H s)(hcol:uY X A.in1 s l xs)(hlen:kz.length=xs.length)(h64:xs.length<64)
  (turn:∀(i:Nat) (v:V) (u:Value) (k:Int),xs[i]?=some v->RelV v u->kz[i]?=some k->∀pins' H' s',d3 H H'->Inv X pins' σ H' s'->wpAny (model X.prog X.w) A.in1.in1 (call (.ref f) [u]) (λr s2=>(∃t,r=.int k t)/\Inv X pins' σ H' s2) (λ_ _=>False) s')
  (h:∀H' D,d3 H H'->H' D=none->Q (.ref D) (upd H' D (.lst (iN kz xs)))) :
  wpAny (model X.prog X.w) A (call (.builtin "sorted") [.ref l] [(Str.ofString "key",.ref f)]) (EP X pins σ Q) E s:=by
 refine call_function_entry_kw kind_sorted plain_sorted entry_sorted (ksk_s1 _ _) ?_;unfold Builtin.«sorted»;refine HU (m:=checkCount "sorted" 1 1 _) (Ii (HU (hcol _ _ λh0 tk us k0 hz hv=>?_)));have ul:us.length=xs.length:=hv.length.symm;refine HU (Lc ?_ (by rw[ul,Js];lia))
 have hoL:(h0.push (seqObj "list" us.toArray 0)).get? h0.objs.size=some (seqObj "list" us.toArray 0):=Ip _ rfl;refine HU (Jl (wpAny_call_entry_kw slot_list_sort ⟨_,hoL,rfl⟩ entry_list_sort ?srt (ksk_l1 _ _)))
 case srt =>
  show wpAny _ A.in1.in1 (Builtin.«list.sort» ⟨[.ref h0.objs.size],[(Str.ofString "key",.ref f)]⟩) _ _ _;rw[ksk_t1];refine y0 (s:={s with toks:=tk}) (h0:=h0.push (seqObj "list" us.toArray 0)) (I.tok tk) (λb o e=>HW _ (k0 b o e)) hz hoL hv (by rw[ul];exact hlen) (by rw[ul];exact h64)
   (λi u k hu hk pins' H' s' g J=>?_) λH' s' g n J=>⟨_,rfl,?_⟩
  ·have hi:i<xs.length:=by rw[<- ul];exact (HZ.mp hu).1
   obtain⟨u',hu',rv⟩:=hv.get (HV hi);rw[hu] at hu';cases hu';exact turn i _ u k (HV hi) rv hk pins' H' s' g J
  ·exact Ii ⟨_,rfl,.ref h0.objs.size,_,J,rfl,h H' _ g n⟩
noncomputable def xB(src:Hp->Addr->List V->Prop)(pre:V->Int->Hp->St->Prop)(fr:St->St)(t:TA):TE:=λσ H Q=>t σ H λvs H1=>∃l xs kz,vs=[.ref l]/\src H1 l xs/\kz.length=xs.length/\xs.length<64 /\
 (∀(i:Nat) (v:V) (k:Int),xs[i]?=some v->kz[i]?=some k->∀H',d3 H1 H'->pre v k H' (fr σ))/\∀H2 D,d3 H1 H2->H2 D=none->Q (.ref D) (upd H2 D (.lst (iN kz xs)))
theorem vX{t:TA}{p pos kpos lpos:Pos}{k:Nat}{src:Hp->Addr->List V->Prop}{pre:V->Int->Hp->St->Prop}{fr:St->St}
  (hg:Gl X "sorted") (hm:X.mg "sorted"=none) (ha:PA X [e] t) (h1:cG e=true) (hr:bj (k+3) X.A) (hL:PE X (.Lambda params body scope lpos) (yY q params body scope cl))
  (hsrc:∀pins σ H s H1 l xs A,Inv X pins σ H s->src H1 l xs->d3 H1 H->A.handled=none->xs.length<64->uY X A s l xs)
  (hk:scope.kind=.function) (hco:scope.isCoroutine=false) (hgen:scope.isGenerator=false) (hcell:∀y∈scope.names,y.2≠.cell) (hloc:scope.names.lookup x=some .local)
  (hbind:∀c' pm ctv u,bindArgs (W.kla_fn "<lambda>" q params body scope cl pm (.ref c') ctv) ⟨[u],[]⟩=pure [(x,u)])
  (hlen:∀σ:St,(fr σ).length=N.length) (hcl:∀y c,cl.lookup y=some c->X.env.cells.lookup y=some c) (hhas:∀y,(scope.names.lookup y=some .cell\/scope.names.lookup y=some .free)->∃c,cl.lookup y=some c)
  (hf:∀pins σ H s,Inv X pins σ H s->∀(i:Nat) (y:Str) (v:V),N[i]?=some y->(fr σ)[i]?=some (some v)->scope.names.lookup y=some .free/\∃c u,cl.lookup y=some c/\s.heap.IsCell c (some u)/\RelV v u)
  (hbody:∀A f c' s' H' σf v i,pre v i H' σf->∃t,PE (rg X A (x::N) q scope f (.ref c') cl s' H') body t/\t (some v::σf) H' (λw H2=>w=.int i/\H2=H')) :
  PE X (.Call (.Name "sorted" p) [e] [⟨some "key",.Lambda params body scope lpos,kpos⟩] pos) (xB src pre fr t):=by
 intro pins s σ H Q I h;refine JC (dO I hg hm (u:=.builtin "sorted") (by decide +kernel) ?_ (by decide) (by decide))
 have hkw:PK X [⟨some "key",.Lambda params body scope lpos,kpos⟩] (gS (yY q params body scope cl) jj):=AA hL Cp;refine callWith_kw ?_ (by rw[bF h1];rfl) (by rw[bF h1];rfl) rfl rfl
 refine bD (ha pos pins s σ H _ I h) λus s1 hq1=>?_;obtain⟨vs,H1,I1,r1,q1⟩:=hq1;obtain⟨l,xs,kz,rfl,hs,hle,h64,hpre,qq⟩:=q1;obtain⟨u,rfl,ru⟩:=vals1 r1;cases ru;refine bD (hkw pos pins s1 σ H1 (λzs H2=>∃f c' pm ctv,zs=[.ref f]/\d3 H1 H2/\iJ H2 f ((q)) params body scope cl c' pm ctv) I1 λf c' pm ctv H2 g lm=>⟨f,c',pm,ctv,rfl,g,lm⟩) λws s2 hq2=>?_;obtain⟨zs,H2,I2,rz,f,c',pm,ctv,e1,g,lm⟩:=hq2;subst e1;obtain⟨wv,rfl,rw1⟩:=vals1 rz;cases rw1;have hr1:bj (k+2) X.A.in1:=hr.in1;refine tS I2 (hsrc _ _ _ _ _ _ _ _ I2 hs g hr1.hd h64) hle h64 (λi v u j hv rv hj pins' H' s' g' J=>?_) λH' D g' n=>qq H' D (g.trans g') n;obtain⟨ho,fM⟩:=(lm.up λb o u e=>g'.same b _ e).get J;obtain⟨tb,hb,hq⟩:=hbody X.A.in1.in1 f c' s' H' (fr σ) v j (hpre i v j hv hj H' (g.trans g'));refine IZ (vE J hr1.in1 J.ok.frames hk hco hgen hcell rv hloc ho fM (hbind c' pm ctv) (hlen σ) hcl hhas (hf _ _ _ _ J) hb hq) (λr s4 hr4=>?_) λ_ _ z=>z;obtain⟨w,H4,J4,rw4,e4,e5⟩:=hr4;subst e4 e5;exact⟨rw4,J4⟩
end
theorem lO{a:α}{l:List (Str×α)}:List.lookup x ((x,a)::l)=some a:=by rw[JE,Ka]
theorem iT{y:Str}{a:α}{l:List (Str×α)}(h:y≠x):List.lookup y ((x,a)::l)=List.lookup y l:=by rw[JE,Jn.mpr h]
abbrev jt(n:Nat):List V:=(List.range n).map λk=>V.int ((k:Nat):Int)
section
variable {X:Cx} {pins:List (Addr×Obj)} {σ:St} {H:Hp} {s:Shared}
theorem nu{A:Around}{r:Addr}{n:Nat}(hh:A.handled=none)(I:Inv X pins σ H s)(hr:H r=some (.mO 0 n))(h64:n<64):uY X A s r (jt n):=λQ E h=>by
 obtain⟨t,u,v,e⟩:=I.aI r _ hr;have hn2:Builtin.Range.rangeSize 0 (n:Int) 1=n:=by rw[rangeSize_one];split<;>lia
 have hsm:Builtin.Range.small 0 (n:Int) 1=true:=small_one (by lia) (by lia) (by lia) (by lia)
 have oS:(s.heap.push {cls:=.type "list",data:=.seq ([]:List Value).toArray}).get? s.heap.objs.size=some {cls:=.type "list",data:=.seq #[] 0}:=Ip _ rfl;unfold collect;refine HU (wpAny_runValue (K6 PySem.F.entry_proto_collect ?_));rw[KR PySem.F.plain_proto_collect _];refine HU (m:=newList []) (J6 (Ii ⟨Nr PySem.F.plain_list_iadd _,K6 PySem.F.entry_list_iadd ?_⟩));rw[KR PySem.F.plain_list_iadd _];show wpAny _ A.in1 (Builtin.List.listExtendWith _ _ _) _ _ _;refine wpAny_extend_range (R:=λr s'=>match r with|.ok (.ret v)=>wpAny (model X.prog X.w) A (match v with|.ref a=>do (match (<- load a).data with|.seq xs _=>pure xs.toList|_=>unsupported "internal:collect")|_=>unsupported "internal:collect") Q E s'|.ok _=>_|.error e=>E e s') (s:={s with heap:=s.heap.push {cls:=.type "list",data:=.seq ([]:List Value).toArray}}) hh (HW _ e) hsm hn2 (by lia) s.heap.objs.size (.ref s.heap.objs.size) 0 oS λh' tk acc c' hk hS hI=>?_
 refine HU (m:=load s.heap.objs.size) (wpAny_load hS (Ii (h h' tk acc.toList (λb o e=>hk b o (Iz (Io e)) (HW _ e)) (JU (Io hS)) ?_)));have hv:=Y.fR (lo:=0) n acc.toList 0 (by simpa using hI.1) λj v e=>by
  obtain⟨t,e2⟩:=hI.2 j v (by simpa using e)
  exact⟨t,by rw[e2];simp⟩
 show Vals ((List.range n).map λk=>V.int ((k:Nat):Int)) acc.toList;rw[KY]
 simpa using hv
end
theorem bq.same{H':Hp}{a:Addr}(g:jr H H')(h:bq K H a xs):bq K H' a xs:=by
 rcases h with (h|⟨o,h⟩)|h
 ·exact .inl (.inl (g _ _ h))
 ·exact .inl (.inr ⟨o,g _ _ h⟩)
 ·exact .inr h
noncomputable def Hw(j:Nat)(σ:St):St:=[(σ[j]?).getD none]
noncomputable def j6(K:W.Frag)(j:Nat)(t:TA):TE:=xB (λH l xs=>∃n:Nat,H l=some (.mO 0 n)/\xs=jt n) (λv k H' σf=>∃i q ls,v=.int i/\σf=[some (.ref q)]/\bq K H' q ls/\cq ls i=some (.int k)) (Hw j) t
theorem wM{t:TA}{p pos kpos lpos p1 p2 p3:Pos}{y:Str}{c:Addr}{j:Nat}{k:Nat}(hg:Gl X "sorted")(hm:X.mg "sorted"=none)(ha:PA X [e] t)(h1:cG e=true)(hr:bj (k+3) X.A)
  (hL:PE X (.Lambda params (.Subscript (.Name y p1) (.Name x p2) p3) scope lpos) (yY q params (.Subscript (.Name y p1) (.Name x p2) p3) scope [(y,c)]))
  (hsc:scope={kind:=.function,names:=[(x,.local),(y,.free)],isGenerator:=false,isCoroutine:=false,more:=[]}) (hxy:y≠x) (hx1:(x ==("__debug__":Str))=false) (hx2:(x ==("__classdict__":Str))=false) (hy1:(y ==("__debug__":Str))=false) (hy2:(y ==("__classdict__":Str))=false)
  (hj:X.N[j]?=some y) (hyc:X.env.scope.names.lookup y=some .cell) (hyl:X.env.cells.lookup y=some c)
  (hbind:∀c' pm ctv u,bindArgs (W.kla_fn "<lambda>" q params (.Subscript (.Name y p1) (.Name x p2) p3) scope [(y,c)] pm (.ref c') ctv) ⟨[u],[]⟩=pure [(x,u)]) :
  PE X (.Call (.Name "sorted" p) [e] [⟨some "key",.Lambda params (.Subscript (.Name y p1) (.Name x p2) p3) scope lpos,kpos⟩] pos) (j6 X.K j t):=by
 subst hsc;have lx:List.lookup x [(x,NameKind.local),(y,NameKind.free)]=some .local:=lO;have ly:List.lookup y [(x,NameKind.local),(y,NameKind.free)]=some .free:=by rw[iT hxy,lO]
 have lz:∀z,z≠x->z≠y->List.lookup z [(x,NameKind.local),(y,NameKind.free)]=none:=λz h1 h2=>by rw[iT h1,iT h2];rfl
 have lc:List.lookup y [(y,c)]=some c:=lO;have lcz:∀z d,List.lookup z [(y,c)]=some d->z=y/\d=c:=λz d e=>by
  by_cases h:z=y
  ·rw[h,lc] at e;cases e;exact⟨h,rfl⟩
  ·rw[iT h] at e;cases e
 refine vX (N:=[y]) hg hm ha h1 hr hL (λpins σ H s H1 l xs A I hs g hh h64=>?_) rfl rfl rfl (λz hz=>?_) lx hbind (λ_=>rfl) (λz d e=>?_) (λz hz=>?_) (λpins σ H s I i z v e1 e2=>?_) λA f c' s' H' σf v i hp=>?_
 ·obtain⟨n,hs,rfl⟩:=hs;rw[HY,IP] at h64;exact nu hh I (g.same _ _ hs) h64
 ·rcases Ih.mp hz with rfl|hz
  ·nofun
  ·rw[Ir.mp hz];nofun
 ·obtain⟨rfl,rfl⟩:=lcz z d e;exact hyl
 ·by_cases z1:z=x
  ·have hz':List.lookup z [(x,NameKind.local),(y,NameKind.free)]=some .cell\/List.lookup z [(x,NameKind.local),(y,NameKind.free)]=some .free:=hz;rw[z1,lx] at hz';rcases hz' with h|h<;>cases h
  ·by_cases z2:z=y
   ·rw[z2];exact⟨c,lc⟩
   ·have hz':List.lookup z [(x,NameKind.local),(y,NameKind.free)]=some .cell\/List.lookup z [(x,NameKind.local),(y,NameKind.free)]=some .free:=hz;rw[lz z z1 z2] at hz';rcases hz' with h|h<;>cases h
 ·cases i with
  |succ i=>cases e1
  |zero =>
   have e1':some y=some z:=e1;cases e1';have e2':some ((σ[j]?).getD none)=some (some v):=e2;have e3:σ[j]?=some (some v):=by
    cases hσ:σ[j]? with
    |none=>rw[hσ] at e2';cases e2'
    |some o=>rw[hσ] at e2';exact e2'
   obtain⟨m,_,hl⟩:=I.loc;obtain⟨u,rv,lk⟩:=hl j y v hj e3 (.inr (.inl hyc));refine⟨ly,c,u,lc,?_,rv⟩;rcases lk with ⟨z,_⟩|⟨_,d,z1,z2⟩
   ·have z':X.env.scope.names.lookup y=some .local:=z;rw[hyc] at z';cases z'
   ·rw[hyl] at z1;cases z1;exact z2
 ·obtain⟨ix,a,ls,rfl,rfl,hq,ha'⟩:=hp;refine⟨_,Bl pG (pv 1 rfl (.inr (.inr ly)) hy1 hy2) (pv 0 rfl (.inl lx) hx1 hx2) (Z.Hv rfl),?_⟩;exact⟨_,rfl,_,rfl,a,ls,ix,.int i,rfl,rfl,hq,ha',rfl,rfl⟩
theorem yw{β:Type}{g:α->β}{ks:List Int}{l:List α}:iN ks (l.map g)=(iN ks l).map g:=by
 have p:∀l:List α,Paired (λa b=>b=g a) l (l.map g):=λl=>by
  induction l with
  |nil=>exact .nil
  |cons a l ih=>exact .cons rfl ih
 have q:∀{l:List α} {m:List β},Paired (λa b=>b=g a) l m->m=l.map g:=λ{l m} h=>by
  induction h with
  |nil=>rfl
  |cons r _ ih=>rw[r,ih];rfl
 exact q (r8 (p l))
structure rK (K:W.Frag) (mg:Str->Option Value) (x:Str):Prop where
 ex:∃c P,W.tabIn K x=some (c,P)/\∀f cdv,Cc K mg x f cdv->cdv=.ref c
theorem nQ{c P:Addr}{oc oc':Value}{od od':Option Addr}{sl sl':Array (Option Value)}{fd:FuncData}{vs:Array Value}(a:W.nsIn K mainGlobals x=some (some (.ref f)))(l:K.lookup f=some ⟨oc,od,.func fd,sl⟩)(hc:fd.code=.ref c)
  (lc:K.lookup c=some ⟨oc',od',.fields vs,sl'⟩) (hv:vs[11]?=some (.ref P)):W.tabIn K x=some (c,P):=by
 unfold W.tabIn;rw[a];dsimp only;rw[l];dsimp only;rw[hc];dsimp only;rw[lc];dsimp only;rw[hv]
theorem jQ(a:W.nsIn K mainGlobals x=some none):W.tabIn K x=none:=by
 unfold W.tabIn;rw[a]
theorem rK.mk'{mg:Str->Option Value}{c P:Addr}(X:K.In h)(G:h.Ns mainGlobals mg)(ht:W.tabIn K x=some (c,P)):rK K mg x:=
 ⟨c,P,ht,λf cdv ⟨m,o,fd,lk,hd,e⟩=>by rw[<- e];exact W.law_code X G ht m (X _ _ lk) hd⟩
theorem gR.of{q:Program}{o1 o2 o3:Option (Addr×Addr)}(nt:W.noTabs K=true)(t1:W.tabIn K "by_worth"=o1)(t2:W.tabIn K "by_weight"=o2)(t3:W.tabIn K "code_of"=o3)(nd:((o1.toList++(o2.toList++o3.toList)).map (·.2)).Nodup)
  (f1:o1=none\/((recsOf q).find? (λe=>e.name ==("by_worth":Str))).isSome=true) (f2:o2=none\/((recsOf q).find? (λe=>e.name ==("by_weight":Str))).isSome=true) (f3:o3=none\/((recsOf q).find? (λe=>e.name ==("code_of":Str))).isSome=true):gR q K:=by
 refine⟨nt,?_,λx hx=>?_⟩
 ·have e:(bH K).map (·.2.1)=(o1.toList++(o2.toList++o3.toList)).map (·.2):=by
   unfold bH cZ
   cases o1<;>cases o2<;>cases o3<;>simp[List.filterMap,t1,t2,t3]
  rw[e];exact nd
 ·unfold cZ at hx;rcases Ih.mp hx with rfl|hx
  ·rw[t1];exact f1
  ·rcases Ih.mp hx with rfl|hx
   ·rw[t2];exact f2
   ·rw[Ir.mp hx,t3];exact f3
namespace Y
noncomputable def zq:V->List V->Hp->VK->Prop:=λx vs H Q=>∃z y,x=.str z/\vs=[.str y]/\z.length<=sizeLine/\Q (.str (Txt.rstripChars z y)) H
theorem kH:uI X "str.rstrip" zq:=by
 intro pins s σ H x xs v us Q I rx rs h;obtain⟨z,y,rfl,rfl,hz,q⟩:=h;obtain⟨t,rfl⟩:=rx;obtain⟨u,rfl,k,rfl⟩:=vals1 rs;exact SC.rstripChars (λt' k=>⟨.str _,H,I.tok _,⟨_,rfl⟩,q⟩) hz
noncomputable def DJ:V->List V->Hp->VK->Prop:=λx vs H Q=>∃z i y,x=.str z/\vs=[.int i,.str y]/\0<=i/\i<1000/\y.length=1/\Q (.str (Txt.ljustF z i (y.cps.getD 0 0))) H
theorem oH:uI X "str.ljust" DJ:=by
 intro pins s σ H x xs v us Q I rx rs h;obtain⟨z,i,y,rfl,rfl,h0,h1,hy,q⟩:=h;obtain⟨t,rfl⟩:=rx;obtain⟨u1,u2,rfl,⟨t1,rfl⟩,⟨t2,rfl⟩⟩:=vals2 rs;exact ljust_fill (padOk_of (by lia) (by lia)) hy λt' k=>⟨.str _,H,I.tok _,⟨_,rfl⟩,q⟩
end Y
theorem oE(x y:Str):(Txt.rstripChars x y).cps.toList.reverse=x.cps.toList.reverse.dropWhile y.cps.contains:=by
 have key:∀(p:Nat->Bool) (l:List Nat),(l.take (l.length-(l.reverse.takeWhile p).length)).reverse=l.reverse.dropWhile p:=λp l=>by
  have h:(l.reverse.takeWhile p).length<=l.length:=by simpa using (List.takeWhile_sublist p (l:=l.reverse)).length_le
  rw[List.reverse_take,<- rZ];congr 1;lia
 have hl:x.length=x.cps.toList.length:=by rw[IU];rfl
 rw[<- key];unfold Txt.rstripChars Txt.stripBy;split
 ·rename_i h;unfold stripSame at h;rw[Jq] at h;have h2:x.length-(x.cps.toList.reverse.takeWhile y.cps.contains).length=x.length:=by simpa[stripLo,stripHi] using h.2
  rw[<- hl,h2,hl,Jy]
 ·have e:∀(a:Array Nat) (j:Nat),(a.extract 0 j).toList=a.toList.take j:=λa j=>by simp
  have e2:=e x.cps (x.length-(x.cps.toList.reverse.takeWhile y.cps.contains).length);rw[hl] at e2;exact IW List.reverse e2
namespace Y
noncomputable def Fe:R2:=λx y H Q=>∃(c:Nat) (k:Int),x=.str ⟨#[c]⟩/\y=.int k/\0<=k/\k<=1000/\Q (.str ⟨(List.replicate k.toNat c).toArray⟩) H
theorem qX:cR X (binaryOp .Mult) Fe:=by
 intro pins s σ H x y v u Q I rx ry h;obtain⟨c,k,rfl,rfl,h0,h1,q⟩:=h;obtain⟨t,rfl⟩:=rx;obtain⟨t2,rfl⟩:=ry;have e:Txt.mul ⟨#[c]⟩ k=⟨(List.replicate k.toNat c).toArray⟩:=by
  have:=mul_one_list c k
  cases hz:Txt.mul ⟨#[c]⟩ k with
  |mk a=>rw[hz] at this;rw[<- this,KZ]
 have ok:MulOk ⟨#[c]⟩ k:=by
  refine⟨by simp only[Bool.or_eq_false_iff,decide_eq_false_iff_not];lia,λz _=>?_,λz _=>?_⟩
  ·have hl:((⟨#[c]⟩:Str).length:Int)=1:=rfl;rw[hl];have:1<=(2^63-1) / k:=by
    rw[MW (by lia)];lia
   lia
  ·have hl:(⟨#[c]⟩:Str).length=1:=rfl;rw[hl,Nat.one_mul];exact IE (My.mpr (Ia (show k.toNat<=1000 by lia) (by decide)))
 exact SB.mul ok λt' j=>⟨.str _,H,I.tok _,⟨t',by rw[e]⟩,q⟩
noncomputable def uP(K:W.Frag):List V->Hp->VK->Prop:=λxs H Q=>AR K xs H Q\/∃p ns,xs=[.ref p]/\bz K H p (ns.map V.int)/\ns.length<64/\∀ns':List Int,ns'.Perm ns->ns'.Pairwise (·<=·)->∀l,H l=none->Q (.ref l) (upd H l (.lst (ns'.map V.int)))
theorem p8(K:W.Frag)(hK:X.K=K):bc X (.builtin "sorted") (uP K):=by
 refine (tR K hK).or ?_;subst hK;intro pins s σ H xs us Q I r h;obtain⟨p,ns,rfl,hq,h64,q⟩:=h;obtain⟨u,rfl,ru⟩:=vals1 r;cases ru;obtain⟨its,rv,pl,hz⟩:=I.list hq;have hi:=intsAre_of rv;refine sorted_ints pl.isList hi (by rw[jo hi];exact h64) λout ns' a1 a2 a3=>?_
 obtain⟨e,he⟩:=sortedAll_at s.heap its out;refine⟨.ref (s.heap.objs.size+1),_,I.laid (t':=s.toks) (λb ob q=>sortedAll_old q) (JT _) (show aM X.prog X.w _ _ _ (.lst (ns'.map V.int)) from⟨?_,out.toList,e,eC a1,by simpa using he⟩),rfl,q ns' a2 a3 _ (I.aI.fresh (JT _))⟩
 rw[HY,a2.length_eq];exact Ia (JU h64) (by decide)
noncomputable def Eb:V->List V->Hp->VK->Prop:=λx vs H Q=>∃a:Int,x=.int a/\vs=[]/\Q (.int (Builtin.Int.intBits a:Nat)) H
theorem yX:uI X "int.bit_length" Eb:=by
 intro pins s σ H x xs v us Q I rx rs h;obtain⟨a,rfl,rfl,q⟩:=h;obtain⟨t,rfl⟩:=rx;obtain rfl:=Paired.ur rs;exact call_int_bit_length ⟨.int _,H,I.tok _,⟨_,rfl⟩,q⟩
noncomputable def GU(K:W.Frag):R2:=λx y H Q=>∃a b xs,x=.ref a/\y=.ref b/\bz K H a xs/\bz K H b []/\Q (.bl xs.isEmpty) H
theorem Bt(K:W.Frag)(hK:X.K=K)(hu:X.A.units<cLine):cR X (compareOp .Eq) (GU K):=by
 subst hK;intro pins s σ H x y v u Q I rx ry h;obtain⟨a,b,xs,rfl,rfl,ha,hb,q⟩:=h
 cases rx;cases ry
 obtain⟨its,r1,p1,_⟩:=I.list ha;obtain⟨its2,r2,p2,_⟩:=I.list hb;obtain rfl:=Paired.ur r2
 cases r1 with
 |nil=>exact SeqAt.eq_listAt (e:=λ_=>true) p1.isList p2.isList rfl hu (λj h1=>absurd h1 (LQ _)) ⟨.bl true,H,I,rfl,q⟩
 |cons h r=>exact SeqAt.eq_list_lengthsAt p1.isList p2.isList (by simp) hu ⟨.bl false,H,I,rfl,q⟩
end Y
noncomputable def iu(h:Heap)(d:Addr)(es:Array DictEntry)(ep:Nat):Prop:=∃o,h.get? d=some o/\o.ExactDict/\o.data=.dict es ep
section
variable {prog:Program} {w:World} {A:Around} {E:Value->Shared->Prop} {s:Shared}
theorem iu.ty(x:iu s.heap d es ep):s.TypeIs (.ref d) "dict":=let ⟨o,ho,hc,_⟩:=x;⟨o,ho,hc.1⟩
theorem iu.keep(x:iu h d es ep)(k:∀o,h.get? d=some o->h'.get? d=some o):iu h' d es ep:=let ⟨o,ho,r⟩:=x;⟨o,k _ ho,r⟩
theorem iu.lt(x:iu h d es ep):d<h.objs.size:=let ⟨_,ho,_⟩:=x;Io ho
theorem zu(low:(d == sysModules)=false)(x:iu s.heap d es ep)
  (q:Q (.ref s.heap.objs.size) {s with heap:=s.heap.push {cls:=.type "dict_keyiterator",data:=.fields #[.ref d,.int 0 0,.int es.size 0,.int ep 0]}}):wpAny (model prog w) A (pyIter (.ref d)) Q E s:=by
 obtain⟨o,ho,hx,hdat⟩:=id x;refine wpAny_pyIter_slot x.ty PySem.F.slot_dict_iter (Jx PySem.F.slot_dict_iter x.ty PySem.F.entry_dict_iter ?_ (PySem.F.args_dict_iter_1 _));unfold Builtin.«dict.__iter__» Builtin.Dict.dictSlotNone;refine HU (HU (wpAny_notOrdered_dict x.ty ?_));show wpAny _ _ (pure (Value.ref d)) _ _ s;refine Ii ?_;show wpAny _ _ (Builtin.Dict.showsAll d >>= _) _ _ s;unfold Builtin.Dict.showsAll;rw[low,H_ Il];refine HU (Ii (HU (L5 ho hdat (HU (MP ho hdat ?_)))));exact HU (J6 (Ii ⟨_,rfl,"dict_keyiterator",_,⟨_,Ip _ rfl,rfl⟩,PySem.F.slot_dict_keyiterator_next.lookup,q⟩))
theorem Ah{it:Addr}{Q:Option Value->Shared->Prop}(hit:s.heap.IsKeyIter it d i es.size ep)(x:iu s.heap d es ep)(hi:i<es.size)
  (q:∀h',h'.IsKeyIter it d (i+1) es.size ep->Heap.SameBut it s.heap h'->Q (some es[i].key) {s with heap:=h'}):wpAny (model prog w) A (pyNext (.ref it)) Q E s:=by
 obtain⟨o,ho,hc,hd⟩:=id hit;obtain⟨od,hod,hx,hdd⟩:=id x;unfold pyNext;refine HU (Ld (Ju (name:=Str.ofString "__next__") hit.typeIs PySem.F.slot_dict_keyiterator_next (Jx PySem.F.slot_dict_keyiterator_next hit.typeIs PySem.F.entry_dict_keyiterator_next ?_ (PySem.F.args_dict_keyiterator_next_1 _))));refine HU (Ii (HU (HU ?_)))
 first|refine HU (J_ hit.typeIs (Ii (HU (L_ ho hd ?_))))|refine HU (Kq hit.typeIs (Ii (HU (L_ ho hd ?_))))
 simp only[show Builtin.Dict_items.ownsTuple "dict_keyiterator"=false by decide,Kg,Km]
 show wpAny _ _ (if (Value.ref d == Value.none)=true then _ else _) _ _ s;rw[H_ (show ¬ ((Value.ref d == Value.none)=true) from Il)]
 refine HU (Ii (HU (L5 hod hdd ?_)));rw[H_ (by simp)]
 refine HU (Ii (HU (MP hod hdd ?_)));rw[H_ (by simp)]
 refine Ii ?_;simp only[show ¬ ((i:Int)<0) by lia,Km,IY,JR hi]
 refine HU ?_
 first|refine HU (J_ hit.typeIs (Ii (HU (LH hit.typeIs ?_))))|refine HU (Kq hit.typeIs (Ii (HU (LH hit.typeIs ?_))))
 show wpAny _ _ (setField (.ref it) 1 (rawInt ((i:Int)+1)) >>= _) _ _ s;refine HU (Lw ho hd (by simp) ?_)
 have h2:(s.heap.update it (Obj.mapFields (·.setIfInBounds 1 (rawInt ((i:Int)+1))))).IsKeyIter it d (i+1) es.size ep:=⟨_,JA _ ho (LD (K2 hd _)),(Obj.cls_mapFields ..).trans hc,by rw[K2 hd];simp[rawInt]⟩
 refine HU (Jl (HU (LH (s:={s with heap:=s.heap.update it (Obj.mapFields (·.setIfInBounds 1 (rawInt ((i:Int)+1))))}) h2.typeIs ?_)))
 show wpAny _ _ (pure es[i].key) _ _ _;exact Ii (Ii ⟨_,rfl,Ii (q _ h2 (J7 ..))⟩)
theorem Ag{it:Addr}{Q:Option Value->Shared->Prop}(hh:A.handled=none)(hit:s.heap.IsKeyIter it d es.size es.size ep)(x:iu s.heap d es ep)
  (q:∀h',Heap.ExtBut it s.heap h'->Q none {s with heap:=h'}):wpAny (model prog w) A (pyNext (.ref it)) Q E s:=by
 obtain⟨o,ho,hc,hd⟩:=id hit;obtain⟨od,hod,hx,hdd⟩:=id x;unfold pyNext;refine HU (Ld (Ju (name:=Str.ofString "__next__") hit.typeIs PySem.F.slot_dict_keyiterator_next (Jx PySem.F.slot_dict_keyiterator_next hit.typeIs PySem.F.entry_dict_keyiterator_next ?_ (PySem.F.args_dict_keyiterator_next_1 _))));refine HU (Ii (HU (HU ?_)))
 first|refine HU (J_ hit.typeIs (Ii (HU (L_ ho hd ?_))))|refine HU (Kq hit.typeIs (Ii (HU (L_ ho hd ?_))))
 simp only[show Builtin.Dict_items.ownsTuple "dict_keyiterator"=false by decide,Kg,Km]
 show wpAny _ _ (if (Value.ref d == Value.none)=true then _ else _) _ _ s;rw[H_ (show ¬ ((Value.ref d == Value.none)=true) from Il)]
 refine HU (Ii (HU (L5 hod hdd ?_)));rw[H_ (by simp)]
 refine HU (Ii (HU (MP hod hdd ?_)));rw[H_ (by simp)]
 refine Ii ?_;simp only[show ¬ ((es.size:Int)<0) by lia,Km,IY,MX (Ib es.size)]
 refine HU ?_
 first|refine HU (J_ hit.typeIs (Ii ?_))|refine HU (Kq hit.typeIs (Ii ?_))
 show wpAny _ _ (setField (.ref it) 0 .none >>= _) _ _ s;refine HU (Lw ho hd (by simp) ?_)
 show wpAny _ _ (newExc (.type "StopIteration") [] >>= _) _ _ _;refine HU ?_;simp only[newExc,newTuple];refine HU (J6 ?_ (by size_fits))
 refine HU (m:=firstArgMember _ _) (wpAny_of_eq (a:=Value.none) (by first|rfl | (simp only[firstArgMember];rfl)) (J6 ?_ (by size_fits)))
 simp only[raiseNew];refine HU (wpAny_handled ?_);rw[show A.in1.handled=none from hh];refine HU (Ii (wpAny_throw ?_));refine HU (wpAny_isInstance (T:="StopIteration") (b:=true) ⟨_,Ip _ rfl,rfl⟩ isSubtype_stop ?_);exact Ii (q _ (((J7 ..).extBut.push _).push _))
end
theorem xW{A:Around}(hh:A.handled=none)(I d:Addr)(ne:d≠I)(es:Array DictEntry)(ep:Nat):
  Walks prog w A I [I,d] [I] es.size (λi v=>∃h:i<es.size,v=es[i].key) (λi h=>h.IsKeyIter I d i es.size ep/\iu h d es ep) where
 sub:=λb hb=>by simp at hb;simp[hb]
 frame:=λ_ _ _ st hk=>⟨st.1.at λo e=>hk I (by simp) o e,st.2.keep λo e=>hk d (by simp) o e⟩
 item:=λi s Q E hi st hQ=>Ah st.1 st.2 hi λh' a b=>hQ _ h' s.toks ⟨hi,rfl⟩ ⟨a,st.2.keep λo e=>b.extBut _ _ ne e⟩ λc o hc e=>b.extBut c o (λh=>hc (by simp[h])) e
 done:=λs Q E st hQ=>Ag hh st.1 st.2 λh' he=>hQ h' s.toks λc o hc e=>he c o (λh=>hc (by simp[h])) e
 self:=λ_ _ _ _ st hQ=>wpAny_pyIter_keyiter st.1 hQ
theorem B4(low:(d == sysModules)=false):W.KdlSrc prog w "dict" d d es.size (λi v=>∃h:i<es.size,v=es[i].key) (λh=>iu h d es ep) where
 type:=λ_ x=>x.ty
 there:=λ_ x=>⟨x.lt,x.lt⟩
 keep:=λ_ _ x k=>x.keep λo e=>k d (.inl rfl) o e
 notList:=by decide
 notTuple:=by decide
 hint:=λ_ _ _ _ x q=>W.kdl_hint_dict x.ty q
 iter:=λ_ _ hh x=>⟨_,_,(λ_ _ q=>zu low x q),xW hh _ d (Iz x.lt) es ep,⟨⟨_,Ip _ rfl,rfl,rfl⟩,x.keep λ_ e=>HW _ e⟩⟩
theorem xn{es:List DictEntry}(h:KTD.Rows (vI K) es D):es.length=D.length:=by
 induction h with
 |nil=>rfl
 |cons _ _ _ ih=>simp[ih]
theorem xP{es:List DictEntry}(h:KTD.Rows (vI K) es D):Vals (D.map λp=>V.str p.1) (es.map λe=>e.key):=by
 induction h with
 |nil=>exact .nil
 |cons e _ _ ih=>exact .cons ⟨_,e⟩ ih
noncomputable def B7(K:W.Frag)(D:List (Str×List Str)):List V->Hp->VK->Prop:=λxs H Q=>∃d,xs=[.ref d]/\kx K d D/\D.length<=sizeLine/\∀l,H l=none->Q (.ref l) (upd H l (.lst (D.map λp=>V.str p.1)))
theorem qc(K:W.Frag)(hK:X.K=K)(hc:X.calm=true):bc X (.type "list") (B7 K D):=by
 intro pins s σ H xs us Q I r h;subst hK;obtain⟨d,rfl,hd,hz,q⟩:=h;obtain⟨u,rfl,rx⟩:=vals1 r;cases rx;obtain⟨o,es,ep,ho,hx,hdat,hr⟩:=hd.ex;have at0:iu s.heap d es ep:=⟨o,I.fo _ _ ho,hx,hdat⟩;have hl:es.size=D.length:=by rw[<- xn hr,IU]
 refine W.kdl_call (B4 hd.low) (I.ok.hd hc) at0 (by rw[hl];exact hz) λh' tk acc c' hk hS hI=>?_
 have hv:Vals (D.map λp=>V.str p.1) acc.toList:=by
  have e:acc.toList=es.toList.map λe=>e.key:=by
   refine Kk λj=>?_;rw[IL,Ie,IL]
   cases z:acc[j]? with
   |none =>
    have:acc.size<=j:=Array.getElem?_eq_none_iff.mp z;rw[MX (by rw[<- hI.1];exact this)];rfl
   |some v =>
    obtain⟨hj,rfl⟩:=hI.2 j v z;rw[JR hj];rfl
  rw[e];exact xP hr
 refine⟨.ref s.heap.objs.size,_,I.laid (t':=tk) hk (Ib _) (show aM X.prog X.w _ h' _ (.lst _) from⟨?_,acc.toList,c',hv,by simpa using hS⟩),rfl,q _ (I.aI.fresh (Ib _))⟩
 rw[HY];exact hz
section
variable {K:W.Frag} {g:TG} {tb:TS} {D:Ends} {σ:St} {H:Hp} {te:TE} {Q:VK}
theorem ql{a:Addr}(hn:xs.length<=sizeLine)(Pv:Addr->Nat->List V->Hp->Prop)(h0:∀D,H D=none->Pv D 0 [] (upd H D (.lst [])))(hD:∀D i ys H',Pv D i ys H'->H' D=some (.lst ys)/\ys.length=i)
  (hl:∀D i ys H',Pv D i ys H'->bz K H' a xs)
  (hs:∀D i ys H' x (R:VK),xs[i]?=some x->Pv D i ys H'->(∀v H5,H5 D=some (.lst ys)->Pv D (i+1) (ys++[v]) (upd H5 D (.lst (ys++[v])))->R v H5)->te (some x::σ) H' R) (hd:∀D ys H',Pv D xs.length ys H'->Q (.ref D) H') :
  jv (yc K a) 1 (aQ 0) eQ te Q σ H:=by
 intro D hD0;refine⟨λi m ys σ' H'=>m=xs.length-i/\i<=xs.length/\Pv D i ys H'/\∃o,σ'=o::σ,⟨xs.length,by simp,Iv _,h0 D hD0,none,rfl⟩,?_⟩
 rintro i m ys σ' H' ⟨rfl,hi,p,o,rfl⟩;obtain⟨hDi,hly⟩:=hD _ _ _ _ p;have q:=hl _ _ _ _ p;refine⟨hDi,?_⟩;by_cases hlt:i<xs.length
 ·refine .inr ⟨⟨xs,xs[i],q,by simp[hlt]⟩,by lia,λx H2 y=>?_⟩
  obtain⟨rfl,y⟩:=y;unfold aQ eQ;dsimp only;rw[if_pos rfl];exact hs D i ys H2 x _ (y xs q) p λv H5 q1 q2=>⟨q1,xs.length-(i+1),by lia,rfl,hlt,q2,_,rfl⟩
 ·have e:i=xs.length:=by lia
  subst e;exact .inl ⟨⟨xs,q,Ib _⟩,hd D ys H' p⟩
end
noncomputable def but(B:uD)(a:Addr):uD:=λb=>B b/\b≠a
section
variable {prog:Program} {w:World} {A:Around} {E:Value->Shared->Prop} {s:Shared}
structure De (prog:Program) (w:World) (s:Shared) (vs:List Value) (κ:SortKind) (kz:Nat->Int) (h:Heap):Prop where
 kind:∀(A:Around) (E:Value->Shared->Prop) (Q:SortKind->Shared->Prop),2<=vs.length->Q κ {s with heap:=h}->wpAny (model prog w) A (keyKind' vs.toArray) Q E {s with heap:=h}
 lt:∀(A:Around) (C:Bool->Shared->Prop) (i j:Nat),i<vs.length->j<vs.length->C (decide (kz i<kz j)) {s with heap:=h}->kas_ask prog w A κ vs i j C {s with heap:=h}
theorem xI{a:Addr}{vs:List Value}{n:Nat}{κ:SortKind}{kz:Nat->Int}{P:Fin->Shared->Prop}(ho:s.heap.get? a=some (seqObj "list" vs.toArray n))(h64:vs.length<64)
  (hq:∀h',(∀b o,b≠a->s.heap.get? b=some o->h'.get? b=some o)->De prog w s vs κ kz h')
  (h:∀p:Array Nat,p.toList.Perm (List.range vs.length)->p.toList.Pairwise (SP.R kz)->P (.done (.ret .none)) {s with heap:=sortedHeap s.heap a vs (List.toArray (p.toList.map λi=>vs.getD i Value.none))}) :
  wpAny (model prog w) A (Builtin.«list.sort» ⟨[.ref a],[]⟩) P E s:=by
 rw[list_sort_plain];have ha:a<s.heap.objs.size:=Io ho;refine HU (LM ho rfl (HU (L9 ho rfl ?_)));obtain⟨e1,ho1⟩:∃e1,(s.heap.update a (Obj.mapSeq λ_=>#[])).get? a=some (seqObj "list" #[] e1):=⟨_,Lj ho (λ_=>#[])⟩;refine HU (seqEpoch_at ho1 rfl (HU (Nj (HU (Lc (Jl ?_))))));have up:∀b o,b≠a->s.heap.get? b=some o->(((s.heap.update a (Obj.mapSeq λ_=>#[])).push (seqObj "tuple" vs.toArray 0)).push (seqObj "list" #[] 0)).get? b=some o:=λb o hb e =>
  HW _ (HW _ ((K8 _ _ (I_ hb)).trans e))
 have ho6:(((s.heap.update a (Obj.mapSeq λ_=>#[])).push (seqObj "tuple" vs.toArray 0)).push (seqObj "list" #[] 0)).get? a=some (seqObj "list" #[] e1):=HW _ (HW _ ho1);show wpAny (model prog w) A _ P E {s with heap:=((s.heap.update a (Obj.mapSeq λ_=>#[])).push (seqObj "tuple" vs.toArray 0)).push (seqObj "list" #[] 0)}
 dsimp only;have hs:=hq _ up;have hsz:vs.toArray.size=vs.length:=by simp
 by_cases h2:vs.toArray.size<2
 ·rw[if_pos h2,if_pos h2];refine wpAny_bind (wpAny_pure ?_);rw[StateT.run_pure];refine wpAny_bind (wpAny_pure ?_);dsimp only;refine wpAny_bind (seqEpoch_at ho6 rfl (wpAny_bind (listUpdate_at ho6 rfl ?_ (hsz2:=by rw[Array.size_map];show (pairsOf vs).size<=_;rw[pairsOf_size,sizeLine_eq];lia))))
  simp only[Mp,Kg,Km];refine Ii ?_;have hid:=h (List.toArray (List.range vs.length)) (List.Perm.refl _) (by
   rcases vs with _|⟨x,_|⟨y,r⟩⟩
   ·exact .nil
   ·simp
   ·exfalso;rw[hsz] at h2;simp only[Iq] at h2;lia)
  have e:(arrOf (SortSt.mk' general' (vs.toArray.zip vs.toArray) #[] 7 none)).map (·.2)=List.toArray ((List.toArray (List.range vs.length)).toList.map λi=>vs.getD i Value.none):=by
   show (vs.toArray.zip vs.toArray).map (·.2)=_;apply M6.mp;rw[Array.toList_map,Array.toList_zip];show (vs.zip vs).map (·.2)=(List.range vs.length).map λi=>vs.getD i Value.none;rw[M9 (Ib _)];refine Kk λi=>?_;rw[Ie];rcases Jb i vs.length with c|c
   ·rw[Ks c,HV c];simp[c]
   ·rw[Jr.mpr c,Jr.mpr (by rw[IP];exact c)];rfl
  rw[e];exact hid
 ·rw[H_ h2,H_ h2];have h2':2<=vs.length:=by rw[hsz] at h2;lia
  refine HU (hs.kind _ _ _ h2' ?_);refine HU (IZ (kat_run (ks:=vs) (vs:=vs) (Q:=λst' s'=>s'={s with heap:=((s.heap.update a (Obj.mapSeq λ_=>#[])).push (seqObj "tuple" vs.toArray 0)).push (seqObj "list" #[] 0)}/\∃p:Array Nat,arrOf st'=p.map (kas_item (vs.toArray.zip vs.toArray))/\failedOf st'=none/\p.toList.Perm (List.range vs.length)/\p.toList.Pairwise (SP.R kz))
   (G:=λp s'=>s'={s with heap:=((s.heap.update a (Obj.mapSeq λ_=>#[])).push (seqObj "tuple" vs.toArray 0)).push (seqObj "list" #[] 0)}/\p.toList.Perm (List.range vs.length)/\p.toList.Pairwise (SP.R kz))
   rfl h2' h64 (λp st' s' a1 a2 a3 a4=>⟨a4.1,p,a2,a3,a4.2⟩) ?_) ?_ λ_ _ e=>e)
  ·refine SP.sj (k:=kz) (I:=λs'=>s'={s with heap:=((s.heap.update a (Obj.mapSeq λ_=>#[])).push (seqObj "tuple" vs.toArray 0)).push (seqObj "list" #[] 0)}) (λi j C s' hi hj hI hC=>?_) (by lia) rfl λp s' hp hr hI=>⟨hI,hp,hr⟩
   subst hI;exact hs.lt _ _ i j hi hj (hC _ rfl)
  rintro⟨⟨⟩,st'⟩ s' ⟨rfl,p,har,hf,hp,hr⟩;dsimp only;have esn:=kat_snds (ks:=vs) (vs:=vs) rfl har;have hl:(p.toList.map λi=>vs.getD i Value.none).length=vs.length:=by rw[List.length_map,hp.length_eq,List.length_range]
  refine HU (seqEpoch_at ho6 rfl ?_);refine HU (L9 ho6 rfl ?_ (hsz2:=by show ((arrOf st').map (·.2)).size<=_;rw[esn,Im,hl,Js];lia))
  rw[hf];simp only[Mp,Kg,Km];rw[esn];exact Ii (h p hp hr)
theorem qw{l:Addr}{vs:List Value}{κ:SortKind}{kz:Nat->Int}(hl:s.heap.IsList l vs.toArray)(h64:vs.length<64)(hq:∀h',(∀b o,s.heap.get? b=some o->h'.get? b=some o)->De prog w s vs κ kz h')
  (h:∀p:Array Nat,p.toList.Perm (List.range vs.length)->p.toList.Pairwise (SP.R kz)->Q (.ref (s.heap.objs.size+1)) {s with heap:=sortedAll s.heap vs (List.toArray (p.toList.map λi=>vs.getD i Value.none))}) :
  wpAny (model prog w) A (call (.builtin "sorted") [.ref l]) Q E s:=by
 refine Mt kind_sorted plain_sorted entry_sorted (args_sorted1 _) ?_;unfold Builtin.«sorted»;refine HU (m:=checkCount "sorted" 1 1 _) (Ii (HU (collect_list hl (HU (Lc ?_)))));have hsz:((s.heap.push (seqObj "list" #[] 0)).update s.heap.objs.size (Obj.mapSeq (·++vs.toArray))).objs.size=s.heap.objs.size+1:=by rw[M4,size_push']
 have hoL:(((s.heap.push (seqObj "list" #[] 0)).update s.heap.objs.size (Obj.mapSeq (·++vs.toArray))).push (seqObj "list" vs.toArray 0)).get? (s.heap.objs.size+1)=some (seqObj "list" vs.toArray 0):=by rw[<- hsz];exact Ip _ rfl
 have keep:∀b o,s.heap.get? b=some o->(((s.heap.push (seqObj "list" #[] 0)).update s.heap.objs.size (Obj.mapSeq (·++vs.toArray))).push (seqObj "list" vs.toArray 0)).get? b=some o:=λb o q=>by
  have hlt:b<s.heap.objs.size:=Io q;rw[Heap.get?_push_ne _ _ _ (by rw[hsz];exact Iz (K9 hlt)),Lf _ _ _ _ (Iz hlt),Heap.get?_push_ne _ _ _ (Iz hlt)]
  exact q
 show wpAny _ _ _ _ _ {s with heap:=((s.heap.push (seqObj "list" #[] 0)).update s.heap.objs.size (Obj.mapSeq (·++vs.toArray))).push (seqObj "list" vs.toArray 0)}
 rw[hsz];refine HU (Jl (Jx slot_list_sort ⟨_,hoL,rfl⟩ entry_list_sort (xI (kz:=kz) (κ:=κ) (s:={s with heap:=((s.heap.push (seqObj "list" #[] 0)).update s.heap.objs.size (Obj.mapSeq (·++vs.toArray))).push (seqObj "list" vs.toArray 0)}) hoL h64 (λh' hk=>?_) λp a1 a2=>⟨_,rfl,?_⟩) (args_list_sort _)))
 ·have:=hq h' λb o e=>hk b o (Iz (K9 (Io e))) (keep b o e);exact⟨this.kind,this.lt⟩
 ·exact Ii ⟨_,rfl,h p a1 a2⟩
end
noncomputable def lexLt(x y:Int×Int):Bool:=decide (x.1<y.1\/(x.1=y.1/\x.2<y.2))
theorem lE{x:Int×Int}:lexLt x y=true ↔ (x.1<y.1\/(x.1=y.1/\x.2<y.2)):=decide_eq_true_iff
noncomputable def rank(l:List (Int×Int))(x:Int×Int):Nat:=l.countP λy=>lexLt y x
noncomputable def rk(l:List (Int×Int))(i:Nat):Int:=(rank l (l.getD i (0,0)):Nat)
theorem pC{l:List (Int×Int)}{p q:Int×Int->Bool}(h:∀z,p z=true->q z=true){x:Int×Int}:x∈l->p x=false->q x=true->l.countP p<l.countP q:=by
 induction l with
 |nil=>intro hx;cases hx
 |cons y l ih =>
  intro hx h1 h2;have hle:l.countP p<=l.countP q:=Nk λz _=>h z;rw[List.countP_cons,List.countP_cons];rcases Ih.mp hx with rfl|hx
  ·rw[H_ (by rw[h1];exact Il),Ig h2];lia
  ·have:=ih hx h1 h2
   cases hp:p y with
   |true=>rw[Ig rfl,Ig (h y hp)];lia
   |false=>rw[H_ Il];split<;>lia
theorem rW{l:List (Int×Int)}{x:Int×Int}(hx:x∈l)(hy:y∈l):decide (rank l x<rank l y)=lexLt x y:=by
 have irr:∀z,lexLt z z=false:=λz=>IE (by lia)
 cases h:lexLt x y with
 |true =>
  refine IM (pC (λz hz=>?_) hx (irr x) h);rw[lE] at h hz ⊢;lia
 |false =>
  refine IE (My.mpr (Nk λz _ hz=>?_));have h':¬ (x.1<y.1\/(x.1=y.1/\x.2<y.2)):=of_decide_eq_false h;rw[lE] at hz ⊢;lia
noncomputable def wj(h:Heap)(v:Value)(pr:Int×Int):Prop:=∃(a:Addr) (o:Obj) (n:Nat) (t u:Tok),v=.ref a/\h.get? a=some o/\o.cls=.type "tuple"/\o.data=.seq #[.int pr.1 t,.int pr.2 u] n
theorem om:∀{vs:List Value} {prs:List (Int×Int)},Paired (wj h) vs prs->∃fs,KatTups h vs fs/\fs.length=vs.length/\∀v∈fs,∃i t,v=Value.int i t
 |_,_,.nil=>⟨[],trivial,rfl,λ_ h=>by cases h⟩
 |_,_,.cons r t=>by
  obtain⟨a,o,n,t1,u,rfl,ho,hc,hd⟩:=r;obtain⟨fs,h1,h2,h3⟩:=om t;refine⟨_::fs,⟨⟨a,o,_,n,rfl,ho,hc,hd,rfl⟩,h1⟩,by simp[h2],λv hv=>?_⟩
  rcases Ih.mp hv with rfl|hv
  ·exact⟨_,_,rfl⟩
  ·exact h3 v hv
theorem yl{vs:List Value}(hp:Paired (wj h) vs prs){i:Nat}(hi:i<vs.length):wj h (vs.getD i .none) (prs.getD i (0,0))/\prs.getD i (0,0)∈prs:=by
 induction hp generalizing i with
 |nil=>cases hi
 |cons r t ih =>
  cases i with
  |zero=>exact⟨r,Ij ..⟩
  |succ i =>
   obtain⟨h1,h2⟩:=ih (i:=i) (by simpa using hi)
   exact⟨h1,Ik _ h2⟩
theorem sN{s:Shared}{vs:List Value}(hp:Paired (wj h) vs prs):De prog w s vs (tuples' true) (rk prs) h where
 kind:=λA E Q h2 q=>by
  obtain⟨fs,h1,h3,h4⟩:=om hp;exact kat_kind (s:={s with heap:=h}) (T:=.type "int") h1 (by lia) (λv hv=>by obtain⟨i,t,rfl⟩:=h4 v hv;exact Looks.of_pure rfl) rfl q
 lt:=λA C i j hi hj q=>by
  obtain⟨⟨a,o,n,t,u,ea,ho,hc,hd⟩,mi⟩:=yl hp hi;obtain⟨⟨a',o',n',t',u',ea',ho',hc',hd'⟩,mj⟩:=yl hp hj;have e:=rW mi mj;have e':decide (rk prs i<rk prs j)=lexLt (prs.getD i (0,0)) (prs.getD j (0,0)):=by
   rw[<- e,JP];unfold rk;lia
  rw[e'] at q;clear e e' mi mj;unfold kas_ask;rw[ea,ea'];generalize prs.getD i (0,0)=x at *;generalize prs.getD j (0,0)=y at *;refine kat_lt (s:={s with heap:=h}) ho hd ho' hd' ?_
  show KatLex prog w A true _ C [(.int x.1 t,.int y.1 t'),(.int x.2 u,.int y.2 u')] 0 _;refine kat_cons (Mz ?_)
  cases c1:(x.1 == y.1) with
  |false =>
   refine kat_no ?_;have h1:x.1≠y.1:=Jn.mp c1;have e1:lexLt x y=decide (x.1<y.1):=by unfold lexLt;rw[JP];lia
   rw[e1] at q;exact oneLt_int q
  |true =>
   refine kat_yes (kat_cons (Mz ?_));have h1:x.1=y.1:=eq_of_beq c1;have e1:lexLt x y=decide (x.2<y.2):=by unfold lexLt;rw[JP];lia
   rw[e1] at q
   cases c2:(x.2 == y.2) with
   |false =>
    refine kat_no ?_;show wpAny (model prog w) A (oneLt' false (.int x.2 u) (.int y.2 u')) C _ _;exact kat_one _ _ (lt_int q)
   |true =>
    have h2:x.2=y.2:=eq_of_beq c2;refine kat_yes (kat_nil ?_);rw[IE (by lia)] at q
    exact q
noncomputable def F_(l:List (Int×Int)):Prop:=l.Pairwise λx y=>lexLt y x=false
theorem E2{ix:List Nat}(hp:ix.Perm (List.range prs.length))(hr:ix.Pairwise (SP.R (rk prs))):(ix.map λi=>prs.getD i (0,0)).Perm prs/\F_ (ix.map λi=>prs.getD i (0,0)):=by
 have e:(List.range prs.length).map (λi=>prs.getD i (0,0))=prs:=by
  refine Kk λi=>?_;rw[Ie];rcases Jb i prs.length with c|c
  ·rw[Ks c,HV c];simp[c]
  ·rw[Jr.mpr c,Jr.mpr (by rw[IP];exact c)];rfl
 refine⟨?_,JZ.mpr (hr.imp_of_mem λ{i j} hi hj h=>?_)⟩
 ·have:=hp.map λi=>prs.getD i (0,0);rw[e] at this;exact this
 ·have mem:∀i∈ix,prs.getD i (0,0)∈prs:=λi hi=>by
   have hl:=Jc.mp (hp.mem_iff.mp hi);rw[Ic,HV hl];exact IH hl
  rw[<- rW (mem j hj) (mem i hi)];have:=h.le;unfold rk at this;exact IE (by lia)
namespace Y
noncomputable def FJ(H:Hp)(v:V)(p:Int×Int):Prop:=∃q,v=.ref q/\H q=some (.tup [.int p.1,.int p.2])
noncomputable def Dg(K:W.Frag):List V->Hp->VK->Prop:=λxs H Q=>∃p vs prs,xs=[.ref p]/\bz K H p vs/\Paired (FJ H) vs prs/\prs.length<64/\∀ix:List Nat,ix.Perm (List.range prs.length)->F_ (ix.map λi=>prs.getD i (0,0))->∀l,H l=none->Q (.ref l) (upd H l (.lst (ix.map λi=>vs.getD i .aJ)))
theorem wR{pins:List (Addr×Obj)}{σ:St}{s:Shared}(I:Inv X pins σ H s):∀{vs:List V} {its:List Value} {prs:List (Int×Int)},Vals vs its->Paired (FJ H) vs prs->Paired (wj s.heap) its prs
 |_,_,_,.nil,.nil=>.nil
 |_,_,_,.cons r t,.cons r' t'=>by
  refine .cons ?_ (wR I t t');obtain⟨q,rfl,hq⟩:=r';have e:_=Value.ref q:=r;subst e;obtain⟨_,ts,tv,o,e1,c,n,d,_⟩:=(show aM X.prog X.w H s.heap q (.tup _) from I.aI q _ hq);obtain⟨u,w',rfl,⟨t1,rfl⟩,⟨t2,rfl⟩⟩:=vals2 tv;exact⟨q,o,n,t1,t2,rfl,e1,c,d⟩
theorem qN{vs:List V}{its:List Value}(h:Vals vs its):∀ix:List Nat,(∀i∈ix,i<vs.length)->Vals (ix.map λi=>vs.getD i .aJ) (ix.map λi=>its.getD i Value.none)
 |[],_=>.nil
 |i::ix,hi=>by
  refine .cons ?_ (qN h ix λj hj=>hi j (Ik _ hj));have hl:=hi i (Ij ..);obtain⟨u,e,r⟩:=Vals.get h (HV hl);show RelV (vs.getD i .aJ) (its.getD i Value.none);rw[Ic,Ic,HV hl,e];exact r
theorem qp(K:W.Frag)(hK:X.K=K):bc X (.builtin "sorted") (Dg K):=by
 subst hK;intro pins s σ H xs us Q I r h;obtain⟨p,vs,prs,rfl,hq,hp,h64,q⟩:=h;obtain⟨u,rfl,ru⟩:=vals1 r;cases ru;obtain⟨its,rv,pl,hz⟩:=I.list hq;have hpa:=wR I rv hp;have l1:its.length=prs.length:=Paired.length hpa;have l2:vs.length=prs.length:=Paired.length hp;refine qw (κ:=tuples' true) (kz:=rk prs) pl.isList (by lia) (λh' hk=>sN (Paired.uU hpa λa b ⟨x,o,n,t,u,e,ho,r⟩=>⟨x,o,n,t,u,e,hk _ _ ho,r⟩)) λpx a1 a2=>?_
 rw[l1] at a1;obtain⟨e,he⟩:=sortedAll_at s.heap its (List.toArray (px.toList.map λi=>its.getD i Value.none));refine⟨.ref (s.heap.objs.size+1),_,I.laid (t':=s.toks) (λb ob q=>sortedAll_old q) (JT _) (show aM X.prog X.w _ _ _ (.lst (px.toList.map λi=>vs.getD i .aJ)) from⟨?_,_,e,qN rv px.toList (λi hi=>by rw[l2];exact Jc.mp (a1.mem_iff.mp hi)),by simpa using he⟩),rfl,q px.toList a1 (E2 a1 a2).2 _ (I.aI.fresh (JT _))⟩
 rw[HY,a1.length_eq,IP];exact Ia (JU h64) (by decide)
end Y
open Builtin Builtin.Str
open PySem PySem.Spec PyProof PyProof.Rows
open Builtin Builtin.Str
open PySem PySem.Spec PyProof PyProof.Rows
open PySem PySem.Spec PyProof PyProof.Rows PySem.W
variable{X:Cx}{cs:List Nat}{E Q:Value->Shared->Prop}{x:Str}{P prog:Program}{w:World}{i:Nat}{base h h':Heap}{xs:List V}{β:Type}{g:TG}{K:W.Frag}{es ifs:List Expr}{a:Addr}{pins:List (Addr×Obj)}{σ:St}{H:Hp}{ta:TA}{p p2:Pos}{sp:Sp}{e elt iter tg:Expr}{osc scope:Scope}{N ON own:List Str}{tc:TT}{te:(Value->Option Addr->Addr->Hp->Prop)->TE}{st:Stmt}{mg:Str->Option Value}{fd:FuncData}{Dx:ph}
theorem ints_get:∀{ns:List Int} {its:List Value},Vals (ns.map V.int) its->∀(m:Nat) (y:Int),ns[m]?=some y->∃t,its[m]?=some (.int y t):=λr m y e=>by
 obtain⟨u,h1,h2⟩:=r.get (i:=m) (x:=V.int y) (by rw[Ie,e];rfl)
 obtain⟨t,rfl⟩:=(show RelV (.int y) u from h2);exact⟨t,h1⟩
namespace Y
noncomputable def EX:V->List V->Hp->VK->Prop:=λx vs H Q=>∃(a:Addr) (ws:List Int) (k:Int) (j:Nat),x=.ref a/\H a=some (.lst (ws.map V.int))/\vs=[.int k]/\ws[j]?=some k/\(∀m,m<j->ws[m]?≠some k)/\Q (.int (j:Nat)) H
theorem y6:E5 X "list.index" EX:=by
 intro pins s σ H x xs v us Q I rx rs h;obtain⟨a,ws,k,j,rfl,hH,rfl,hj,hno,q⟩:=h;cases rx;obtain⟨u,rfl,t,rfl⟩:=vals1 rs;obtain⟨z,its,n,r,hl,e⟩:=I.nv hH;obtain⟨t',hit⟩:=ints_get r j k hj;have hjl:j<ws.length:=(HZ.mp hj).1;rw[HY] at z hl;have hji:j<its.toArray.size:=by rw[Im];lia
 have sz:(sizeLine:Int)<2^63-1:=by decide
 have hje:its.toArray[j]=.int k t':=by
  have:its.toArray[j]?=some (.int k t'):=by rw[Jf];exact hit
  exact (Iw.mp this).2
 have hall:∀(m:Nat) (hm:m<its.toArray.size),∃y ty,its.toArray[m]=.int y ty/\ws[m]?=some y:=λm hm=>by
  have hm':m<ws.length:=by rw[Im] at hm;lia
  have e1:=HV hm';obtain⟨ty,hy⟩:=ints_get r m _ e1;have:its.toArray[m]?=some (.int ws[m] ty):=by rw[Jf];exact hy
  exact⟨_,ty,(Iw.mp this).2,e1⟩
 refine K1 PySem.F.slot_list_index ⟨_,e,rfl⟩ PySem.F.entry_list_index (PySem.F.args_list_index_2 _ _) (SeqAt.list_indexAt a its.toArray n none _ (.int k t) (λy=>match y with|.int y _=>y == k|_=>false) j hji (by lia) (by rw[hje];exact Ka k) λm hm hmj=>?_) ⟨e,λy hy=>?_,⟨.int (j:Nat),H,I.tok _,⟨_,rfl⟩,q⟩⟩
 ·obtain⟨y,ty,ey,ew⟩:=hall m hm;rw[ey];exact Jn.mpr λz=>hno m hmj (by rw[ew,z])
 ·obtain⟨m,hm,rfl⟩:=Ng.mp hy;obtain⟨y,ty,ey,ew⟩:=hall m hm;rw[ey];exact SeqAt.EqAt.int_int _ _ _ _
end Y
open PySem PySem.Calls PySem.NumText PySem.Spec PyProof PyProof.Rows
noncomputable def dX(cs:List Nat):Nat:=cs.foldl (λa c=>a*2+(c-48)) 0
noncomputable def cQ(cs:List Nat):Prop:=∀c∈cs,c=48\/c=49
theorem Ff{c:Nat}(h:c=48\/c=49)(ds:Array Nat)(b:Bool):step 2 (ds,b) c=some (ds.push (c-48),true):=by
 rcases h with rfl|rfl<;>rfl
theorem Bh:∀(cs:List Nat) (ds:Array Nat) (b:Bool),cQ cs->∃ds':Array Nat,cs.foldlM (step 2) (ds,b)=some (ds',b || !cs.isEmpty)/\ds'.foldl (λa d=>a*2+d) 0=cs.foldl (λa c=>a*2+(c-48)) (ds.foldl (λa d=>a*2+d) 0)
 |[],ds,b,_=>⟨ds,by simp,rfl⟩
 |c::cs,ds,b,h=>by
  obtain⟨ds',e1,e2⟩:=Bh cs (ds.push (c-48)) true λx hx=>h x (Ik _ hx);refine⟨ds',?_,?_⟩
  ·rw[List.foldlM_cons,Ff (h c Ij)];show cs.foldlM (step 2) (ds.push (c-48),true)=_;rw[e1];simp
  ·rw[e2,Array.foldl_push,ML]
theorem uw{c:Nat}(h:c=48\/c=49):blank c=false:=by rcases h with rfl|rfl<;>rfl
theorem o_(h:cQ cs):cs.dropWhile blank=cs:=by
 cases cs with
 |nil=>rfl
 |cons c cs=>rw[Le,uw (h c Ij)];rfl
theorem vA(h:cQ cs):sign cs=(false,cs):=by
 cases cs with
 |nil=>rfl
 |cons c cs=>rcases h c Ij with rfl|rfl<;>rfl
theorem t_(h:cQ cs):based 2 cs=(2,false,cs):=by
 have e:PySem.NumText.prefix? cs=none:=by
  rcases cs with _|⟨c,_|⟨d,cs⟩⟩
  ·rfl
  ·rcases h c Ij with rfl|rfl<;>rfl
  ·rcases h c Ij with rfl|rfl
   ·rcases h d (Ik _ Ij) with rfl|rfl<;>rfl
   ·rfl
 unfold based;rw[e];rfl
theorem xQ{cs:List Nat}(h:cQ cs)(h0:cs≠[]):(int_private% "readNumeral") 0 2 cs=(int_private% "Numeral.value") (dX cs:Int):=by
 rw[readNumeral_eq,o_ h,vA h];show judge 0 false (based 2 cs).1 (based 2 cs).2.1 (digits? (based 2 cs).1 (((based 2 cs).2.2.reverse.dropWhile blank).reverse))=_;rw[t_ h];show judge 0 false 2 false (digits? 2 ((cs.reverse.dropWhile blank).reverse))=_;rw[o_ (cs:=cs.reverse) (λc hc=>h c (Kb.mp hc)),KW];obtain⟨ds,e1,e2⟩:=Bh cs #[] false h;have e3:digits? 2 cs=some ds:=by
  unfold digits?;rw[e1]
  cases cs with
  |nil=>exact absurd rfl h0
  |cons=>rfl
 rw[e3];show (int_private% "Numeral.value") ((ds.foldl (λacc d=>acc*2+d) 0:Nat):Int)=_;rw[e2];rfl
theorem nJ:∀{cs:List Nat},cQ cs->cs.takeWhile (· != 0)=cs
 |[],_=>rfl
 |c::cs,h=>by
  rw[LV,show (c != 0)=true by rcases h c Ij with rfl|rfl<;>rfl,Ig rfl,nJ λx hx=>h x (Ik _ hx)]
theorem wC{M:Model}{A:Around}{s:Shared}{v:Value}{text:List Nat}{n:Int}
  (hs:(text.takeWhile (· != 0)).length<=640) (hr:(int_private% "readNumeral") 0 2 (text.takeWhile (· != 0))=(int_private% "Numeral.value") n)
  (ha:((text.takeWhile (· != 0)).length == text.length)=true) (h:Q (.int n s.toks) {s with toks:=s.toks+1}) :
  wpAny M A ((int_private% "intFromText") v text 2) Q E s:=by
 obtain⟨hp,g,d,tk,os⟩:=s
 repeat (any_goals (first
  |assumption
  | (with_reducible refine Ma (IM hs) ?_)
  | (with_reducible refine Ma (IM ha) ?_)
  |wp_step))
 all_goals (try rw[hr])
 all_goals (try dsimp only)
 repeat (any_goals (first
  |assumption
  | (with_reducible refine Ma (IM hs) ?_)
  | (with_reducible refine Ma (IM ha) ?_)
  |wp_step))
theorem mZ{x:PySem.Str}{u t:Tok}(hl:x.length<=640)(hb:cQ x.cps.toList)(h0:x.cps.toList≠[]):Gives (Builtin.«int.__new__» ⟨[.type "int",.str x u,.int 2 t],[]⟩) (.int (dX x.cps.toList)):=
 .of_wp λM A E s Q h=>by
  obtain⟨hp,g,d,tk,os⟩:=s;have f1:=F.conv_sub_int;have f2:=F.madeHere_int;have f6:typeOf (.str x u)=pure (.type "str"):=rfl;have ht:x.cps.all (· < 128)=true:=by
   rw[<- Array.all_toList,M1];intro c hc;rcases hb c hc with rfl|rfl<;>rfl
  have hs:=nJ hb;have hk:=W.KIN.Hid.mk (And.intro (show (x.cps.toList.takeWhile (· != 0)).length<=640 by rw[hs];exact hl) (And.intro (show (int_private% "readNumeral") 0 2 (x.cps.toList.takeWhile (· != 0))=(int_private% "Numeral.value") (dX x.cps.toList:Int) by rw[hs];exact xQ hb h0) (show ((x.cps.toList.takeWhile (· != 0)).length == x.cps.toList.length)=true by rw[hs];simp)))
  clear hs hl hb h0
  repeat (any_goals (first
   |assumption
   | ((with_reducible show wpAny _ _ ((int_private% "intFromText") _ _ _) _ _ _);(try rw[Ig ht]);refine wC hk.out.1 hk.out.2.1 hk.out.2.2 ?_)
   |wp_step))
  all_goals first|exact⟨_,rfl,h⟩|skip
theorem j8(a b:Value):checkTypeCall "int" ⟨[a,b],[]⟩=pure ():=by kernel_rfl
theorem kn(a b:Value):checkBuiltinCall "int.__new__" ⟨[.type "int",a,b],[]⟩=pure ():=by kernel_rfl
theorem pX{A:Around}{s:Shared}{x:PySem.Str}{u t:Tok}(hl:x.length<=640)(hb:cQ x.cps.toList)(h0:x.cps.toList≠[])(h:Q (.int (dX x.cps.toList) s.toks) {s with toks:=s.toks+1}):wpAny (model prog w) A (call (.type "int") [.str x u,.int 2 t]) Q E s:=
 M3 F.called_int F.newNe_int (j8 _ _) (kn _ _) (λobj=>F.args_object_init_3 obj _ _) F.entry_int_new (mZ hl hb h0).meets (show (Made.int _).post _ s from⟨rfl,h⟩)
noncomputable def AI:List V->Hp->VK->Prop:=λxs H Q=>∃z:Str,xs=[.str z,.int 2]/\z.length<=640/\cQ z.cps.toList/\z.cps.toList≠[]/\Q (.int (dX z.cps.toList)) H
theorem kD:bc X (.type "int") AI:=by
 intro pins s σ H xs us Q I r h;obtain⟨z,rfl,h1,h2,h3,q⟩:=h;obtain⟨u,v,rfl,⟨t,rfl⟩,⟨t',rfl⟩⟩:=vals2 r;exact pX h1 h2 h3 ⟨.int _,H,I.tok _,⟨_,rfl⟩,q⟩
abbrev Src:=Bool×Addr×Addr
variable{q:Src}
abbrev eF(h:Heap)(T:Addr)(xs:List Value):Prop:=h.get? T=some {cls:=.type "tuple",data:=.seq xs.toArray}
structure Zn (z TI TO:Addr) (S:List Src):Prop where
 zt:TI≠z/\TO≠z/\TI≠TO
 it:∀q∈S,q.2.1≠z/\q.2.1≠TI/\q.2.1≠TO
 sr:∀q∈S,q.2.2≠z/\q.2.2≠TO/\∀p∈S,q.2.2≠p.2.1
 nd:(S.map λq=>q.2.1).Nodup
noncomputable def qo(i:Nat)(h:Heap)(q:Src):Prop:=jC q.1 h q.2.1 q.2.2 i
noncomputable def Bq(h:Heap)(q:Src)(xs:Array Value):Prop:=bR q.1 h q.2.2 xs
theorem qo.kp(x:qo i h q)(k:∀o,h.get? q.2.1=some o->h'.get? q.2.1=some o):qo i h' q:=by
 obtain⟨b,it,a⟩:=q
 cases b with
 |true=>obtain⟨o,e,r⟩:=(show h.IsListIter it a i from x);exact⟨o,k o e,r⟩
 |false=>obtain⟨o,e,r⟩:=(show h.IsTupleIter it a i from x);exact⟨o,k o e,r⟩
theorem Bq.kp{xs:Array Value}(x:Bq h q xs)(k:∀o,h.get? q.2.2=some o->h'.get? q.2.2=some o):Bq h' q xs:=by
 obtain⟨b,it,a⟩:=q
 cases b with
 |true=>obtain⟨o,e,r⟩:=(show h.IsList a xs from x);exact⟨o,k o e,r⟩
 |false=>obtain⟨o,e,r⟩:=(show h.IsTuple a xs from x);exact⟨o,k o e,r⟩
noncomputable def oI(i:Nat)(h:Heap)(q:Src)(u:Value):Prop:=qo i h q/\∃xs,Bq h q xs/\xs[i]?=some u
theorem oI.kp{u:Value}(x:oI i h q u)(k:∀c o,c=q.2.1\/c=q.2.2->h.get? c=some o->h'.get? c=some o):oI i h' q u:=⟨x.1.kp λo=>k _ o (.inl rfl),let ⟨xs,a,b⟩:=x.2;⟨xs,a.kp λo=>k _ o (.inr rfl),b⟩⟩
section
variable {prog:Program} {w:World} {A:Around} {E:Value->Shared->Prop} {z TI TO:Addr} {S:List Src} {i:Nat}
noncomputable def Step(prog:Program)(w:World)(A:Around)(E:Value->Shared->Prop)(z TI TO:Addr)(S:List Src)(i:Nat)(f:Value×Nat->β->Sem (ForInStep β))(b:β):Prop:=
 ∀q∈S,∀(j:Nat) (arr:List Value) (u:Value) (s:Shared) (Q:ForInStep β->Shared->Prop),IsZip s.heap z TI TO .ellipsis->eF s.heap TO arr->arr.length<=3->oI i s.heap q u ->
  (∀h' tk,eF h' TO (arr.set j u)->qo (i+1) h' q->(∀c o,c≠TO->c≠q.2.1->s.heap.get? c=some o->h'.get? c=some o)->h'.objs.size=s.heap.objs.size->Q (.yield b) {s with heap:=h',toks:=tk})->wpAny (model prog w) A (f (.ref q.2.1,j) b) Q E s
theorem zD(D:Zn z TI TO S){f:Value×Nat->β->Sem (ForInStep β)}{b:β}(hf:Step prog w A E z TI TO S i f b):
  ∀(todo:List Src) (us pre old:List Value) (s:Shared) (Q:β->Shared->Prop),(∀q∈todo,q∈S)->(todo.map λq=>q.2.1).Nodup->IsZip s.heap z TI TO .ellipsis->eF s.heap TO (pre++old)->(pre++old).length<=3->old.length=todo.length->Paired (oI i s.heap) todo us ->
  (∀h' tk,IsZip h' z TI TO .ellipsis->eF h' TO (pre++us)->(∀q∈todo,qo (i+1) h' q)->(∀c o,c≠TO->(∀q∈todo,c≠q.2.1)->s.heap.get? c=some o->h'.get? c=some o)->h'.objs.size=s.heap.objs.size->Q b {s with heap:=h',toks:=tk}) ->
  wpAny (model prog w) A (forIn ((todo.map λq=>Value.ref q.2.1).zipIdx pre.length) b f) Q E s:=by
 intro todo
 induction todo with
 |nil =>
  intro us pre old s Q _ _ hz ht _ hl dr k;obtain rfl:=Paired.ur dr;have e:old=[]:=Kx.mp hl;subst e;rw[KD,List.zipIdx_nil,List.forIn_nil];exact Ii (k s.heap s.toks hz ht (λq hq=>(nomatch hq)) (λc o _ _ h=>h) rfl)
 |cons q todo ih =>
  intro us pre old s Q hm nd hz ht hn hl dr k;obtain⟨u,us,rfl,du,dr⟩:=Paired.d6 dr
  cases old with
  |nil=>cases hl
  |cons o old =>
   rw[IA,JK] at nd;have hq:=hm q Ij;rw[IA,ME,LL];refine HU (hf q hq pre.length _ u s _ hz ht hn du λh1 tk t1 a1 kp sz=>?_);rw[Nl _ _ (Ib _),JG,Mg,<- Nm,<- II] at t1;have di:=D.it q hq;have z1:IsZip h1 z TI TO .ellipsis:=kp _ _ D.zt.2.1.symm di.1.symm hz;show wpAny _ _ (forIn _ b f) _ _ _;rw[show pre.length+1=(pre++[u]).length by rw[HX];rfl]
   refine ih us (pre++[u]) old {s with heap:=h1,toks:=tk} Q (λp hp=>hm p (Ik _ hp)) nd.2 z1 t1 (by rw[II,HX] at *;exact hn) (Nat.succ.inj hl) ?_ λh2 tk2 z2 t2 a2 kp2 sz2=>?_
   ·have key:∀{l:List Src} {vs:List Value},(∀p∈l,p∈q::todo)->(∀p∈l,p.2.1≠q.2.1)->Paired (oI i s.heap) l vs->Paired (oI i h1) l vs:=λ{l}=>by
     induction l with
     |nil=>intro vs _ _ h;obtain rfl:=Paired.ur h;exact .nil
     |cons p l ihl =>
      intro vs hp hne h;obtain⟨v,vs,rfl,dv,h⟩:=Paired.d6 h;have hpS:=hm p (hp p Ij);refine .cons (dv.kp λc o hc e=>?_) (ihl (λx hx=>hp x (Ik _ hx)) (λx hx=>hne x (Ik _ hx)) h);rcases hc with rfl|rfl
      ·exact kp _ _ (D.it p hpS).2.2 (hne p Ij) e
      ·exact kp _ _ (D.sr p hpS).2.1 ((D.sr p hpS).2.2 q hq) e
    exact key (λp hp=>Ik _ hp) (λp hp e=>nd.1 (by rw[<- e];exact JL (f:=λq:Src=>q.2.1) hp)) dr
   ·refine k h2 tk2 z2 (by rw[II] at t2;exact t2) (λp hp=>?_) (λc o c1 c2 e=>kp2 c o c1 (λp hp=>c2 p (Ik _ hp)) (kp c o c1 (c2 q Ij) e)) (sz2.trans sz)
    rcases Ih.mp hp with rfl|hp
    ·exact a1.kp λo e=>kp2 _ o di.2.2 (λx hx e2=>nd.1 (by rw[e2];exact JL (f:=λq:Src=>q.2.1) hx)) e
    ·exact a2 p hp
noncomputable def FC(prog:Program)(w:World)(A:Around)(E:Value->Shared->Prop)(z TI TO:Addr)(S:List Src)(i:Nat)(f:Value×Nat->β->Sem (ForInStep β))(b:β):Prop:=
 ∀q∈S,∀(j:Nat) (s:Shared) (Q:ForInStep β->Shared->Prop),IsZip s.heap z TI TO .ellipsis->qo i s.heap q->(∃xs:Array Value,Bq s.heap q xs/\xs.size=i) ->
  (∀h' e tk,(∀c o,c≠z->c≠q.2.1->s.heap.get? c=some o->h'.get? c=some o)->(∃o,h'.get? e=some o/\o.cls=.type "StopIteration")->E (.ref e) {s with heap:=h',toks:=tk})->wpAny (model prog w) A (f (.ref q.2.1,j) b) Q E s
theorem y3(D:Zn z TI TO S){f:Value×Nat->β->Sem (ForInStep β)}{b:β}(hf:Step prog w A E z TI TO S i f b)(he:FC prog w A E z TI TO S i f b){r:List Src}:
  ∀(a:List Src) (us pre old:List Value) (s:Shared) (Q:β->Shared->Prop),(∀p∈a++q::r,p∈S)->((a++q::r).map λq=>q.2.1).Nodup->IsZip s.heap z TI TO .ellipsis->eF s.heap TO (pre++old)->(pre++old).length<=3->a.length<old.length->Paired (oI i s.heap) a us->qo i s.heap q->(∃xs:Array Value,Bq s.heap q xs/\xs.size=i) ->
  (∀h' e tk,(∀c o,c≠z->c≠TO->(∀q∈S,c≠q.2.1)->s.heap.get? c=some o->h'.get? c=some o)->(∃o,h'.get? e=some o/\o.cls=.type "StopIteration")->E (.ref e) {s with heap:=h',toks:=tk}) ->
  wpAny (model prog w) A (forIn (((a++q::r).map λq=>Value.ref q.2.1).zipIdx pre.length) b f) Q E s:=by
 intro a
 induction a with
 |nil =>
  intro us pre old s Q hm nd hz ht hn hl dr hi hx k;have hq:=hm q Ij;rw[Jt,IA,ME,LL];exact HU (he q hq _ s _ hz hi hx λh' e tk kp ho=>k h' e tk (λc o c1 _ c3 x=>kp c o c1 (c3 q hq) x) ho)
 |cons p a ih =>
  intro us pre old s Q hm nd hz ht hn hl dr hi hx k;obtain⟨u,us,rfl,du,dr⟩:=Paired.d6 dr
  cases old with
  |nil=>exact absurd hl (LQ _)
  |cons o old =>
   rw[JD,IA,JK] at nd;have hp:=hm p Ij;rw[JD,IA,ME,LL];refine HU (hf p hp pre.length _ u s _ hz ht hn du λh1 tk t1 a1 kp sz=>?_);rw[Nl _ _ (Ib _),JG,Mg,<- Nm,<- II] at t1;have z1:IsZip h1 z TI TO .ellipsis:=kp _ _ D.zt.2.1.symm (D.it p hp).1.symm hz;have ne:∀x∈a++q::r,x.2.1≠p.2.1:=λx hx e=>nd.1 (by rw[<- e];exact JL (f:=λq:Src=>q.2.1) hx)
   have up:∀x∈a++q::r,∀c o,c=x.2.1\/c=x.2.2->s.heap.get? c=some o->h1.get? c=some o:=λx hx c o hc e=>by
    have hxS:=hm x (Ik _ hx);rcases hc with rfl|rfl
    ·exact kp _ _ (D.it x hxS).2.2 (ne x hx) e
    ·exact kp _ _ (D.sr x hxS).2.1 ((D.sr x hxS).2.2 p hp) e
   have hqm:q∈a++q::r:=Iy _ Ij;show wpAny _ _ (forIn _ b f) _ _ _;rw[show pre.length+1=(pre++[u]).length by rw[HX];rfl]
   refine ih us (pre++[u]) old {s with heap:=h1,toks:=tk} Q (λx hx=>hm x (Ik _ hx)) nd.2 z1 t1 (by rw[II,HX] at *;exact hn) (MY hl) ?_ (hi.kp λo=>up q hqm _ o (.inl rfl)) (let ⟨xs,x1,x2⟩:=hx;⟨xs,x1.kp λo=>up q hqm _ o (.inr rfl),x2⟩) λh2 e tk2 kp2 ho=>k h2 e tk2 (λc o c1 c2 c3 x=>kp2 c o c1 c2 c3 (kp c o c2 (c3 p hp) x)) ho
   have key:∀{l:List Src} {vs:List Value},(∀x∈l,x∈a)->Paired (oI i s.heap) l vs->Paired (oI i h1) l vs:=λ{l}=>by
    induction l with
    |nil=>intro vs _ h;obtain rfl:=Paired.ur h;exact .nil
    |cons y l ihl =>
     intro vs hy h;obtain⟨v,vs,rfl,dv,h⟩:=Paired.d6 h;exact .cons (dv.kp (up y (Jv _ (hy y Ij)))) (ihl (λx hx=>hy x (Ik _ hx)) h)
   exact key (λx h=>h) dr
theorem yP(D:Zn z TI TO S){f:Value×Nat->β->Sem (ForInStep β)}{b:β}(hf:Step prog w A E z TI TO S i f b)(he:FC prog w A E z TI TO S i f b){old:List Value}{s:Shared}{Q:β->Shared->Prop}(hz:IsZip s.heap z TI TO .ellipsis)(ht:eF s.heap TO old)(hn:old.length<=3)(hl:old.length=S.length)
  (hh:(∃us,Paired (oI i s.heap) S us/\∀h' tk,IsZip h' z TI TO .ellipsis->eF h' TO us->(∀q∈S,qo (i+1) h' q)->(∀c o,c≠TO->(∀q∈S,c≠q.2.1)->s.heap.get? c=some o->h'.get? c=some o)->h'.objs.size=s.heap.objs.size->Q b {s with heap:=h',toks:=tk}) \/
   ∃a q r us,S=a++q::r/\Paired (oI i s.heap) a us/\qo i s.heap q/\(∃xs:Array Value,Bq s.heap q xs/\xs.size=i)/\∀h' e tk,(∀c o,c≠z->c≠TO->(∀q∈S,c≠q.2.1)->s.heap.get? c=some o->h'.get? c=some o)->(∃o,h'.get? e=some o/\o.cls=.type "StopIteration")->E (.ref e) {s with heap:=h',toks:=tk}) :
  wpAny (model prog w) A (forIn ((S.map λq=>Value.ref q.2.1).zipIdx) b f) Q E s:=by
 rcases hh with ⟨us,dr,k⟩|⟨a,q,r,us,rfl,dr,hi,hx,k⟩
 ·exact zD D hf S us [] old s Q (λq h=>h) D.nd hz ht hn hl dr k
 ·exact y3 D hf he a us [] old s Q (λq h=>h) D.nd hz ht hn (by rw[show old.length=_ from hl,HX,Iq];lia) dr hi hx k
theorem E7{s:Shared}{T:Addr}{xs:List Value}{x:Value}{k:Nat}{Q:Unit->Shared->Prop}(hT:eF s.heap T xs)(hn:xs.length<=3)
  (h:∀h',eF h' T (xs.set k x)->Heap.SameBut T s.heap h'->Q () {s with heap:=h'}) :
  wpAny (model prog w) A (updateSeq T (·.setIfInBounds k x)) Q E s:=by
 refine wpAny_updateSeq (hz:=by rw[Im];exact Ia hn (by decide)) (_hz':=by rw[Array.size_setIfInBounds,Im];exact Ia hn (by decide)) hT rfl (h _ ?_ (J7 ..))
 show Heap.get? _ _=_;rw[JA _ hT rfl];simp[Obj.mapSeq]
theorem fT{α:Type}{P:α->β->Prop}{l:List α}{vs:List β}(h:Paired P l vs):vs.length=l.length:=by
 induction h with
 |nil=>rfl
 |cons _ _ ih=>exact IW (·+1) ih
theorem rY{g:Heap}{l:List Src}{vs:List Value}(k:∀q∈l,∀c o,c=q.2.1\/c=q.2.2->h.get? c=some o->g.get? c=some o)(r:Paired (oI i h) l vs):Paired (oI i g) l vs:=by
 induction r with
 |nil=>exact .nil
 |cons d _ ih=>exact .cons (d.kp (k _ Ij)) (ih λq hq=>k q (Ik _ hq))
theorem EU{s:Shared}{old:List Value}(D:Zn z TI TO S)(hS:S≠[])(hA:A.handled=none)(hz:IsZip s.heap z TI TO .none)(hTI:eF s.heap TI (S.map λq=>.ref q.2.1))(hTO:eF s.heap TO old)(hl:old.length=S.length)(hn:S.length<=3)
  (hh:(∃us,Paired (oI i s.heap) S us/\∀h' tk,IsZip h' z TI TO (rawInt s.heap.objs.size)->eF h' TO us->(∀q∈S,qo (i+1) h' q)->eF h' s.heap.objs.size us->(∀c o,c≠z->c≠TO->(∀q∈S,c≠q.2.1)->s.heap.get? c=some o->h'.get? c=some o)->Q (.ref s.heap.objs.size) {s with heap:=h',toks:=tk}) \/
   ∃a q r us,S=a++q::r/\Paired (oI i s.heap) a us/\qo i s.heap q/\(∃xs:Array Value,Bq s.heap q xs/\xs.size=i)/\∀h' e tk,(∀c o,c≠z->c≠TO->(∀q∈S,c≠q.2.1)->s.heap.get? c=some o->h'.get? c=some o)->(∃o,h'.get? e=some o/\o.cls=.type "StopIteration")->E (.ref e) {s with heap:=h',toks:=tk}) :
  wpAny (model prog w) A (Builtin.«zip.__next__» ⟨[.ref z],[]⟩) (λfin s'=>∃v,fin=.done (.ret v)/\Q v s') E s:=by
 obtain⟨q0,S',rfl⟩:=List.exists_cons_of_ne_nil hS;have zrec:=hz;show wpAny _ _ (field (.ref z) 2 >>= _) _ _ _;refine HU (Jp zrec rfl (x:=.bool false) rfl ?_);show wpAny _ _ (field (.ref z) 3 >>= _) _ _ _;refine HU (Jp zrec rfl (x:=.ref TI) rfl ?_);refine HU (KI hTI rfl ?_);show wpAny _ _ (Builtin.SmallTypes.ownedTupleIsFree (.ref z) >>= _) _ _ _;refine HU ?_;unfold Builtin.SmallTypes.ownedTupleIsFree;refine HU (Jp zrec rfl (x:=.none) rfl (Ii ?_));simp only[KG];refine HU (Np ?_);refine HU (Jp zrec rfl (x:=.ref TO) rfl ?_);refine HU (Lv zrec (by simp) λg1 zr1 sb1=>?_)
 replace zr1:IsZip g1 z TI TO .ellipsis:=zr1
 refine HU ?_;have old3:∀q∈q0::S',∀c o,c=q.2.1\/c=q.2.2->s.heap.get? c=some o->g1.get? c=some o:=λq hq c o hc e=>by
  rcases hc with rfl|rfl
  ·exact sb1.extBut _ _ (D.it q hq).1 e
  ·exact sb1.extBut _ _ (D.sr q hq).1 e
 refine yP D (i:=i) ?hf ?he (old:=old) zr1 (sb1.extBut _ _ D.zt.2.1 hTO) (by lia) hl (hh.imp (λ⟨us,dr,hQ⟩=>⟨us,rY old3 dr,?k⟩) λ⟨a,q,r,us,eS,dr,hi,hx,hE⟩=>⟨a,q,r,us,eS,rY (λp hp=>old3 p (by rw[eS];exact Jv _ hp)) dr,hi.kp λo=>old3 q (by rw[eS];exact Iy _ Ij) _ o (.inl rfl),(let ⟨xs,x1,x2⟩:=hx;⟨xs,x1.kp λo=>old3 q (by rw[eS];exact Iy _ Ij) _ o (.inr rfl),x2⟩),λh' e tk kp ho=>hE h' e tk (λc o c1 c2 c3 x=>kp c o c1 c2 c3 (sb1.extBut _ _ c1 x)) ho⟩)
 case hf =>
  intro q hq j arr u s1 Q1 hz1 ht1 hn1 d1 k1;obtain⟨hi,xs,hx,hu⟩:=d1;refine HU (wpAny_onRaise ?_);show wpAny _ _ (Builtin.SmallTypes.nextOf (.ref q.2.1) >>= _) _ _ _;have lt:i<xs.size:=(Iw.mp hu).1;refine HU ((rh q.1 hA q.2.1 q.2.2 ((D.sr q hq).2.2 q hq) xs).item i _ _ _ lt ⟨hi,hx⟩ λx g2 tk2 px st2 sb2=>Ii ?_);have ex:x=u:=by rw[hu] at px;exact (Option.some.inj px).symm
  subst ex;have to2:eF g2 TO arr:=sb2.extBut _ _ (D.it q hq).2.2.symm ht1;refine HU (KI to2 rfl ?_);refine HU (E7 to2 hn1 λg3 to3 sb3=>?_);refine HU (wpAny_letGo (Ii ?_));exact k1 g3 _ to3 (qo.kp (q:=q) st2.1 λo e=>sb3.extBut _ _ (D.it q hq).2.2 e) (λc o c1 c2 e=>sb3.extBut _ _ c1 (sb2.extBut _ _ c2 e)) (by rw[sb3.1,sb2.1])
 case he =>
  intro p hp j s1 Q1 hz1 hi1 hx1 k1;obtain⟨xs,hx1,hsz⟩:=hx1;refine HU (wpAny_onRaise ?_);show wpAny _ _ (Builtin.SmallTypes.nextOf (.ref p.2.1) >>= _) _ _ _;subst hsz;refine HU ((rh p.1 hA p.2.1 p.2.2 ((D.sr p hp).2.2 p hp) xs).done _ _ _ ⟨hi1,hx1⟩ λg2 e sb2 he=>?_);obtain⟨oe,hoe,hce⟩:=he;have zr2:IsZip g2 z TI TO .ellipsis:=sb2 _ _ (D.it p hp).1.symm hz1;have nez:e≠z:=λq=>by subst q;rw[zr2] at hoe;cases hoe;simp at hce
  exact Lv zr2 (by simp) λg3 _ sb3=>k1 g3 e _ (λc o e1 e3 q=>sb3.extBut _ _ e1 (sb2 _ _ e3 q)) ⟨oe,sb3.extBut _ _ nez hoe,hce⟩
 case k =>
  intro g2 tk z2 t2 a2 kp2 sz2;have hu3:us.length<=3:=by rw[fT dr];exact hn
  replace t2:eF g2 TO us:=t2
  show wpAny _ _ (seqItems? (.ref TO) >>= _) _ _ _;refine HU (KI t2 rfl ?_);refine HU (Nj ?_ (Ia hu3 (by decide)))
  have size2:g2.objs.size=s.heap.objs.size:=sz2.trans sb1.1;have zlt:z<g2.objs.size:=Io z2;show wpAny _ _ (Builtin.SmallTypes.ownedTupleHandOut (.ref z) (.ref g2.objs.size) >>= _) _ _ _;refine HU ?_;unfold Builtin.SmallTypes.ownedTupleHandOut;have zr6:IsZip (g2.push {cls:=.type "tuple",data:=.seq us.toArray}) z TI TO .ellipsis:=HW _ z2;refine HU (Lv zr6 (by simp) λg8 zr8 sb8=>?_)
  replace zr8:IsZip g8 z TI TO (rawInt g2.objs.size):=zr8
  refine Lv zr8 (by simp) λg9 zr9 sb9=>?_
  replace zr9:IsZip g9 z TI TO (rawInt g2.objs.size):=zr9
  have up:∀c o,c≠z->g2.get? c=some o->g9.get? c=some o:=λc o e1 q=>sb9.extBut _ _ e1 (sb8.extBut _ _ e1 (HW _ q));have pr8:eF g9 g2.objs.size us:=sb9.extBut _ _ (JM zlt) (sb8.extBut _ _ (JM zlt) (Ip _ rfl));rw[size2] at zr9 pr8;refine Ii ⟨_,rfl,?_⟩;show Q (.ref g2.objs.size) _;rw[size2];exact hQ g9 _ zr9 (up _ _ D.zt.2.1 t2) (λq hq=>(a2 q hq).kp λo e=>up _ o (D.it q hq).1 e) pr8 λc o e1 e2 e3 q=>up c o e1 (kp2 c o e2 e3 (sb1.extBut _ _ e1 q))
end
noncomputable def yW(K:W.Frag)(S:List Src):It:=
  ⟨λi H=>∃vs,Paired (λ(q:Src) v=>∃xs,iw K q.1 H q.2.2 xs/\xs[i]?=some v) S vs,
   λi H v H'=>∃p vs,Paired (λ(q:Src) x=>∀xs,iw K q.1 H q.2.2 xs->xs[i]?=some x) S vs/\H p=none/\v=.ref p/\H'=upd H p (.tup vs),
   λi H=>∃a q r vs,S=a++q::r/\Paired (λ(q:Src) v=>∃xs,iw K q.1 H q.2.2 xs/\xs[i]?=some v) a vs/\∃xs,iw K q.1 H q.2.2 xs/\xs.length=i⟩
section
variable {X:Cx} {pins:List (Addr×Obj)} {σ:St} {H:Hp} {s:Shared} {i:Nat}
theorem xJ(I:Inv X pins σ H s){l:List Src}{vs:List V}(hi:∀q∈l,qo i s.heap q)(h:Paired (λ(q:Src) v=>∃xs,iw X.K q.1 H q.2.2 xs/\xs[i]?=some v) l vs):∃us,Paired (oI i s.heap) l us/\Vals vs us/\Paired (λ(q:Src) x=>∀xs,iw X.K q.1 H q.2.2 xs->xs[i]?=some x) l vs:=by
 induction h with
 |nil=>exact⟨[],.nil,.nil,.nil⟩
 |cons d r ih =>
  obtain⟨us,h1,h2,h3⟩:=ih λp hp=>hi p (Ik _ hp);obtain⟨xs,hx,ex⟩:=d;obtain⟨its,rv,p1⟩:=I.m_ hx;obtain⟨u,hu,ru⟩:=rv.get ex;exact⟨u::us,.cons ⟨hi _ Ij,its.toArray,p1,by rw[Jf];exact hu⟩ h1,.cons ru h2,.cons (λys hy=>by rw[I.x9 hy hx];exact ex) h3⟩
end
theorem sQ{tk:Nat}{tp:Pos}(S:List Src)(z TI TO:Addr)(D:Zn z TI TO S)(hS:S≠[])(hn:S.length<=3):
  Turn P w K (.Tuple es tk tp) (yW K S) (z::TI::TO::S.map λq=>q.2.1) z (λi h=>IsZip h z TI TO .none/\eF h TI (S.map λq=>.ref q.2.1)/\(∃old,eF h TO old/\old.length=S.length)/\∀q∈S,qo i h q) where
 mem:=Ij
 obj:=λi h st c hc=>by
  obtain⟨s1,s2,⟨old,s3,_⟩,s4⟩:=st;rcases Ih.mp hc with rfl|hc
  ·exact⟨_,s1,λv q=>by cases q⟩
  rcases Ih.mp hc with rfl|hc
  ·exact⟨_,s2,λv q=>by cases q⟩
  rcases Ih.mp hc with rfl|hc
  ·exact⟨_,s3,λv q=>by cases q⟩
  obtain⟨q,hq,rfl⟩:=Jg.mp hc;obtain⟨o,e,_,d⟩:=jC.ty (s4 q hq);exact⟨o,e,λv q=>by rw[d] at q;cases q⟩
 keep:=λi h h' st k=>by
  obtain⟨s1,s2,⟨old,s3,s3'⟩,s4⟩:=st;exact⟨k z (by simp) _ s1,k TI (by simp) _ s2,⟨old,k TO (by simp) _ s3,s3'⟩,λq hq=>(s4 q hq).kp (k _ (Ik _ (Ik _ (Ik _ (JL (f:=λq:Src=>q.2.1) hq)))))⟩
 item:=by
  intro X hP hw hK hc i pins s σ H E I hf st hg;subst hP hw hK;obtain⟨vs,hg⟩:=hg;obtain⟨s1,s2,⟨old,s3,s3'⟩,s4⟩:=st;obtain⟨us,h1,h2,h3⟩:=xJ I s4 hg;have hT:s.TypeIs (.ref z) "zip":=⟨_,s1,rfl⟩;unfold pyNext;refine HU (Ld (Ju (name:=Str.ofString "__next__") hT PySem.F.slot_zip_next (Jx PySem.F.slot_zip_next hT PySem.F.entry_zip_next
   (EU D hS (I.ok.hd hc) s1 s2 s3 s3' hn (.inl ⟨us,h1,λh' tk' z1 t1 a1 pr kp=>Ii ?_⟩)) (PySem.F.args_zip_next_1 _))))
  have fr:H s.heap.objs.size=none:=I.aI.fresh (Ib _);have lt:∀{c o},s.heap.get? c=some o->s.heap.objs.size≠c:=λe=>JM (Io e);refine⟨.ref s.heap.objs.size,rfl,wpAny_letOwnedTupleGo_zip z1 λh2' z2 sb2=>?_⟩;have pr2:eF h2' s.heap.objs.size us:=sb2.extBut _ _ (lt s1) pr;have hvl:vs.length<=3:=by rw[fT hg];exact hn
  have I2:Inv X pins σ (upd H s.heap.objs.size (.tup vs)) {s with heap:=h2',toks:=tk'}:=by
   refine I.m8 (fp:=z::TI::TO::S.map λq=>q.2.1) hf (Ib _) (λc o hcm ec=>?_) ⟨Ia hvl (by decide),us,h2,⟨_,pr2,rfl,_,rfl,rfl⟩⟩
   simp only[Ih,not_or] at hcm;exact sb2.extBut _ _ hcm.1 (kp c o hcm.1 hcm.2.2.1 (λq hq e=>hcm.2.2.2 (by rw[e];exact JL (f:=λq:Src=>q.2.1) hq)) ec)
  refine⟨.ref s.heap.objs.size,_,I2,rfl,⟨s.heap.objs.size,vs,h3,fr,rfl,rfl⟩,⟨z2,?_,⟨us,?_,?_⟩,λq hq=>?_⟩,λc hcm=>?_⟩
  ·exact sb2.extBut _ _ D.zt.1 (kp _ _ D.zt.1 D.zt.2.2 (λq hq=>(D.it q hq).2.1.symm) s2)
  ·exact sb2.extBut _ _ D.zt.2.1 t1
  ·exact fT h1
  ·exact (a1 q hq).kp λo e=>sb2.extBut _ _ (D.it q hq).1 e
  ·have hn:=(hf c hcm).1;rw[ae]
   ·exact hn
   ·rcases Ih.mp hcm with rfl|hcm
    ·exact (lt s1).symm
    rcases Ih.mp hcm with rfl|hcm
    ·exact (lt s2).symm
    rcases Ih.mp hcm with rfl|hcm
    ·exact (lt s3).symm
    obtain⟨q,hq,rfl⟩:=Jg.mp hcm;obtain⟨o,e,_⟩:=jC.ty (s4 q hq);exact (lt e).symm
 done:=by
  intro X hP hw hK hc i pins s σ H E I hf st hg;subst hP hw hK;obtain⟨a,q,r,vs,eS,hg,xs,hx,hi⟩:=hg;obtain⟨s1,s2,⟨old,s3,s3'⟩,s4⟩:=st;obtain⟨us,h1,_,_⟩:=xJ I (λp hp=>s4 p (by rw[eS];exact Jv _ hp)) hg
  obtain⟨its,rv,p1⟩:=I.m_ hx;have hT:s.TypeIs (.ref z) "zip":=⟨_,s1,rfl⟩;unfold pyNext;refine HU (Ld (Ju (name:=Str.ofString "__next__") hT PySem.F.slot_zip_next (Jx PySem.F.slot_zip_next hT PySem.F.entry_zip_next
   (EU D hS (I.ok.hd hc) s1 s2 s3 s3' hn (.inr ⟨a,q,r,us,eS,h1,s4 q (by rw[eS];exact Iy _ Ij),⟨its.toArray,p1,by rw[Im,<- rv.length,hi]⟩,λh' e tk' kp he=>?_⟩)) (PySem.F.args_zip_next_1 _))))
  obtain⟨o,ho,hcl⟩:=he;refine HU (wpAny_isInstance (T:="StopIteration") (b:=true) ⟨o,ho,hcl⟩ isSubtype_stop (Ii ⟨rfl,?_⟩));refine I.turns (t':=tk') hf λc o hcm ec=>?_;simp only[Ih,not_or] at hcm;exact kp c o hcm.1 hcm.2.2.1 (λq hq e=>hcm.2.2.2 (by rw[e];exact JL (f:=λq:Src=>q.2.1) hq)) ec
 self:=λA i s Q E st h=>wpAny_pyIter_zip st.1 h
theorem bR.push{k:Bool}{xs:Array Value}(x:bR k h a xs)(o:Obj):bR k (h.push o) a xs:=by
 cases k with
 |true=>exact Heap.IsList.push x _
 |false=>exact uM x _
theorem jN{A:Around}{s:Shared}{k:Bool}{l:Addr}{items:Array Value}(hl:bR k s.heap l items)
  (hQ:Q (.ref s.heap.objs.size) {s with heap:=s.heap.push {cls:=.type (sY k),data:=.fields #[.ref l,.int 0 0]}}):wpAny (model prog w) A (pyIter (.ref l)) Q E s:=by
 cases k with
 |true=>exact L4 hl hQ
 |false=>exact K4 hl hQ
noncomputable def eU(h:Heap):List (Bool×Addr)->Heap
 |[]=>h
 |p::l=>eU (h.push {cls:=.type (sY p.1),data:=.fields #[.ref p.2,.int 0 0]}) l
noncomputable def dU(n:Nat):List (Bool×Addr)->List Src
 |[]=>[]
 |p::l=>(p.1,n,p.2)::dU (n+1) l
abbrev DL(h:Heap)(l:List (Bool×Addr)):Heap:=(eU h l).push {cls:=.type "tuple",data:=.seq ((dU h.objs.size l).map λq=>Value.ref q.2.1).toArray}
abbrev A7(h:Heap)(l:List (Bool×Addr)):Heap:=(DL h l).push {cls:=.type "tuple",data:=.seq ((dU h.objs.size l).map λ_=>Value.none).toArray}
abbrev xY(h:Heap)(l:List (Bool×Addr)):Heap:=(A7 h l).push {cls:=.type "zip",data:=.fields #[.none,.bool false,.bool false,.ref (eU h l).objs.size,.ref (DL h l).objs.size]}
theorem jh:∀(l:List (Bool×Addr)) (h:Heap),(eU h l).objs.size=h.objs.size+l.length
 |[],_=>rfl
 |p::l,h=>by rw[eU,jh l,JI,Iq];lia
theorem ib:∀(l:List (Bool×Addr)) {h:Heap} {c:Addr} {o:Obj},h.get? c=some o->(eU h l).get? c=some o
 |[],_,_,_,e=>e
 |p::l,_,_,_,e=>ib l (HW _ e)
theorem zG(l:List (Bool×Addr)):∀{h:Heap} (q:Src),q∈dU h.objs.size l->(eU h l).get? q.2.1=some {cls:=.type (sY q.1),data:=.fields #[.ref q.2.2,.int 0 0]}:=by
 induction l with
 |nil=>intro h q hq;cases hq
 |cons p l ih =>
  intro h q hq;rcases Ih.mp hq with rfl|hq
  ·exact ib l (Ip _ rfl)
  ·exact ih q (by rw[JI];exact hq)
theorem jF:∀(l:List (Bool×Addr)) (n:Nat),(dU n l).length=l.length
 |[],_=>rfl
 |_::l,n=>IW (·+1) (jF l (n+1))
theorem qU(l:List (Bool×Addr)):∀(n:Nat) (q:Src),q∈dU n l->n<=q.2.1/\q.2.1<n+l.length/\(q.1,q.2.2)∈l:=by
 induction l with
 |nil=>intro n q hq;cases hq
 |cons p l ih =>
  intro n q hq;rcases Ih.mp hq with rfl|hq
  ·exact⟨Ib _,by rw[Iq];show n<_;lia,Ij⟩
  ·obtain⟨h1,h2,h3⟩:=ih (n+1) q hq;exact⟨by lia,by rw[Iq];lia,Ik _ h3⟩
theorem rQ:∀(l:List (Bool×Addr)) (n:Nat),((dU n l).map λq=>q.2.1).Nodup
 |[],_=>List.nodup_nil
 |p::l,n=>by
  show (n::(dU (n+1) l).map λq=>q.2.1).Nodup;refine JK.mpr ⟨λh=>?_,rQ l (n+1)⟩;obtain⟨q,hq,e⟩:=Jg.mp h;have:=(qU l (n+1) q hq).1;rw[e] at this;lia
theorem sL(p q:Bool×Addr)(xs ys:Array Value):Meets (Builtin.«zip.__new__» ⟨[.type "zip",.ref p.2,.ref q.2],[]⟩) (λ_ R s=>bR p.1 s.heap p.2 xs/\bR q.1 s.heap q.2 ys/\R (.ok (.ret (.ref (A7 s.heap [p,q]).objs.size))) {s with heap:=xY s.heap [p,q]}):=
 .of_wp λprog w A R s h=>by
  obtain⟨hp,g,d,tk,os⟩:=s;obtain⟨q1,q2,h⟩:=h;have hsub:=sub_zip;have w1:bR p.1 (Shared.heap ⟨hp,g,d,tk,os⟩) p.2 xs:=q1;have w2:bR q.1 (Shared.heap ⟨hp.push {cls:=.type (sY p.1),data:=.fields #[.ref p.2,.int 0 0]},g,d,tk,os⟩) q.2 ys:=bR.push q2 _;wp_walk using jN w1,jN w2;refine⟨_,rfl,?_⟩;have e1:(hp.push {cls:=.type (sY p.1),data:=.fields #[.ref p.2,.int 0 0]}).objs.size=hp.objs.size+1:=JI ..;have h':=h;simp only[xY,A7,DL,eU,dU,IA,KD,<- e1] at h';exact h'
theorem sD(p q r:Bool×Addr)(xs ys zs:Array Value):Meets (Builtin.«zip.__new__» ⟨[.type "zip",.ref p.2,.ref q.2,.ref r.2],[]⟩) (λ_ R s=>bR p.1 s.heap p.2 xs/\bR q.1 s.heap q.2 ys/\bR r.1 s.heap r.2 zs/\R (.ok (.ret (.ref (A7 s.heap [p,q,r]).objs.size))) {s with heap:=xY s.heap [p,q,r]}):=
 .of_wp λprog w A R s h=>by
  obtain⟨hp,g,d,tk,os⟩:=s;obtain⟨q1,q2,q3,h⟩:=h;have hsub:=sub_zip;have w1:bR p.1 (Shared.heap ⟨hp,g,d,tk,os⟩) p.2 xs:=q1;have w2:bR q.1 (Shared.heap ⟨hp.push {cls:=.type (sY p.1),data:=.fields #[.ref p.2,.int 0 0]},g,d,tk,os⟩) q.2 ys:=bR.push q2 _;have w3:bR r.1 (Shared.heap ⟨(hp.push {cls:=.type (sY p.1),data:=.fields #[.ref p.2,.int 0 0]}).push {cls:=.type (sY q.1),data:=.fields #[.ref q.2,.int 0 0]},g,d,tk,os⟩) r.2 zs:=bR.push (bR.push q3 _) _;wp_walk using jN w1,jN w2,jN w3;refine⟨_,rfl,?_⟩;have e1:(hp.push {cls:=.type (sY p.1),data:=.fields #[.ref p.2,.int 0 0]}).objs.size=hp.objs.size+1:=JI ..;have e2:((hp.push {cls:=.type (sY p.1),data:=.fields #[.ref p.2,.int 0 0]}).push {cls:=.type (sY q.1),data:=.fields #[.ref q.2,.int 0 0]}).objs.size=(hp.push {cls:=.type (sY p.1),data:=.fields #[.ref p.2,.int 0 0]}).objs.size+1:=JI ..;have h':=h;simp only[xY,A7,DL,eU,dU,IA,KD,<- e1,<- e2] at h';exact h'
theorem jM(a b c:Value):checkTypeCall "zip" ⟨[a,b,c],[]⟩=pure ():=by kernel_rfl
theorem kA(a b c:Value):checkBuiltinCall "zip.__new__" ⟨[.type "zip",a,b,c],[]⟩=pure ():=by kernel_rfl
theorem nU(a b c d:Value):argsOk "object.__init__" ⟨[a,b,c,d],[]⟩:=by
 unfold argsOk;rw[signature?_of (id:="object.__init__") (n:=['_','_','t','i','n','i','_','_']) (o:=['t','c','e','j','b','o']) (by kernel_rfl) PySem.F.owner_object];kernel_rfl
section
variable {X:Cx} {es:List Expr} {tk:Nat} {tp:Pos}
theorem rp{s:Shared}{R:It->Hp->Prop}(I:Inv X pins σ H s)(l:List (Bool×Addr))(hne:l≠[])(h3:l.length<=3)(hq:∀p∈l,∃xs,iw X.K p.1 H p.2 xs)(q:∀n,R (yW X.K (dU n l)) H):
  (∃o,(xY s.heap l).get? (A7 s.heap l).objs.size=some o/\o.cls=.type "zip")/\wpAny (model X.prog X.w) X.A (pyIter (.ref (A7 s.heap l).objs.size)) (GL X pins σ (.Tuple es tk tp) R) X.xe {s with heap:=xY s.heap l}:=by
 have n1:(eU s.heap l).objs.size=s.heap.objs.size+l.length:=jh l _;have n2:(DL s.heap l).objs.size=s.heap.objs.size+l.length+1:=by rw[JI,n1]
 have n3:(A7 s.heap l).objs.size=s.heap.objs.size+l.length+2:=by rw[JI,n2]
 have p3:(xY s.heap l).get? (A7 s.heap l).objs.size=some _:=Ip _ rfl;have p2:(xY s.heap l).get? (DL s.heap l).objs.size=some _:=HW _ (Ip _ rfl);have p1:(xY s.heap l).get? (eU s.heap l).objs.size=some _:=HW _ (HW _ (Ip _ rfl));have up:∀{c o},(eU s.heap l).get? c=some o->(xY s.heap l).get? c=some o:=λe=>HW _ (HW _ (HW _ e));rw[n1,n2,n3] at p3;rw[n2] at p2;rw[n1] at p1;rw[n3];refine⟨⟨_,p3,rfl⟩,wpAny_pyIter_zip p3 ?_⟩;have I2:Inv X pins σ H {s with heap:=xY s.heap l}:=I.kept (t':=s.toks) λc o e=>up (ib l e)
 have bd:=qU l s.heap.objs.size;have lt:∀p∈l,p.2<s.heap.objs.size:=λp hp=>by
  obtain⟨xs,hx⟩:=hq p hp;obtain⟨its,_,p1⟩:=I.m_ hx;obtain⟨o,e,_⟩:=p1.ty;exact Io e
 have D:Zn (s.heap.objs.size+l.length+2) (s.heap.objs.size+l.length) (s.heap.objs.size+l.length+1) (dU s.heap.objs.size l):=by
  have nl:∀(a b:Nat),a<b->a≠b:=λa b h=>Iz h;refine⟨⟨nl _ _ (by lia),nl _ _ (by lia),nl _ _ (by lia)⟩,λq hq'=>?_,λq hq'=>?_,rQ l _⟩
  ·have:=(bd q hq').2.1;exact⟨nl _ _ (by lia),nl _ _ (by lia),nl _ _ (by lia)⟩
  ·have h1:=lt _ (bd q hq').2.2;refine⟨nl _ _ (by show q.2.2<_;have:q.2.2<s.heap.objs.size:=h1;lia),nl _ _ (by have:q.2.2<s.heap.objs.size:=h1;lia),λp hp=>nl _ _ (ID h1 (bd p hp).1)⟩
 refine⟨_,_,_,_,H,rfl,I2,sQ (dU s.heap.objs.size l) _ _ _ D (λe=>?_) (by rw[jF];exact h3),⟨p3,p1,⟨_,p2,HY ..⟩,λq hq'=>Fd (up (zG l q hq'))⟩,λc hc=>?_,q _⟩
 ·have:=jF l s.heap.objs.size;rw[e] at this;exact hne (Kx.mp this.symm)
 ·have hc':s.heap.objs.size<=c:=by
   rcases Ih.mp hc with rfl|hc
   ·lia
   rcases Ih.mp hc with rfl|hc
   ·lia
   rcases Ih.mp hc with rfl|hc
   ·lia
   obtain⟨q,hq',rfl⟩:=Jg.mp hc;exact (bd q hq').1
  exact I.mH hc' (I.aI.fresh hc')
noncomputable def xr(K:W.Frag)(ta:TA):TI:=λσ H R=>ta σ H λvs H1=>∃p q:Bool×Addr,vs=[.ref p.2,.ref q.2]/\(∃xs,iw K p.1 H1 p.2 xs)/\(∃ys,iw K q.1 H1 q.2 ys)/\∀n,R (yW K (dU n [p,q])) H1
theorem yM{e1 e2:Expr}{pos:Pos}(hg:Gl X "zip")(hm:X.mg "zip"=none)(ha:PA X [e1,e2] ta)(h1:autoParam (cG e1=true) ℜ0)(h2:autoParam (cG e2=true) ℜ0)(hv:autoParam (bootBuiltins "zip"=some (.type "zip")) ℜ6):
  PI X (.Tuple es tk tp) (.Call (.Name "zip" p) [e1,e2] [] pos) (xr X.K ta):=by
 intro pins s σ H R I h;refine Call_ (dO I hg hm hv (Jo (bD (ha pos pins s σ H _ I h) λus s1 hq1=>?_) (by rw[bF h1,bF h2]) (by rw[bF h2];rfl)))
 obtain⟨vs,H1,I1,r1,q1⟩:=hq1;obtain⟨a,b,e,⟨xs,hx⟩,⟨ys,hy⟩,q⟩:=q1;subst e;obtain⟨u,w',rfl,ru,rw'⟩:=vals2 r1
 cases ru;cases rw'
 obtain⟨its1,_,p1⟩:=I1.m_ hx;obtain⟨its2,_,p2⟩:=I1.m_ hy;refine M3 F.called_zip (by decide) (F.typeCall_zip_2 _ _) (F.newCall_zip_2 _ _) (λobj=>F.args_object_init_3 obj _ _) F.entry_zip_new (sL a b _ _) ⟨p1,p2,rp I1 [a,b] (by simp) (JT 2) (λp hp=>?_) q⟩
 simp only[Ih,IT,JW] at hp;rcases hp with rfl|rfl
 ·exact⟨xs,hx⟩
 ·exact⟨ys,hy⟩
noncomputable def wx(K:W.Frag)(ta:TA):TI:=λσ H R=>ta σ H λvs H1=>∃p q r:Bool×Addr,vs=[.ref p.2,.ref q.2,.ref r.2]/\(∃xs,iw K p.1 H1 p.2 xs)/\(∃ys,iw K q.1 H1 q.2 ys)/\(∃zs,iw K r.1 H1 r.2 zs)/\∀n,R (yW K (dU n [p,q,r])) H1
theorem vals3{x y z:V}{us:List Value}(r:Vals [x,y,z] us):∃u w' q,us=[u,w',q]/\RelV x u/\RelV y w'/\RelV z q:=by
 obtain⟨u,us,rfl,h1,r⟩:=Paired.d6 r;obtain⟨v,w',rfl,h2,h3⟩:=vals2 r;exact⟨u,v,w',rfl,h1,h2,h3⟩
theorem yI{e1 e2 e3:Expr}{pos:Pos}(hg:Gl X "zip")(hm:X.mg "zip"=none)(ha:PA X [e1,e2,e3] ta)(h1:autoParam (cG e1=true) ℜ0)(h2:autoParam (cG e2=true) ℜ0)(h3:autoParam (cG e3=true) ℜ0)(hv:autoParam (bootBuiltins "zip"=some (.type "zip")) ℜ6):
  PI X (.Tuple es tk tp) (.Call (.Name "zip" p) [e1,e2,e3] [] pos) (wx X.K ta):=by
 intro pins s σ H R I h;refine Call_ (dO I hg hm hv (Jo (bD (ha pos pins s σ H _ I h) λus s1 hq2=>?_) (by rw[bF h1,bF h2,bF h3]) (by rw[bF h2,bF h3];rfl)))
 obtain⟨vs,H1,I1,r1,q1⟩:=hq2;obtain⟨a,b,c,e,⟨xs,hx⟩,⟨ys,hy⟩,⟨zs,hz⟩,q⟩:=q1;subst e;obtain⟨u,w',t',rfl,ru,rw',rt'⟩:=vals3 r1
 cases ru;cases rw';cases rt'
 obtain⟨its1,_,p1⟩:=I1.m_ hx;obtain⟨its2,_,p2⟩:=I1.m_ hy;obtain⟨its3,_,p3⟩:=I1.m_ hz;refine M3 F.called_zip (by decide) (jM _ _ _) (kA _ _ _) (λobj=>nU obj _ _ _) F.entry_zip_new (sD a b c _ _ _) ⟨p1,p2,p3,rp I1 [a,b,c] (by simp) (Ib 3) (λp hp=>?_) q⟩
 simp only[Ih,IT,JW] at hp;rcases hp with rfl|rfl|rfl
 ·exact⟨xs,hx⟩
 ·exact⟨ys,hy⟩
 ·exact⟨zs,hz⟩
end
theorem p_{x:Value}{e1 e2:Env}(h:e1.frame=e2.frame):noteFrame x e1=noteFrame x e2:=by
 unfold noteFrame PySem.frameOf;rw[h]
section
variable {M:Model} {A:Around} {E:Value->Shared->Prop} {s:Shared} {env:Env} {outer:List Env} {L e:Addr} {cls:Value} {d:Option Addr} {base:Heap}
theorem v_{To:Option Addr}{Q:Unit->Shared->Prop}(hfr:A.frames=some (env::outer))(hf:env.frame=some L)(hl:s.heap.FunFrames base (env::outer))(f:Fl s.heap e cls d To)
  (hq:∀h' T',Mv s.heap h' e To (gN (env::outer)) T'->Fl h' e cls d (some T')->Q () {s with heap:=h'}):wpAny M A (noteFrame (.ref e) env) Q E s:=by
 unfold noteFrame;simp only[hf]
 cases To with
 |none =>
  obtain⟨oe,vs,g1,g2,g3,g4,g5⟩:=id f;have hsz:=(Iw.mp g5).1;refine HU (Jp g1 g4 g5 ?_);rw[H_ (by decide)]
  refine ja hfr hf hl g1 g4 hsz λh1 T' oT ts k1 k2 k3 k4 k5 k6 k7 k8 k9=>?_;exact hq h1 T' ⟨λb o n1 _ n3 q=>k1 b o n1 n3 q,λb o m q=>k2 b o m q,.inl k3,k9⟩ ⟨_,_,_,_,k4,g2,g3,rfl,by simp[hsz],k8,k5,k6,(Iw.mp k7).1⟩
 |some T =>
  obtain⟨oe,vs,oT,ts,g1,g2,g3,g4,g5,g6,g7,g8,g9⟩:=id f;have hsz:=(Iw.mp g5).1;have nfT:=f.n4 hl;refine HU (Jp g1 g4 g5 ?_);rw[Ig (by simp)]
  refine HU (Jp g7 g8 (JR g9) ?_);by_cases cL:(ts[3] == rawInt L)=true
  ·rw[Ig cL];refine Ii ?_;have:=hq s.heap T ⟨λb o _ _ _ q=>q,λb o _ q=>⟨o.slots,q⟩,.inr rfl,nfT⟩ f;exact this
  rw[H_ cL];refine HU (gx g7 g8 g9 λh0 i1 i2=>?_);have hl0:h0.FunFrames base (env::outer):=hl.of_keeps λb o q hn=>⟨o,(i1 b λz=>by rw[z,g7] at q;cases q;exact hn ts g8).trans q,rfl⟩
  refine ja (s:={s with heap:=h0}) hfr hf hl0 ((i1 e (I_ g6)).trans g1) g4 hsz λh1 T' oT' ts' k1 k2 k3 k4 k5 k6 k7 k8 k9=>?_
  have nTT:T'≠T:=λz=>by
   have k3':h0.get? T'=none:=k3;rw[z,i2] at k3';cases k3'
  refine hq h1 T' ⟨λb o n1 n2 n3 q=>k1 b o n1 n3 ((i1 b (n2 T rfl)).trans q),λb o m q=>?_,.inl ((i1 T' nTT).symm.trans k3),k9⟩ ⟨_,_,_,_,k4,g2,g3,rfl,by simp[hsz],k8,k5,k6,(Iw.mp k7).1⟩
  have nbT:b≠T:=λz=>nfT (by rw[<- z];exact m)
  exact k2 b o m ((i1 b nbT).trans q)
theorem zw{T:Addr}{l:List Env}{fr:Option Addr}{Q:Unit->Shared->Prop}(hl:s.heap.FunFrames base l)(f:Fl s.heap e cls d (some T))
  (hq:∀h',Mv s.heap h' e (some T) (gN l) T->Fl h' e cls d (some T)->Q () {s with heap:=h'}):wpAny M A (setFlight (.ref e) fr) Q E s:=by
 have nfT:=f.n4 hl;obtain⟨oe,vs,oT,ts,g1,g2,g3,g4,g5,g6,g7,g8,g9⟩:=id f;unfold setFlight;refine HU (Jp g1 g4 g5 ?_);rw[Ig (by simp)]
 refine gx g7 g8 g9 λh2 j1 j2=>?_;refine hq h2 ⟨λb o n1 n2 n3 q=>(j1 b (n2 T rfl)).trans q,λb o m q=>⟨o.slots,(j1 b λz=>nfT (by rw[<- z];exact m)).trans q⟩,.inr rfl,nfT⟩ ⟨_,_,_,_,(j1 e (I_ g6)).trans g1,g2,g3,g4,g5,g6,j2,rfl,?_⟩
 simp[g9]
theorem tB{T:Addr}{l:List Env}{what:String}{cenv:Env}(hl:s.heap.FunFrames base l)(f:Fl s.heap e cls d (some T))
  (hq:∀h',Mv s.heap h' e (some T) (gN l) T->Fl h' e cls d (some T)->E (.ref e) {s with heap:=h'}):wpAny M A (PySem.passOn what (.ref e) cenv:Sem Value) Q E s:=by
 obtain⟨oe,vs,oT,ts,g1,g2,g3,g4,g5,g6,g7,g8,g9⟩:=id f;unfold PySem.passOn;refine HU (Jp g1 g4 g5 ?_);rw[H_ (by simp)]
 refine HU (zw hl f λh' m f'=>?_);exact wpAny_throw (hq h' m f')
end
noncomputable def eL(X:Cx)(scope:Scope)(N:List Str)(C:Addr)(s:Shared)(H:Hp)(fp:List Addr)(XE:Value->Shared->Prop):Cx:={ay X scope N C s H fp with xe:=XE}
section
variable {X:Cx} {scope:Scope} {N:List Str} {C:Addr} {s0:Shared} {H0:Hp} {fp:List Addr} {XE:Value->Shared->Prop} {pins:List (Addr×Obj)} {σ:St} {H:Hp} {s:Shared}
theorem Inv.Gu(I:Inv (ay X scope N C s0 H0 fp) pins σ H s):Inv (eL X scope N C s0 H0 fp XE) pins σ H s:=
 ⟨⟨I.ok.mod,I.ok.kind,I.ok.glob,I.ok.blt,I.ok.above,I.ok.inj,I.ok.has,I.ok.xT,I.ok.hd,I.ok.frames,I.ok.yn,I.ok.AU,I.ok.bs,I.ok.pd,I.ok.jP,I.ok.kr,I.ok.eX,I.ok.u0,I.ok.tabs⟩,
  I.os,I.bare,I.base,I.loc,I.cell,I.free,I.bW,I.pin,I.aI,I.len⟩
theorem Inv.E1(I:Inv (eL X scope N C s0 H0 fp XE) pins σ H s):Inv (ay X scope N C s0 H0 fp) pins σ H s:=
 ⟨⟨I.ok.mod,I.ok.kind,I.ok.glob,I.ok.blt,I.ok.above,I.ok.inj,I.ok.has,I.ok.xT,I.ok.hd,I.ok.frames,I.ok.yn,I.ok.AU,I.ok.bs,I.ok.pd,I.ok.jP,I.ok.kr,I.ok.eX,I.ok.u0,I.ok.tabs⟩,
  I.os,I.bare,I.base,I.loc,I.cell,I.free,I.bW,I.pin,I.aI,I.len⟩
end
noncomputable def Ga(X:Cx)(e:Expr)(t:TE):Prop:=∀(pins:List (Addr×Obj)) (s:Shared) (σ:St) (H:Hp) (Q:VK),(∀b∈X.ex,∃o,(b,o)∈pins)->Inv X pins σ H s->t σ H Q->wpAny (model X.prog X.w) X.A (eval e X.env) (EP X pins σ Q) X.xe s
section
variable {X:Cx}
theorem A0{k:Nat}{ps:List Str}{pos:Pos}{t:TA}(F:ai X.prog X.w X.K X.mg X.base (mM X.prog X.w) k x ps sp)(hr:bj k X.A)(hg:Gl X x)(ha:PA X (e::es) t)(h1:autoParam (cG e=true) ℜ0)(h2:autoParam (es.all cG=true) ℜ0)(hdb:autoParam ((x ==("__debug__":Str))=false) ℜ1):
  Ga X (.Call (.Name x p) (e::es) [] pos) (vY X sp t):=by
 intro pins s σ H Q hcov I h;obtain⟨f,fd,hm,hk,hb,G⟩:=F.ex;refine JC (d5 I hg hm ?_ hdb);refine M0 (h₀:=X.base) I.ok.mod.j_ hk (bD (ha pos pins s σ H _ I h) λus s1 ⟨vs,H1,I1,r,q⟩=>⟨I1.fo,?_⟩) (bF h1) (plain_any h2);have hl:us.length=ps.length:=by rw[<- r.length];exact G.len _ _ _ _ q
 have hb2:=hb s1 us I1.fo (by rw[Jd];exact hl)
 rw[Jd] at hb2;refine KP (LK (G.run X.A X.stack s1 H1 ⟨us,[]⟩ us vs Q (Cj X σ H1) hr I1.A2 hb2 r q) λr s' hq=>?_)
 cases r with
 |error e =>
  obtain⟨ea,T,cls,d,H',rfl,ho,hbare,un,aI,fl,n1,n3,n2,tr,nT,ea',d',hea,tr',hd⟩:=hq;cases hea;obtain⟨_,rfl⟩:=fl.is.one (show hV ea cls d' s'.heap from (aI _ _ tr').1);have I2:=I1.xX (ch:=[]) ho un aI hbare (λb z=>absurd z (by simp))
  have n0:∀b,s1.heap.get? b=none->X.s₀.heap.get? b=none:=λb z=>by
   cases q2:X.s₀.heap.get? b with
   |none=>rfl
   |some o =>
    by_cases m:b∈X.ex
    ·obtain⟨o2,h2⟩:=hcov b m;have:=(I1.pin (b,o2) (Iy _ h2)).1;rw[z] at this;cases this
    ·obtain⟨o',q3⟩:=I1.base.there b o q2 m;rw[z] at q3;cases q3
  exact hd (I1.aI.none_of n1) (λa z=>I1.aI.none_of (n3 a z)) pins s' (some T) I2 fl ⟨tr,n0 _ n1,λa z=>n0 _ (n3 a z),λT' hT=>by
   cases hT;exact⟨nT,n0 _ n2,λp hp z=>by rw[<- z,(I1.pin p hp).1] at n2;cases n2⟩⟩
 |ok fl =>
  cases fl with
  |ret u=>exact I1.after hq
  |next=>exact False.elim hq
  |brk=>exact False.elim hq
  |cont=>exact False.elim hq
end
noncomputable def Ef(X:Cx)(scope:Scope)(N:List Str)(σ:St)(C:Addr)(s3:Shared)(H3:Hp)(fp:List Addr)(v:Value)(s':Shared):Prop:=∃(pins':List (Addr×Obj)) (σ':St) (H':Hp) (e:Addr) (cls:Value) (d To:Option Addr),v=.ref e/\Inv (ay X scope N C s3 H3 fp) pins' σ' H' s'/\Fl s'.heap e cls d To/\Nw (ay X scope N C s3 H3 fp) pins' H' e cls d To/\f_ X cls d e σ H'
theorem pB{pos:Pos}{wi:TI}(hex:X.ex=[])(hst:X.stack=X.env::X.outer)(hfm:X.env.frame=some X.env.locals)(S:aG osc ON scope own N)(hosc:X.env.scope=osc)(hON:X.N=ON)(hc:X.calm=true)(hi:PI X tg iter wi)
  (hg:∀C s H fp,PG (ay X scope N C s H fp) tg g) (ht:∀C s H fp,zP (ay X scope N C s H fp) ifs tc) (he:∀C s H fp XE (G:Value->Option Addr->Addr->Hp->Prop),(∀cls d e σ' H',G cls d e H'->f_ (eL X scope N C s H fp XE) cls d e σ' H')->Ga (eL X scope N C s H fp XE) elt (te G))
     {s:Shared} {Q:VK} (I:Inv X pins σ H s) (h:dZ wi own.length g tc (te λcls d e H'=>f_ X cls d e σ H') σ H Q) {RR:Value->Addr->Result->Shared->Prop}
  (fin:∀(D C:Addr) (H':Hp) (s':Shared) (m:Str->Option Value),Inv X pins σ H' s'->Q (.ref D) H'->H' C=none->X.s₀.heap.objs.size<=C->C≠X.env.locals->(∀x c,X.env.cells.lookup x=some c->c≠C)->(∀p∈X.pn++pins,p.1≠C) ->
   s'.heap.Ns C m->RR (.ref D) C (.ok .next) s')
  (finX:∀(D C:Addr) (H':Hp) (s':Shared) (m:Str->Option Value) (e T:Addr) (cls:Value) (d:Option Addr),Inv X pins σ H' s'->Fl s'.heap e cls d (some T)->Nw X pins H' e cls d (some T)->f_ X cls d e σ H'->H' C=none->X.s₀.heap.objs.size<=C->C≠X.env.locals->(∀x c,X.env.cells.lookup x=some c->c≠C)->(∀p∈X.pn++pins,p.1≠C) ->
   s'.heap.Ns C m->RR (.ref D) C (.error (.ref e)) s') :
  wpAny (model X.prog X.w) X.A (eval iter X.env) (λx s₁=>wpAny (model X.prog X.w) X.A (pyIter x) (λit s₂=>wpAny (model X.prog X.w) X.A (newList []) (λacc s₃ =>
   wpAny (model X.prog X.w) X.A (newFunctionEnv scope X.env.globals (cT X.env.cells scope.names []) [] X.env.qual none .none (some X.env)) (λcenv s₄ =>
    codeAny (model X.prog X.w) X.A (.compStart (.ListComp elt [⟨tg,iter,ifs,0⟩] scope pos) 0 it acc {cenv with scope:=relabel scope X.env}) (RR acc cenv.locals) s₄) X.xe s₃) X.xe s₂) X.xe s₁) X.xe s:=by
 refine jT S hosc hON hc hi hg ht (Ef X scope N σ) (λC s3 H3 fp pins' s9 σ8 H9 Q' hcov I9 q9=>?_) I h fin ?_
 ·refine bD (he C s3 H3 fp (Ef X scope N σ C s3 H3 fp) (λcls d e H'=>f_ X cls d e σ H') (λcls d e σ' H' g pins' s' To I f nw=>⟨pins',σ',H',e,cls,d,To,rfl,I.E1,f,⟨nw.tr,nw.e0,nw.d0,nw.t0⟩,g⟩) _ s9 σ8 H9 _ hcov I9.Gu q9) λy s10 hq6=>?_;obtain⟨v10,H10,I10,r⟩:=hq6;exact⟨v10,H10,I10.E1,r⟩
 ·rintro D C s3 H3 fp rfl I3 outI o1 o2 o3 o4 _ s' ⟨pins',σ',H',e,cls,d,To,rfl,I',f',nw',g⟩;have n0:∀b,s3.heap.get? b=none->X.s₀.heap.get? b=none:=λb z=>by
   cases q2:X.s₀.heap.get? b with
   |none=>rfl
   |some o =>
    obtain⟨o',q3⟩:=I3.base.there b o q2 (by rw[hex];simp)
    rw[z] at q3;cases q3
  have IX:=outI I';have nwX:Nw X pins H' e cls d To:=⟨nw'.tr,n0 e nw'.e0,λa z=>n0 a (nw'.d0 a z),λT hT=>⟨(nw'.t0 T hT).1,n0 T (nw'.t0 T hT).2.1,λp hp z=>by
   have q1:s3.heap.get? T=none:=(nw'.t0 T hT).2.1;rw[<- z,(I3.pin p hp).1] at q1;cases q1⟩⟩
  unfold notedBy;rw[show noteFrame (.ref e) (ay X scope N s3.heap.objs.size s3 H3 fp).env=noteFrame (.ref e) X.env from p_ rfl];refine v_ (base:=X.base) (outer:=X.outer) (by rw[<- hst];exact IX.ok.frames) hfm (by rw[<- hst];exact IX.stack) f' λh' T' mv f2=>?_
  rw[<- hst] at mv;obtain⟨I2,nw2⟩:=IX.moved hex f' nwX mv f2;obtain⟨m,⟨o,es,ep,ho,r⟩,_⟩:=I'.loc;have hC':H' s3.heap.objs.size=none:=I'.free;refine finX D _ H' _ m e T' cls d I2 f2 nw2 g hC' o1 o2 o3 o4 ⟨o,es,ep,mv.keep _ o (λz=>?_) (λT hT z=>?_) (λz=>?_) ho,r⟩
  ·have q1:=nw'.tr;rw[<- z] at q1;have q2:H' s3.heap.objs.size=_:=q1;rw[hC'] at q2;cases q2
  ·subst hT;obtain⟨_,_,oT,ts,_,_,_,_,_,_,hT,hdT,_⟩:=f';rw[<- z] at hT;have ho':s'.heap.get? s3.heap.objs.size=some o:=ho;have hT':s'.heap.get? s3.heap.objs.size=some oT:=hT;rw[hT'] at ho';cases ho';obtain⟨hd,_⟩:=r;rw[hdT] at hd;cases hd
  ·obtain⟨_,o5,ho5,_⟩:=I3.stack.mem z;exact absurd (Io ho5) (JN _)
noncomputable def Bu(X:Cx)(wi:TI)(k:Nat)(g:TG)(tc:TT)(te:(Value->Option Addr->Addr->Hp->Prop)->TE):TE:=λσ H Q=>dZ wi k g tc (te λcls d e H'=>f_ X cls d e σ H') σ H Q
theorem wz{pos:Pos}{wi:TI}(hex:X.ex=[])(hst:X.stack=X.env::X.outer)(hfm:X.env.frame=some X.env.locals)(S:aG osc ON scope own N)(hosc:X.env.scope=osc)(hON:X.N=ON)(hc:X.calm=true)(hi:PI X tg iter wi)
  (hg:∀C s H fp,PG (ay X scope N C s H fp) tg g) (ht:∀C s H fp,zP (ay X scope N C s H fp) ifs tc) (he:∀C s H fp XE (G:Value->Option Addr->Addr->Hp->Prop),(∀cls d e σ' H',G cls d e H'->f_ (eL X scope N C s H fp XE) cls d e σ' H')->Ga (eL X scope N C s H fp XE) elt (te G))
  (hs:autoParam (∀x,foldedSetIterable iter X.env x=pure x) ℜ3) :
  PE X (.ListComp elt [⟨tg,iter,ifs,0⟩] scope pos) (Bu X wi own.length g tc te):=by
 intro pins s σ H Q I h;have hfr:∀y∈scope.names,y.2=.free->∃c,X.env.cells.lookup y.1=some c:=λy hy hf=>I.ok.has _ (by subst hosc;exact S.free y hy hf)
 rw[eval_ListComp];refine Lr (use:=none) rfl hs (dQ hfr) S.kind S.loc ?_;refine pB hex hst hfm S hosc hON hc hi hg ht he I h (RR:=λacc C=>compPost (model X.prog X.w) X.A X.xe none (EP X pins σ Q) acc C) ?_ ?_
 ·intro D C H' s' m I' q h1 h2 h3 h4 h5 hn;exact⟨m,hn,λh'' hs''=>⟨.ref D,H',I'.turned (t':=s'.toks) (λb o hb e=>(hs''.2 b hb).trans e) h1 h3 (.inr h2) h4 h5,rfl,q⟩⟩
 ·intro D C H' s' m e T cls d I' f nw g h1 h2 h3 h4 h5 hn;refine⟨m,hn,λh'' hs'' cenv hce=>?_⟩;have I2:Inv X pins σ H' {s' with heap:=h''}:=I'.turned (t':=s'.toks) (λb o hb e=>(hs''.2 b hb).trans e) h1 h3 (.inr h2) h4 h5
  have f2:Fl h'' e cls d (some T):=by
   obtain⟨oe,vs,oT,ts,g1,g2,g3,g4,g5,g6,g7,g8,g9⟩:=f;have ne:e≠C:=λz=>by
    have:=nw.tr;rw[z,h1] at this;cases this
   have nT:T≠C:=λz=>by
    obtain⟨o,es,ep,ho,hd,_⟩:=hn;rw[<- z,g7] at ho;cases ho;rw[g8] at hd;cases hd
   exact⟨oe,vs,oT,ts,(hs''.2 e ne).trans g1,g2,g3,g4,g5,g6,(hs''.2 T nT).trans g7,g8,g9⟩
  refine tB (base:=X.base) (l:=X.stack) I2.stack f2 λh3' mv f3=>?_;obtain⟨I3,nw3⟩:=I2.moved hex f2 nw mv f3;exact g pins _ _ I3 f3 nw3
abbrev CT:=Value->Option Addr->Addr->Hp->Prop
namespace Z
theorem HL:QS X st (λ_ _ _=>False):=⟨λ_ _ _ _ _ _ h=>h.elim⟩
theorem HM{o:Expr}{to:TE}{pos:Pos}(K:W.Frag)(hK:X.K=K){name:Str}{apos:Pos}{T id:String}{r:V->List V->Hp->VK->Prop}(pa:PlainAttrs T)(slot:Slot T name id)(hty:typeOf (.builtin id)=pure (.type "method_descriptor"))(hm:uI X id r)(ho:QE X o to)
  (hbase:autoParam (attributeBase o name X.env (eval o X.env)=eval o X.env) ℜ0) (hline:autoParam ((apos.endLine == pos.line)=true) ℜ0):QE X (.Call (.Attribute o name apos) [] [] pos) (vJ K T r to):=by
 subst hK;exact⟨CF pa slot hty hm ho.h hbase hline⟩
theorem nS(K:W.Frag)(hK:X.K=K):uf X (BN K):=by subst hK;exact pG
end Z
theorem Hr{H':Hp}(h:bq K H a xs)(k:KB [] H H'):bq K H' a xs:=bq.same (λb o z=>k b o z (by simp)) h
namespace Z
theorem Hl{te:TE}{pos:Pos}{d:Addr}{D:List (Str×List Str)}(K:W.Frag)(hK:X.K=K)(hg:Gl X x)(hm:X.mg x=some (.ref d))(hd:kx K d D)(he:QE X e te)(hs:wO e:=by exactλ_ _=>rfl)(hdb:autoParam ((x ==("__debug__":Str))=false) ℜ1):QE X (.Subscript (.Name x p) e pos) (yf K D te):=by
 subst hK;exact⟨B3 (rE hg hm rfl hdb) hd he.h hs⟩
theorem Hq{l:Expr}{tl:TE}(hl:QE X l tl):QI X tg l (x5 tl):=⟨Dz hl.h⟩
theorem AL{pos:Pos}(K:W.Frag)(hK:X.K=K){k:Nat}{tp:Pos}(hg:Gl X "enumerate")(hm:X.mg "enumerate"=none)(ha:QA X [e] ta)(h1:autoParam (cG e=true) ℜ0):QI X (.Tuple es k tp) (.Call (.Name "enumerate" p) [e] [] pos) (jR K ta):=by
 subst hK;exact⟨wQ hg hm ha.h h1⟩
theorem FK{t:TA}{pos kpos lpos p1 p3:Pos}{y z:Str}{c Pt d:Addr}{j:Nat}{params:Arguments}{k:Nat}(K:W.Frag)(hK:X.K=K)(hx:z∈cZ)(ht:W.tabIn K z=some (c,Pt))(hcode:X.env.code=.ref c)(hq:X.env.qual=z++".<locals>.")(hdef:defaultsOf params X.env=([],[]))(hcl:closureFor scope X.env=pure [(y,d)])
  (hg:Gl X "sorted") (hm:X.mg "sorted"=none) (ha:QA X [e] t) (hr:bj (k+3) X.A)
  (hsc:scope={kind:=.function,names:=[(x,.local),(y,.free)],isGenerator:=false,isCoroutine:=false,more:=[]}) (hxy:y≠x) (hx1:(x ==("__debug__":Str))=false) (hx2:(x ==("__classdict__":Str))=false) (hy1:(y ==("__debug__":Str))=false) (hy2:(y ==("__classdict__":Str))=false)
  (hj:X.N[j]?=some y) (hyc:X.env.scope.names.lookup y=some .cell) (hyl:X.env.cells.lookup y=some d)
  (hbind:∀c' pm ctv u,bindArgs (W.kla_fn "<lambda>" ((z++".<locals>.")++"<lambda>") params (.Subscript (.Name y p1) (.Name x p2) p3) scope [(y,d)] pm (.ref c') ctv) ⟨[u],[]⟩=pure [(x,u)]) (h1:autoParam (cG e=true) ℜ0) :
  QE X (.Call (.Name "sorted" p) [e] [⟨some "key",.Lambda params (.Subscript (.Name y p1) (.Name x p2) p3) scope lpos,kpos⟩] pos) (j6 K j t):=by
 subst hK;exact⟨wM hg hm ha.h h1 hr (B1 hx ht hcode hq hdef hcl) hsc hxy hx1 hx2 hy1 hy2 hj hyc hyl hbind⟩
theorem DW(K:W.Frag)(hK:X.K=K):cR X (compareOp .In) (FU K false):=by subst hK;exact kJ
theorem EO{pos:Pos}:QE X (.Dict [] [] pos) jW:=⟨xh⟩
end Z
namespace Ap
theorem yf(K:W.Frag)(D:List (Str×List Str))(te:TE)(σ:St)(H:Hp)(Q:VK):L2.yf K D te σ H Q=te σ H λy H1=>∃k ws,y=.str k/\KTD.datumAt k D=some ws/\∀p,FV K p (ws.map V.str)->Q (.ref p) H1:=rfl
theorem x5(tl:TE)(σ:St)(H:Hp)(R:It->Hp->Prop):L2.x5 tl σ H R=tl σ H λx H1=>∃z,x=V.str z/\R (Fh z) H1:=rfl
theorem jR(K:W.Frag)(ta:TA)(σ:St)(H:Hp)(R:It->Hp->Prop):L2.jR K ta σ H R=ta σ H λvs H1=>∃a,vs=[.ref a]/\(∃xs,bz K H1 a xs)/\R (yd K a) H1:=rfl
theorem j6(K:W.Frag)(j:Nat)(t:TA)(σ:St)(H:Hp)(Q:VK):L2.j6 K j t σ H Q=t σ H λvs H1=>∃l xs kz,vs=[.ref l]/\(∃n:Nat,H1 l=some (.mO 0 n)/\xs=jt n)/\kz.length=xs.length/\xs.length<64 /\
 (∀(i:Nat) (v:V) (k:Int),xs[i]?=some v->kz[i]?=some k->∀H',d3 H1 H'->∃i q ls,v=.int i/\Hw j σ=[some (.ref q)]/\bq K H' q ls/\cq ls i=some (.int k))/\∀H2 D,d3 H1 H2->H2 D=none->Q (.ref D) (upd H2 D (.lst (iN kz xs))):=rfl
theorem jW(σ:St)(H:Hp)(Q:VK):L2.jW σ H Q=∀p,H p=none->Q (.ref p) (upd H p (.dK [])):=rfl
end Ap
section
variable {K:W.Frag} {g:TG} {tb:TS} {D:Ends} {σ:St} {H:Hp}
theorem ng{z:Str}(Pv:Nat->St->Hp->Prop)(h0:Pv 0 σ H)
  (hs:∀i c σ H,z.cps[i]?=some c->Pv i σ H->g (.str ⟨#[c]⟩) σ H λσ2 H2=>tb {D with nx:=Pv (i+1),ct:=Pv (i+1),bk:=D.nx} σ2 H2) (hd:∀σ H,Pv z.cps.size σ H->D.nx σ H):oh (Fh z) g tb D σ H:=by
 refine⟨λi m σ H=>m=z.cps.size-i/\i<=z.cps.size/\Pv i σ H,⟨z.cps.size,by simp,Iv _,h0⟩,?_⟩
 rintro i m σ H ⟨rfl,hi,p⟩;by_cases c:i<z.cps.size
 ·refine .inr ⟨c,λσ' H'=>Pv (i+1) σ' H',λσ' H' h=>⟨_,by lia,rfl,c,h⟩,?_⟩
  rintro x H' ⟨rfl,y,e,rfl⟩;exact hs i y σ _ e p
 ·have e:i=z.cps.size:=by lia
  subst e;exact .inl ⟨Ib _,hd _ _ p⟩
theorem qF(Pv:Nat->St->Hp->Prop)(h0:Pv 0 σ H)(hl:∀i σ H,i<=xs.length->Pv i σ H->bz K H a xs)
  (hs:∀i x σ H p,xs[i]?=some x->Pv i σ H->H p=none->g (.ref p) σ (upd H p (.tup [.int i,x])) λσ2 H2=>tb {D with nx:=Pv (i+1),ct:=Pv (i+1),bk:=D.nx} σ2 H2) (hd:∀σ H,Pv xs.length σ H->D.nx σ H) :
  oh (yd K a) g tb D σ H:=by
 refine⟨λi m σ H=>m=xs.length-i/\i<=xs.length/\Pv i σ H,⟨xs.length,by simp,Iv _,h0⟩,?_⟩
 rintro i m σ H ⟨rfl,hi,p⟩;have hq:=hl i σ H hi p;by_cases c:i<xs.length
 ·refine .inr ⟨⟨xs[i],xs,hq,HV c⟩,λσ' H'=>Pv (i+1) σ' H',λσ' H' h=>⟨_,by lia,rfl,c,h⟩,?_⟩
  rintro x H' ⟨q,y,e,fr,rfl,rfl⟩;have e1:=e xs hq;exact hs i y σ H q e1 p fr
 ·have e:i=xs.length:=by lia
  subst e;exact .inl ⟨⟨xs,hq,rfl⟩,hd _ _ p⟩
end
section
variable {K:W.Frag} {σ:St} {H:Hp} {tc:TT} {te:TE} {Q:VK}
theorem zZ{x y:V}{c:Addr}{o1 o2:Option V}{R:St->Hp->Prop}(h:R (some x::some y::σ) (upd H c (.tup [x,y]))):pN K 2 (cW (aQ 0) (cW (aQ 1) km)) (.ref c) (o1::o2::σ) (upd H c (.tup [x,y])) R:=⟨c,[x,y],rfl,bq.of aa,rfl,x,[y],rfl,y,[],rfl,rfl,h⟩
theorem oM(hn:xs.length<=sizeLine)(Pv:Addr->Nat->List V->Hp->Prop)(h0:∀D,H D=none->Pv D 0 [] (upd H D (.lst [])))(hD:∀D i ys H',Pv D i ys H'->H' D=some (.lst ys)/\ys.length=i)
  (hl:∀D i ys H',Pv D i ys H'->bq K H' a xs)
  (hs:∀D i ys H' x p (R:VK),xs[i]?=some x->Pv D i ys H'->H' p=none->(∀v H5,H5 D=some (.lst ys)->Pv D (i+1) (ys++[v]) (upd H5 D (.lst (ys++[v])))->R v H5)->te (some (.int i)::some x::σ) (upd H' p (.tup [.int i,x])) R) (hd:∀D ys H',Pv D xs.length ys H'->Q (.ref D) H') :
  jv (wF K a) 2 (pN K 2 (cW (aQ 0) (cW (aQ 1) km))) eQ te Q σ H:=by
 intro D hD0;refine⟨λi m ys σ' H'=>m=xs.length-i/\i<=xs.length/\Pv D i ys H'/\∃o1 o2,σ'=o1::o2::σ,⟨xs.length,by simp,Iv _,h0 D hD0,none,none,rfl⟩,?_⟩
 rintro i m ys σ' H' ⟨rfl,hi,p,o1,o2,rfl⟩;obtain⟨hDi,hly⟩:=hD _ _ _ _ p;have q:=hl _ _ _ _ p;refine⟨hDi,?_⟩;by_cases hlt:i<xs.length
 ·refine .inr ⟨⟨xs[i],xs,q,by simp[hlt]⟩,by lia,λx H2 y=>?_⟩
  obtain⟨c,y,hy,fr,rfl,rfl⟩:=y;refine zZ ?_;unfold eQ;dsimp only;rw[if_pos rfl];exact hs D i ys H' y c _ (hy xs q) p fr λv H5 q1 q2=>⟨q1,xs.length-(i+1),by lia,rfl,hlt,q2,_,_,rfl⟩
 ·have e:i=xs.length:=by lia
  subst e;exact .inl ⟨⟨xs,q,rfl⟩,hd D ys H' p⟩
end
theorem mL{t:TS}{D:Ends}(h:∀N,N=D.nx->t {D with nx:=N} σ H):t D σ H:=h _ rfl
theorem uG{c:TT}{t u:TS}{D:Ends}(h:∀A B,A=t D->B=u D->c σ H λb H1=>if b=true then A σ H1 else B σ H1):lN c t u D σ H:=h _ _ rfl rfl
theorem HasFn.Hj{ps:List Str}{k:Nat}(F:HasFn K mg x st ps)(S:ar N ps (af st))(len:∀vs H Q E,sp vs H Q E->vs.length=ps.length)
  (hbody:∀(f:Addr) (cdv:Value) (A:Around) (outer:List Env) (s:Shared) (H:Hp) (vs:List V) (Q:VK) (E:XK),bj k (A.deeper (envOfC x (af st) s.heap.objs.size f cdv))->mg x=some (.ref f)->Al K f cdv->sp vs H Q E ->
   ∃t,QB (i9 bf P w K mg base N x (af st) f cdv A outer s H E).AG (bw st) t/\t {nx:=λ_ H'=>Q .aJ H',rt:=Q} (start N vs) H):ai P w K mg base bf (k+1) x ps sp:=by
 obtain⟨f,fd,F1,b,m⟩:=F.ex;have F2:=F1;obtain⟨oc,od,kV,doc,pm,an,cdv,ct,osl,rfl,lk,fM⟩:=F2.ex;refine⟨f,_,m,F1.kp,b,uJ lk fM S len λA outer s H vs Q E hr iM=>?_⟩;obtain⟨t,h,q⟩:=hbody f cdv A outer s H vs Q E hr m ⟨_,_,lk,rfl,rfl⟩ iM;exact⟨t,h.h.AG,q⟩
theorem aG.of(k:scope.kind=.function)(h:N.Nodup/\N.length=own.length+ON.length/\(∀y∈scope.names,y.2≠.cell)/\(∀y∈scope.names,y.2=.local->scope.names.lookup y.1=some .local)/\(∀y∈scope.names,y.2=.free->osc.names.lookup y.1=some .cell\/osc.names.lookup y.1=some .free)/\(∀p∈ON.zip (N.drop own.length),p.1=p.2\/scope.names.lookup p.2=none)/\∀x∈N.drop own.length,scope.names.lookup x≠some .local):aG osc ON scope own N:=by
 obtain⟨h1,h2,h3,h4,h5,h6,h7⟩:=h;exact⟨k,h1,h2,h3,h4,h5,h6,h7⟩
namespace Z
section
variable {X:Cx} {e o:Expr} {es:List Expr} {te to:TE} {t:TA} {pos pos' p:Pos} {x:Str}
theorem se(hN:X.N.Nodup)(he:QE X e te)(hi:autoParam (X.N[i]?=some x) ℜ0)(hx:Loc X.env.scope x:=by first|exact Or.inl rfl|exact Or.inr rfl)(hs:autoParam (FY e=true) ℜ0)(hf:autoParam (X.fn x=true\/X.env.scope.names.lookup x=some .local) ℜ2):
  QS X (.Assign [.Name x pos'] e pos) (jB te (aQ i)):=set hN hi hx he hs hf
theorem fc{k:Nat}{ps:List Str}(F:ai X.prog X.w X.K X.mg X.base bf k x ps sp)(ha:QA X (e::es) t)(hr:bj k X.A:=by exact bj.mono (by assumption) (by decide))(hg:autoParam (Gl X x) ℜ0)(h1:autoParam (cG e=true) ℜ0)(h2:autoParam (es.all cG=true) ℜ0)(hdb:autoParam ((x ==("__debug__":Str))=false) ℜ1):
  QE X (.Call (.Name x p) (e::es) [] pos) (fQ sp [] E0 t):=fn F hr hg xZ ha h1 h2 hdb
theorem DV{wi:TI}(S:aG osc ON scope own N)(hi:QI X tg iter wi)
  (hg:∀(nd:N.Nodup) C s H fp,QG (ay X scope N C s H fp) tg g) (ht:∀C s H fp,Dq (ay X scope N C s H fp) ifs tc) (he:∀C s H fp,QE (ay X scope N C s H fp) elt te) (hosc:autoParam (X.env.scope=osc) ℜ0) (hON:autoParam (X.N=ON) ℜ0) (hc:autoParam (X.calm=true) ℜ0) (hs:autoParam (∀x,foldedSetIterable iter X.env x=pure x) ℜ3) :
  QE X (.ListComp elt [⟨tg,iter,ifs,0⟩] scope pos) (dZ wi own.length g tc te):=comp S hosc hON hc hi (hg S.nd) ht he hs
theorem sec{wi:TI}{j:Nat}(hN:X.N.Nodup)(S:aG osc ON scope own N)(hi:QI X tg iter wi)
  (hg:∀(nd:N.Nodup) C s H fp,QG (ay X scope N C s H fp) tg g) (ht:∀C s H fp,Dq (ay X scope N C s H fp) ifs tc) (he:∀C s H fp,QE (ay X scope N C s H fp) elt te)
  (hj:autoParam (X.N[j]?=some x) ℜ0) (hx:Loc X.env.scope x:=by first|exact Or.inl rfl|exact Or.inr rfl) (hosc:autoParam (X.env.scope=osc) ℜ0) (hON:autoParam (X.N=ON) ℜ0) (hc:autoParam (X.calm=true) ℜ0)
  (hsw:autoParam (swapsWith (.ListComp elt [⟨tg,iter,ifs,0⟩] scope p2) (some (.Name x pos')) pos.line X.env=pure true) ℜ0)
  (hf:autoParam (X.fn x=true\/X.env.scope.names.lookup x=some .local) ℜ2) (hs:autoParam (∀x,foldedSetIterable iter X.env x=pure x) ℜ3) :
  QS X (.Assign [.Name x pos'] (.ListComp elt [⟨tg,iter,ifs,0⟩] scope p2) pos) (jB (dZ wi own.length g tc te) (aQ j)):=setC hN hj hx S hosc hON hc hi (hg S.nd) ht he hsw hf hs
theorem app(K:W.Frag){apos:Pos}(ho:QE X o to)(ha:QA X (e::es) t)(hK:autoParam (X.K=K) ℜ0)(hbase:autoParam (attributeBase o "append" X.env (eval o X.env)=eval o X.env) ℜ0)(hline:autoParam ((apos.endLine == pos.line)=true) ℜ0)(h:autoParam ((e::es).all cG=true) ℜ0)(hl:autoParam ((e::es).length<30) ℜ1):QE X (.Call (.Attribute o "append" apos) (e::es) [] pos) (Bs K "list" rB to t):=bm K hK PySem.F.plainAttrs_list PySem.F.slot_list_append PySem.F.type_list_append kZ ho ha hbase hline h hl
end
end Z
theorem uF.Hu{qual:Str}{f:Addr}{ps:List Str}{k:Nat}(F:uF K x qual st f fd)(S:ar N ps (af st))(len:∀vs H Q E,sp vs H Q E->vs.length=ps.length)
  (hbody:∀(cdv:Value) (A:Around) (outer:List Env) (s:Shared) (H:Hp) (vs:List V) (Q:VK) (E:XK),bj k (A.deeper (envOfC qual (af st) s.heap.objs.size f cdv))->sp vs H Q E ->
   ∃t,QB (i9 (mM P w) P w K mg base N qual (af st) f cdv A outer s H E) (bw st) t/\t {nx:=λ_ H'=>Q .aJ H',rt:=Q} (start N vs) H):d2 P w K mg base (mM P w) (k+1) f fd ps sp:=by
 obtain⟨oc,od,kV,doc,pm,an,cdv,ct,osl,rfl,lk,fM⟩:=F.ex;refine uJ lk fM S len λA outer s H vs Q E hr iM=>?_;obtain⟨t,h,q⟩:=hbody cdv A outer s H vs Q E hr iM;exact⟨t,h.h,q⟩
theorem HasFn.EJ{ps:List Str}{k:Nat}(F:HasFn K mg x st ps)(S:ar N ps (af st))(len:∀vs H Q E,sp vs H Q E->vs.length=ps.length)
  (hbody:∀(f:Addr) (cdv:Value) (A:Around) (outer:List Env) (s:Shared) (H:Hp) (vs:List V) (Q:VK) (E:XK),bj k (A.deeper (envOfC x (af st) s.heap.objs.size f cdv))->sp vs H Q E ->
   ∃t,QB (i9 (mM P w) P w K mg base N x (af st) f cdv A outer s H E) (bw st) t/\t {nx:=λ_ H'=>Q .aJ H',rt:=Q} (start N vs) H):ai P w K mg base (mM P w) (k+1) x ps sp:=by
 obtain⟨f,fd,F1,bnd,m⟩:=F.ex;exact⟨f,_,m,F1.kp,bnd,F1.Hu S len λcdv A outer s H vs Q E hr h=>hbody f cdv A outer s H vs Q E hr h⟩
abbrev TJ:=St->Hp->(Hp->Prop)->Prop
structure QJ (X:Cx) (vs:List Expr) (t:TJ):Prop where
 run:∀(σ:St) (H:Hp) (Q:Hp->Prop) (pins:List (Addr×Obj)) (s:Shared) (acc:Str) (k:Nat) (R:Str->Shared->Prop),t σ H Q->Inv X pins σ H s->acc.length<=2000*k->k+vs.length<=20 ->
  (∀H' s' (out:Str),Q H'->Inv X pins σ H' s'->out.length<=40000->R out s')->Joins (model X.prog X.w) X.A X.xe (evalEach vs X.env) acc R s
noncomputable def He(te:TE)(t:TJ):TJ:=λσ H Q=>te σ H λv H1=>∃i,v=.int i/\i.natAbs<2^1900/\t σ H1 Q
noncomputable def GV(t:TJ):TE:=λσ H Q=>t σ H λH'=>∀z:Str,z.length<=40000->Q (.str z) H'
noncomputable def HD(Dx:ph)(σ:St)(H:Hp):XK:=λcls de H'=>∃(e:Addr) (d:Option Addr),de=some e/\H' e=some (.ext (hV e cls d))/\(H e=none->(∀a,d=some a->H a=none)->Dx cls d e σ H')
noncomputable def Gg(Dx:ph)(sp:Sp)(t:TA):TE:=λσ H Q=>t σ H λvs H1=>sp vs H1 Q (HD Dx σ H1)
namespace Z
section
variable {X:Cx} {e o:Expr} {es vs:List Expr} {te ta:TE} {t:TA} {tj:TJ} {pos p:Pos} {x:Str}
theorem Gp:QJ X [] (λ_ H Q=>Q H):=⟨λσ H Q pins s acc k R q I ha hk h=>h H s acc q I (by simp at hk;lia)⟩
theorem Gm{c:Str}{j:Nat}(h:QJ X vs tj)(hc:autoParam (c.length<=2000) ℜ1)(he:autoParam (evalEach (.Constant (.str c) j p::vs) X.env=eval (.Constant (.str c) j p) X.env::evalEach vs X.env) ℜ0):QJ X (.Constant (.str c) j p::vs) tj:=by
 refine⟨λσ H Q pins s acc k R q I ha hk hR=>?_⟩;rw[he];refine bD ((Z.str (X:=X) (i:=c) (j:=j) (pos:=p)).h pins s σ H (λv H1=>v=.str c/\H1=H) I ⟨rfl,rfl⟩) λv s1 hq1=>?_;obtain⟨v',H1,I1,r1,e1,e2⟩:=hq1;subst e1;subst e2;obtain⟨t,rfl⟩:=r1;have hl:(acc++c).length<=2000*(k+1):=by rw[jS];lia
 rw[Iq] at hk;exact⟨c,t,rfl,lH (by lia),h.run σ H1 Q pins s1 (acc++c) (k+1) R q I1 hl (by lia) hR⟩
theorem GD(he:QE X e te)(h:QJ X vs tj)(hev:autoParam (evalEach (.FormattedValue e (-1) none p::vs) X.env=eval (.FormattedValue e (-1) none p) X.env::evalEach vs X.env) ℜ0):QJ X (.FormattedValue e (-1) none p::vs) (He te tj):=by
 refine⟨λσ H Q pins s acc k R q I ha hk hR=>?_⟩;rw[hev];refine wpAny_FormattedValue_plain ?_;refine bD (he.h pins s σ H _ I q) λv s1 ⟨v',H1,I1,rv,i,e1,hi,q1⟩=>?_;subst e1;obtain⟨t',rfl⟩:=rv;have hlog:i.natAbs.log2<1920:=by
  by_cases z:i.natAbs=0
  ·rw[z];decide
  ·exact (Nat.log2_lt z).mpr (ID hi (JX (by decide) (by decide)))
 have hlen:(Str.ofString (toString i)).length<=1921:=by
  have:=int_text_length_le (k:=1920) (by decide) hlog
  rw[PySem.ofString_length];exact this
 refine wpAny_formatField_int hlog ⟨_,_,rfl,?_,?_⟩
 ·rw[jS];exact lH (by rw[Iq] at hk;lia)
 ·rw[Iq] at hk;exact h.run σ H1 Q pins _ (acc++Str.ofString (toString i)) (k+1) R q1 (I1.tok _) (by rw[jS];lia) (by lia) hR
theorem GH{v1 v2:Expr}{rest:List Expr}(h:QJ X (v1::v2::rest) tj)(hn:autoParam ((v1::v2::rest).length<=20) ℜ1):QE X (.JoinedStr (v1::v2::rest) pos) (GV tj):=⟨λpins s σ H Q I q=>by
 refine wpAny_JoinedStr (h.run σ H _ pins s Str.empty 0 _ q I (by decide) (by rw[Ls];exact hn) λH' s' out q' I' ho=>⟨lH ho,?_⟩)
 exact⟨.str out,H',I'.tok _,⟨_,rfl⟩,q' out ho⟩⟩
theorem fX{k:Nat}{ps:List Str}(hD:Dx=f_ X)(F:ai X.prog X.w X.K X.mg X.base (mM X.prog X.w) k x ps sp)(ha:QA X (e::es) t)(hr:bj k X.A:=by exact bj.mono (by assumption) (by decide))(hg:autoParam (Gl X x) ℜ0)(hex:autoParam (X.ex=[]) ℜ0)(h1:autoParam (cG e=true) ℜ0)(h2:autoParam (es.all cG=true) ℜ0)(hdb:autoParam ((x ==("__debug__":Str))=false) ℜ1):
  QE X (.Call (.Name x p) (e::es) [] pos) (Gg Dx sp t):=by
 subst hD;exact⟨BI F hr hg hex ha.h h1 h2 hdb⟩
end
end Z
namespace Ap
theorem Gg(Dx:ph)(sp:Sp)(t:TA)(σ:St)(H:Hp)(Q:VK):L2.Gg Dx sp t σ H Q=t σ H λvs H1=>sp vs H1 Q (HD Dx σ H1):=rfl
end Ap
section
variable {X:Cx} {C S f:Addr} {name:Str}
theorem zY{xS:Str}{vs:List Expr}{ap p1 pos:Pos}{pl:Sem Bool}(x:eV X.K C S f name)(hg:Gl X xS)(hm:X.mg xS=some (.ref S))(hself:QE X (.Name "self" p1) (jf 0))(hj:QE X (.JoinedStr vs p2) (GV (He (jf 1) λ_ H Q=>Q H)))
  (ht:eval (.Call (.Attribute (.Name xS p) "__init__" ap) [.Name "self" p1,.JoinedStr vs p2] [] pos) X.env=(do
   let ov <- eval (.Name xS p) X.env
   standAt ap.atName
   let (f,first) <- holding [ov] (getMethod ov "__init__" pl)
   callWith pos f first (backTo pos (starEach [.Name "self" p1,.JoinedStr vs p2] X.env)) (backToKw pos (keywordEach [] X.env))))
  (hst:autoParam (starEach [.Name "self" p1,.JoinedStr vs p2] X.env=(false,eval (.Name "self" p1) X.env)::starEach [.JoinedStr vs p2] X.env) ℜ0) (hpl:autoParam ((backTo pos (starEach [.JoinedStr vs p2] X.env)).any (·.1)=false) ℜ0) (hdb:autoParam ((xS ==("__debug__":Str))=false) ℜ1)
  (hst2:autoParam (starEach [.JoinedStr vs p2] X.env=(false,eval (.JoinedStr vs p2) X.env)::starEach [] X.env) ℜ0) :
  PE X (.Call (.Attribute (.Name xS p) "__init__" ap) [.Name "self" p1,.JoinedStr vs p2] [] pos) (Hc C):=by
 intro pins s σ H Q I h;obtain⟨e,i,rfl,hi,he,q⟩:=h;refine W.methodCall_KW (pl:=pl) (d5 I hg hm ?_ hdb) ht;refine W.method_cls I.fo x.sg (W.cls_value I.fo x.sr x.si rfl ?_);have I1:=I.tok (s.toks+1);have hA:=iW (t:=gS (GV (He (jf 1) λ_ H Q=>Q H)) jj) hself.h (iW hj.h qh hst2) hst pos pins _ _ H (λvs H1=>∃z:Str,vs=[.ref e,.str z]/\H1=H) I1 ⟨.ref e,rfl,.int i,rfl,i,rfl,hi,λz _=>⟨z,rfl,rfl⟩⟩;rw[hst] at hA ⊢;refine L6 (by show (false || (backTo pos (starEach [.JoinedStr vs p2] X.env)).any (·.1))=false;rw[hpl]<;>rfl) (Calls.evalArgs_plain ?_)
 refine bD hA λus s2 hq1=>?_;obtain⟨ws,H2,I2,r,z,ez,eH⟩:=hq1;subst ez;subst eH;obtain⟨u1,u2,rfl,r1,r2⟩:=vals2 r;obtain rfl:u1=Value.ref e:=r1;obtain⟨oe,ws,a0,g1,g2,g3,g4,g5,g6⟩:=(show jY e (.ref C) none s2.heap from (I2.aI _ _ he).1);refine tF x I2.fo g1 g2 g4 g5 (by simp[Js]) λh' u k1 k2=>?_
 have hsz:=(Iw.mp g5).1;have hN':jY e (.ref C) none h':=⟨_,_,u,k1,g2,g3,rfl,by simp[hsz],by rw[Array.getElem?_setIfInBounds_ne (by decide)];exact g6⟩
 have I3:Inv X pins _ (upd H2 e (.ext (jY e (.ref C) none))) {s2 with heap:=h'}:=I2.un (t':=s2.toks) (Un.vR he k2 ⟨_,k1⟩) (I2.aI.vR he k2 hN'.ok)
 rw[vG he] at I3;exact⟨.aJ,H2,I3,rfl,q H2 λ_ _ z=>z⟩
end
noncomputable def Gh(Dx:ph)(C:Addr)(name:Str)(te:TE):TS:=λ_ σ H=>te σ H λv H1=>∃i,v=.int i/\i.natAbs<2^1900/\∀e d H',H1 e=none->H1 d=none->jr H1 H'->H' e=some (.ext (hV e (.ref C) (some d)))->H' d=some (.xd [(name,.int i)])->Dx (.ref C) (some d) e σ H'
noncomputable def Ax(K:W.Frag)(name:Str)(te:TE):TE:=λσ H Q=>te σ H λv H1=>∃(ea d C:Addr) (i:Int),v=.ref ea/\H1 ea=some (.ext (hV ea (.ref C) (some d)))/\H1 d=some (.xd [(name,.int i)])/\qf K C/\W.hasDictIn K C=true/\W.findIn K (.ref C) name=some none/\Q (.int i) H1
noncomputable def HF(K:W.Frag)(DA:Addr)(i:Nat)(th:TS)(D:Ends):ph:=λcls d e σ' H'=>(∃C,cls=.ref C/\B_ K C/\W.mroIn K C (.ref DA)=some true)/\H' e=some (.ext (hV e cls d))/\th {nx:=λσ1 H1=>D.nx (σ1.set i none) H1,rt:=λ_ _=>False} (σ'.set i (some (.ref e))) H'
noncomputable def Ez(K:W.Frag)(DA:Addr)(i:Nat)(tb:ph->TS)(th:TS):TS:=λD σ H=>∀Dx:ph,(∀cls d e σ' H',HF K DA i th D cls d e σ' H'->Dx cls d e σ' H')->tb Dx D σ H
noncomputable def FX(sp:Sp)(t:TA)(G:CT):TE:=λσ H Q=>t σ H λvs H1=>sp vs H1 Q λcls de H'=>∃(e:Addr) (d:Option Addr),de=some e/\H' e=some (.ext (hV e cls d))/\(H1 e=none->(∀a,d=some a->H1 a=none)->G cls d e H')
noncomputable def qR(Dx:ph)(wi:TI)(k:Nat)(g:TG)(tc:TT)(te:CT->TE):TE:=λσ H Q=>dZ wi k g tc (te λcls d e H'=>Dx cls d e σ H') σ H Q
structure Hn (X:Cx) (e:Expr) (te:CT->TE):Prop where
 h:∀G:CT,(∀cls d e σ' H',G cls d e H'->f_ X cls d e σ' H')->Ga X e (te G)
namespace Z
section
variable {X:Cx} {C S f:Addr} {name x:Str} {e:Expr} {es:List Expr} {te:TE} {t:TA} {p cpos pos:Pos}
theorem uK{k:Nat}{ps:List Str}(hD:Dx=f_ X)(hx:eV X.K C S f name)(Fn:d2 X.prog X.w X.K X.mg X.base (mM X.prog X.w) k f fd ps (DN C name))(hb:Binds X.K fd ps [])(hm:X.mg x=some (.ref C))(he:QE X e te)(hr:bj (k+1) X.A:=by exact bj.mono (by assumption) (by decide))(hc:autoParam (X.calm=true) ℜ0)(hex:autoParam (X.ex=[]) ℜ0)(hg:autoParam (Gl X x) ℜ0)(h1:autoParam (cG e=true) ℜ0)(hdb:autoParam ((x ==("__debug__":Str))=false) ℜ1):
  QS X (.Raise (some (.Call (.Name x p) [e] [] cpos)) none pos) (Gh Dx C name te):=by
 subst hD;refine⟨λpins s σ H D I q=>t9 hc I hx ?_⟩;refine JC (d5 I hg hm ?_ hdb);refine M0 (h₀:=X.base) I.ok.mod.j_ hx.kp (bD ((Z.cons he Z.nil h1).h cpos pins s σ H (λvs H1=>match vs with
  |[v]=>∃i,v=.int i/\i.natAbs<2^1900/\∀e d H',H1 e=none->H1 d=none->jr H1 H'->H' e=some (.ext (hV e (.ref C) (some d)))->H' d=some (.xd [(name,.int i)])->f_ X (.ref C) (some d) e σ H'
  |_=>False) I q) λus s1 ⟨vs,H1,I1,rv,q0⟩=>⟨I1.fo,?_⟩) (bF h1) (plain_any rfl)
 obtain⟨v,rfl⟩:∃v,vs=[v]:=by
  rcases vs with _|⟨v,_|⟨w,vs⟩⟩
  ·exact q0.elim
  ·exact⟨v,rfl⟩
  ·exact q0.elim
 obtain⟨i,ei,hi,q1⟩:=q0;subst ei;obtain⟨u,rfl,ru⟩:=vals1 rv;refine zv hx Fn hb hr hex I1 ru hi λea d H' s' n1 n2 sm tr td I2 fl nw=>?_;obtain⟨oe,vs,g1,g2,_,g4,g5⟩:=id fl;exact⟨ea,oe,rfl,I2.fo,g1,g2,⟨vs,g4,g5⟩,q1 ea d H' n1 n2 sm tr td pins s' none I2 fl nw⟩
theorem HH(K:W.Frag)(ha:QE X e te)(hK:autoParam (X.K=K) ℜ0)(hb:autoParam (attributeBase e name X.env (eval e X.env)=eval e X.env) ℜ0):QE X (.Attribute e name pos) (Ax K name te):=by
 subst hK;refine⟨λpins s σ H Q I q=>zc hb (bD (ha.h pins s σ H _ I q) λu s1 ⟨v,H1,I1,rv,ea,d,C,i,ev,h1,g1,KX,hh,hn,q1⟩=>?_)⟩;subst ev;obtain rfl:u=Value.ref ea:=rv;obtain⟨oe,vs,h2,h3,h4,h5⟩:=(show hV ea (.ref C) (some d) s1.heap from (I1.aI _ _ h1).1);obtain⟨mA,ns,rel⟩:=(show aM X.prog X.w H1 s1.heap d (.xd [(name,.int i)]) from I1.aI _ _ g1);obtain⟨od,hod,lk⟩:=lu ns;have In:W.InstAt s1.heap ea oe C (some od):=⟨h2,h3,by unfold W.notCls;rw[h5],by rw[h4];exact hod⟩
 have rl:=rel name;rw[show List.lookup name [(name,V.int i)]=some (V.int i) by simp] at rl
 cases hm:mA name with
 |none=>rw[hm] at rl;exact rl.elim
 |some u' =>
  rw[hm] at rl;obtain⟨tk,rfl⟩:=(show RelV (.int i) u' from rl);refine zj KX I1.fo In (W.findObj_own hh hn rfl (by rw[lk,hm])) rfl ?_
  exact⟨.int i,H1,I1.tok _,⟨tk,rfl⟩,q1⟩
theorem fG{k:Nat}{ps:List Str}(F:ai X.prog X.w X.K X.mg X.base (mM X.prog X.w) k x ps sp)(ha:QA X (e::es) t)(hr:bj k X.A:=by exact bj.mono (by assumption) (by decide))(hg:autoParam (Gl X x) ℜ0)(h1:autoParam (cG e=true) ℜ0)(h2:autoParam (es.all cG=true) ℜ0)(hdb:autoParam ((x ==("__debug__":Str))=false) ℜ1)(iM:∀vs H Q (E E':XK),(∀c d H,E c d H->E' c d H)->sp vs H Q E->sp vs H Q E')(hta:∀σ H (Q Q':List V->Hp->Prop),(∀vs H,Q vs H->Q' vs H)->t σ H Q->t σ H Q'):
  Hn X (.Call (.Name x p) (e::es) [] pos) (FX sp t):=⟨λG hG pins s σ H Q hcov I q=>A0 F hr hg ha.h h1 h2 hdb pins s σ H Q hcov I (hta _ _ _ _ (λvs H1 h=>iM _ _ _ _ _ (λc de H' ⟨e,d,a1,a2,a3⟩=>⟨e,d,a1,a2,λn1 n2=>hG _ _ _ _ _ (a3 n1 n2)⟩) h) q)⟩
end
theorem Hk{X:Cx}{body suite:List Stmt}{b0:Stmt}{nm:Str}{DA:Addr}{np hpos pos:Pos}{tb:ph->TS}{th:TS}(K:W.Frag)(hm:X.mg x=some (.ref DA))(hkD:G0 K DA)
  (hN:X.N.Nodup) (hb:∀pins E (Dx:ph),Dx=f_ (t6 X pins E)->QB (t6 X pins E) body (tb Dx)) (hh:∀e,QB (D8 X e) (b0::suite) th)
  (hi:autoParam (X.N[i]?=some nm) ℜ0) (hx:autoParam (X.env.scope.names.lookup nm=some .local) ℜ0) (hK:autoParam (X.K=K) ℜ0) (hg:autoParam (Gl X x) ℜ0) (hc:autoParam (X.calm=true) ℜ0) (hex:autoParam (X.ex=[]) ℜ0) (hst:autoParam (X.stack=X.env::X.outer) ℜ0) (hfm:autoParam (X.env.frame=some X.env.locals) ℜ0) (hdb:autoParam ((x ==("__debug__":Str))=false) ℜ1) :
  QS X (.Try body [.ExceptHandler (some (.Name x np)) (some nm) (b0::suite) hpos] [] [] pos) (Ez K DA i tb th):=by
 subst hK;have hkl:X.env.kindOf nm=some .local:=hx;refine⟨λpins s σ H D I q=>?_⟩;have hh0:X.A.handled=none:=I.ok.hd hc;refine wpAny_Try_except ?_;have qb:=hb pins (λy s1=>wpAny (model X.prog X.w) X.A (noteFrame y X.env) (λ_ s2=>wpAny (model X.prog X.w) X.A (setFlight y none) (λ_ s3=>wpAny (model X.prog X.w) X.A (handleBy y X.env [.ExceptHandler (some (.Name x np)) (some nm) (b0::suite) hpos]) (SP X pins D) X.xe s3) X.xe s2) X.xe s1) _ rfl;refine IZ (qb.h [] s σ H D I.Fw (q _ ?_)) (λf s1 h1=>?_) (λy s1 h1=>h1)
 ·rintro cls d e σ' H' ⟨⟨C,rfl,hkC,hsub⟩,tr,hu⟩;intro pins' s' To I' fl nw;have hex':(t6 X pins (λy s1=>wpAny (model X.prog X.w) X.A (noteFrame y X.env) (λ_ s2=>wpAny (model X.prog X.w) X.A (setFlight y none) (λ_ s3=>wpAny (model X.prog X.w) X.A (handleBy y X.env [.ExceptHandler (some (.Name x np)) (some nm) (b0::suite) hpos]) (SP X pins D) X.xe s3) X.xe s2) X.xe s1)).ex=[]:=hex;have hfr:X.A.frames=some (X.env::X.outer):=by rw[<- hst];exact I.ok.frames
  have hstk:=I'.stack;have hstk2:s'.heap.FunFrames X.base (X.env::X.outer):=by rw[<- hst];exact hstk
  refine oW hfr hfm hstk2 fl λh2 T2 mv f2=>?_;rw[<- hst] at mv;obtain⟨I2,nw2⟩:=I'.moved hex' fl nw mv f2;have J2:Inv (D8 X e) pins σ' H' {s' with heap:=h2}:=I2.iH.Az
  refine wpAny_handleBy_cons (codeAny_handlers_test (d5 J2 hg hm ?_ hdb)) (by intro z;cases z)
  refine qM J2.fo hkC hkD f2.is hsub (codeAny_handlers_suite_as ?_);refine oB (base:=X.base) (l:=X.stack) (s:={s' with heap:=h2}) I2.stack f2 λh3 T3 mv3 f3=>?_
  obtain⟨I3,nw3⟩:=I2.moved (h':=h3) hex' f2 nw2 mv3 f3;have J3:Inv (D8 X e) pins σ' H' {s' with heap:=h3}:=I3.iH.Az
  refine j9 (X:=D8 X e) (v:=.ref e) J3 hN hi (.inl hx) rfl (λs4 I4=>?_) (.inr hx);refine IZ ((hh e).h pins _ _ H' _ I4 hu) (λf s5 h5=>?_) (λ_ _ z=>z.elim);have h6:=SP.GX hh0 hc h5
  cases f with
  |next =>
   obtain⟨σ1,H1,I6,q6⟩:=h6;exact name_goes I6 hN hi hkl λs7 I7=>⟨_,H1,I7,q6⟩
  |brk=>obtain⟨_,_,_,z⟩:=h6;exact z.elim
  |cont=>obtain⟨_,_,_,z⟩:=h6;exact z.elim
  |ret u=>obtain⟨_,_,_,_,_,z⟩:=h6;exact z.elim
 ·have h2:=SP.iH h1
  cases f with
  |next=>exact Ii h2
  |brk=>exact h2
  |cont=>exact h2
  |ret u=>exact h2
theorem G5{pos:Pos}{wi:TI}{te:CT->TE}(hD:Dx=f_ X)(S:aG osc ON scope own N)(hi:QI X tg iter wi)
  (hg:∀(nd:N.Nodup) C s H fp,QG (ay X scope N C s H fp) tg g) (ht:∀C s H fp,Dq (ay X scope N C s H fp) ifs tc) (he:∀C s H fp XE,Hn (eL X scope N C s H fp XE) elt te) (hosc:autoParam (X.env.scope=osc) ℜ0) (hON:autoParam (X.N=ON) ℜ0) (hc:autoParam (X.calm=true) ℜ0) (hex:autoParam (X.ex=[]) ℜ0) (hst:autoParam (X.stack=X.env::X.outer) ℜ0) (hfm:autoParam (X.env.frame=some X.env.locals) ℜ0) (hs:autoParam (∀x,foldedSetIterable iter X.env x=pure x) ℜ3) :
  QE X (.ListComp elt [⟨tg,iter,ifs,0⟩] scope pos) (qR Dx wi own.length g tc te):=by
 subst hD;exact⟨wz hex hst hfm S hosc hON hc hi.h (λC s H fp=>(hg S.nd C s H fp).h) (λC s H fp=>(ht C s H fp).h) (λC s H fp XE G hG=>(he C s H fp XE).h G hG) hs⟩
end Z
namespace Ap
theorem Gh(Dx:ph)(C:Addr)(name:Str)(te:TE)(D:Ends)(σ:St)(H:Hp):L2.Gh Dx C name te D σ H=te σ H λv H1=>∃i,v=.int i/\i.natAbs<2^1900/\∀e d H',H1 e=none->H1 d=none->jr H1 H'->H' e=some (.ext (hV e (.ref C) (some d)))->H' d=some (.xd [(name,.int i)])->Dx (.ref C) (some d) e σ H':=rfl
theorem Ax(K:W.Frag)(name:Str)(te:TE)(σ:St)(H:Hp)(Q:VK):L2.Ax K name te σ H Q=te σ H λv H1=>∃(ea d C:Addr) (i:Int),v=.ref ea/\H1 ea=some (.ext (hV ea (.ref C) (some d)))/\H1 d=some (.xd [(name,.int i)])/\qf K C/\W.hasDictIn K C=true/\W.findIn K (.ref C) name=some none/\Q (.int i) H1:=rfl
theorem qR(Dx:ph)(wi:TI)(k:Nat)(g:TG)(tc:TT)(te:CT->TE)(σ:St)(H:Hp)(Q:VK):L2.qR Dx wi k g tc te σ H Q=dZ wi k g tc (te λcls d e H'=>Dx cls d e σ H') σ H Q:=rfl
theorem FX(sp:Sp)(t:TA)(G:CT)(σ:St)(H:Hp)(Q:VK):L2.FX sp t G σ H Q=t σ H λvs H1=>sp vs H1 Q λcls de H'=>∃(e:Addr) (d:Option Addr),de=some e/\H' e=some (.ext (hV e cls d))/\(H1 e=none->(∀a,d=some a->H1 a=none)->G cls d e H'):=rfl
end Ap
end L2
namespace G
local macro_rules|`(tactic|and_intros)=>`(tactic|exact ⟨rfl,rfl,rfl,by decide +kernel,rfl,by decide +kernel,by decide +kernel⟩)
open PySem L2 PySem.Spec PyProof.Rows
variable{L i p t:Nat}{C_NoBits C_ShortError a dq f:Addr}{b done en r sp z:List Nat}{xs ys:List V}{as ex:List Addr}{H H':Hp}{ln:Nat->Nat}{ws:List (List Nat)}{ls:List Int}{α:Type}{h:Heap}{o:Option (Nat×Nat)}{K:W.Frag}{Q:VK}{q:Program}{es:List Expr}{σ:L2.St}{te:TE}{g:Int}{fd fdI:FuncData}{mg:Str->Option Value}
noncomputable def top(i:Nat):Stmt:=PySem.Challenge.pw_shortrows_k32_goals_nowhere.main.body.getD i (.Pass ⟨0,0,0,0⟩)
abbrev aN:Stmt:=inClass (top 3) 0
theorem fZ:ar ["self","place"] ["self","place"] (af aN):=by and_intros
abbrev js:Stmt:=top 5
theorem bU:ar ["lengths","free","depth","left","length"] ["lengths"] (af js):=by and_intros
abbrev cC:Stmt:=top 7
theorem cV:ar ["lengths","words","ahead","thing"] ["lengths"] (af cC):=by and_intros
abbrev dI:Stmt:=top 8
theorem jJ:ar ["ahead","length"] ["ahead","length"] (af dI):=by and_intros
abbrev fY:Stmt:=top 9
theorem fA:ar ["code","bits","place","thing","word"] ["code","bits","place"] (af fY):=by and_intros
abbrev i6:Stmt:=top 13
theorem qm:ar ["row"] ["row"] (af i6):=by and_intros
abbrev fk:Stmt:=top 14
theorem mw:ar ["row","goal"] ["row","goal"] (af fk):=by and_intros
abbrev eG:Stmt:=top 22
theorem oR:ar ["book"] ["book"] (af eG):=by and_intros
abbrev cg:Stmt:=top 24
theorem bT:ar ["bits","book","codes","rows","starts","found","numbers"] ["bits","book"] (af cg):=by and_intros
abbrev bZ:Stmt:=top 25
theorem e8:ar ["row","start","numbers","goal"] ["row","start","numbers"] (af bZ):=by and_intros
abbrev j5:Stmt:=top 26
theorem cp:ar ["codes","bits","place","found","word","row","behind","kind","part"] ["codes","bits","place"] (af j5):=by and_intros
abbrev gj:Stmt:=top 27
theorem iI:ar ["code","bits","place","thing"] ["code","bits","place"] (af gj):=by and_intros
abbrev ic:Stmt:=top 28
theorem jG:ar ["kind","codes","bits","place","found"] ["kind","codes","bits","place"] (af ic):=by and_intros
abbrev fm:Stmt:=top 29
theorem eJ:ar ["code","bits","place","found","behind"] ["code","bits","place"] (af fm):=by and_intros
abbrev ie:Stmt:=top 30
theorem cH:ar ["bits","place","found","width","behind","distance"] ["bits","place"] (af ie):=by and_intros
abbrev dD:Stmt:=top 32
theorem m7:ar ["script"] ["script"] (af dD):=by and_intros
abbrev gh:Stmt:=top 33
theorem fi:ar ["number","turn","one"] ["number","turn"] (af gh):=by and_intros
abbrev e_:Stmt:=top 34
theorem gK:ar ["deck","most","number"] ["deck","most"] (af e_):=by and_intros
abbrev eB:Stmt:=top 35
theorem ko:ar [] [] (af eB):=by and_intros
abbrev ff:Stmt:=top 36
theorem cz:ar ["number","many","text","k"] ["number","many"] (af ff):=by and_intros
abbrev dC:Stmt:=top 37
theorem aU:ar ["lengths","found","number","size","length","thing","k"] ["lengths"] (af dC):=by and_intros
abbrev c_:Stmt:=top 38
theorem bK:ar ["deck","many","depths","k","deep","at"] ["deck","many"] (af c_):=by and_intros
abbrev dA:Stmt:=top 39
theorem mF:ar ["deck"] ["deck"] (af dA):=by and_intros
abbrev dE:Stmt:=top 40
theorem dj:ar ["deck","size","top"] ["deck"] (af dE):=by and_intros
abbrev gi:Stmt:=top 41
theorem d9:ar ["deck","goals","some","word","box"] ["deck","goals"] (af gi):=by and_intros
abbrev eI:Stmt:=top 44
theorem bM:ar ["row","codes","text","part","size"] ["row","codes"] (af eI):=by and_intros
abbrev dJ:Stmt:=top 48
theorem bA:ar ["book","found","lengths","table","thing","word"] ["book"] (af dJ):=by and_intros
abbrev cS:Stmt:=top 49
theorem cB:ar ["table","bits","at","size","word"] ["table","bits","at"] (af cS):=by and_intros
abbrev eO:Stmt:=top 50
theorem cM:ar ["text","number","sign"] ["text"] (af eO):=by and_intros
abbrev dM:Stmt:=top 51
theorem b9:ar ["bits","at","k","mark","text","number"] ["bits","at"] (af dM):=by and_intros
abbrev cE:Stmt:=top 52
theorem cx:ar ["table","bits","at","found","text"] ["table","bits","at"] (af cE):=by and_intros
abbrev dF:Stmt:=top 53
theorem aY:ar ["tables","bits","at","found","row","kind","behind"] ["tables","bits","at"] (af dF):=by and_intros
abbrev fz:Stmt:=top 54
theorem aX:ar ["bits","book","tables","rows","ends","found","program","row","begin","behind"] ["bits","book"] (af fz):=by and_intros
abbrev cP:Stmt:=top 55
theorem gO:ar ["found","due"] ["found","due"] (af cP):=by and_intros
abbrev b_:Stmt:=top 56
theorem az:ar ["deck","book","most","codes","bits","begins","k","row","width","half","far","goal"] ["deck","book","most"] (af b_):=by and_intros
abbrev eN:Stmt:=top 57
theorem bN:ar ["bits","book","found","place","e"] ["bits","book"] (af eN):=by and_intros
abbrev gw:Stmt:=top 58
theorem iA:ar ["script","deck","turn","book","bits"] ["script"] (af gw):=by and_intros
structure Txt (K:W.Frag) (mg:Str->Option Value):Prop where
 DX:mg "abs"=none
 CJ:mg "bool"=none
 BD:mg "dict"=none
 d7:mg "enumerate"=none
 rm:mg "int"=none
 bG:mg "isinstance"=none
 b8:mg "len"=none
 Du:mg "list"=none
 EK:mg "max"=none
 Fg:mg "min"=none
 d4:mg "range"=none
 jq:mg "sorted"=none
 wN:mg "str"=none
 EL:mg "sum"=none
 cU:mg "tuple"=none
 wq:mg "zip"=none
 zX:∃a,mg "BOXES"=some (.ref a)/\∀H,bq K H a [.str "a",.str "b",.str "c",.str "d",.str "e",.str "f",.str "g",.str "h"]
 uX:∃a,mg "HALVES"=some (.ref a)/\∀H,bq K H a [.int 8,.int 128,.int 32768]
 y9:∃a,mg "HEADS"=some (.ref a)/\∀H,bq K H a [.str "0",.str "10",.str "11"]
 pM:∃u,mg "OF_BOXES"=some u/\RelV (.int 2) u
 ma:∃u,mg "OF_CLASSES"=some u/\RelV (.int 1) u
 qJ:∃u,mg "OF_WORDS"=some u/\RelV (.int 0) u
 xm:∃a,mg "WIDTHS"=some (.ref a)/\∀H,bq K H a [.int 4,.int 8,.int 16]
 oz:∃d,mg "SHAPES"=some (.ref d)/\kx K d [("put",["box","number"]),("add",["box","box"]),("sub",["box","box"]),("copy",["box","box"]),("tell",["box"]),("hear",["box"]),("jump",["goal"]),("zero",["box","goal"]),("halt",[])]
 xs:∃C_ShortError C_NoBits:Addr,mg "ShortError"=some (.ref C_ShortError)/\mg "NoBits"=some (.ref C_NoBits)/\AF K C_ShortError/\qf K C_NoBits/\W.mroIn K C_NoBits (.ref C_NoBits)=some true/\∃(f:Addr) (fd:FuncData),eV K C_NoBits C_ShortError f "place"/\uF K "__init__" "NoBits.__init__" aN f fd/\Binds K fd ["self","place"] []/\W.hasDictIn K C_NoBits=true
 ou:rK K mg "code_of"
section
variable {P:Program} {w:World} {K:W.Frag} {mg:Str->Option Value} {base:Heap}
namespace Kr
noncomputable def ks(L:Nat):List Nat->Nat
 |[]=>0
 |l::r=>2^(L-l)+ks L r
theorem bV(L:Nat):∀a b,ks L (a++b)=ks L a+ks L b
 |[],b=>by simp[ks]
 |x::a,b=>by simp[ks,bV L a b];lia
theorem gW{a:List Nat}(h:a.Perm b):ks L a=ks L b:=by
 induction h with
 |nil=>rfl
 |cons x _ ih=>simp[ks,ih]
 |swap x y l=>simp[ks];lia
 |trans _ _ h1 h2=>exact h1.trans h2
theorem tT{d l:Nat}(h:d<l)(hl:l<=L):2^(L-d)=2*2^(L-(d+1)):=by
 have:L-d=(L-(d+1))+1:=by lia
 rw[this,N2];lia
noncomputable def fit:List Nat->Nat->Nat->Nat->Prop:=λr free depth L=>ks L r<=free*2^(L-depth)
theorem AK{L d:Nat}:∀{r:List Nat},(∀x∈r,d<=x)->ks L r<=r.length*2^(L-d)
 |[],_=>by simp[ks]
 |x::r,h=>by
  have ih:=AK (L:=L) (d:=d) (r:=r) λy hy=>h y (Ik _ hy);have hx:=h x Ij;have:=JX (n:=2) (by decide) (Nat.sub_le_sub_left hx L)
  simp only[ks,Iq,Lo];lia
theorem Co{x:Nat}:0<ks L (x::r):=by
 have:=Nat.pow_pos (n:=L-x) (show 0<2 by decide)
 simp only[ks];lia
theorem pT{free depth:Nat}(h:∀x∈r,depth<=x)(hf:r.length<=free):fit r free depth L:=
 Ia (AK h) (Nat.mul_le_mul_right _ hf)
theorem qk{free depth l:Nat}(h:depth<l)(hl:l<=L):fit r free depth L ↔ fit r (free*2) (depth+1) L:=by
 unfold fit;rw[tT h hl,LA]
theorem vt{free l:Nat}(hf:0<free):fit (l::r) free l L ↔ fit r (free-1) l L:=by
 unfold fit;simp only[ks];obtain⟨f,rfl⟩:∃f,free=f+1:=⟨free-1,by lia⟩
 rw[Mh,Lo];lia
theorem xg{x:Nat}{r:List Nat}{depth L:Nat}:¬ fit (x::r) 0 depth L:=by
 unfold fit;have:=Co (L:=L) (x:=x) (r:=r);lia
noncomputable def Ck(L:Nat)(done:List Nat)(need last:Int):Prop:=0<=need/\0<=last/\∀m:Nat,(need<=m ↔ ks L done<=m*2^(L-last.toNat))
theorem shr(n:Int)(g:Nat)(hn:0<=n)(m:Nat):(1-((0-n) / 2^g)<=(m:Int)) ↔ (1<=m/\n<=((m-1:Nat):Int)*2^g):=by
 have hp:(0:Int)<2^g:=Int.pow_pos (by decide)
 have h1:(1-((0-n) / 2^g)<=(m:Int)) ↔ (1-(m:Int))<=(0-n) / 2^g:=by lia
 rw[h1,MW hp];constructor
 ·intro h;have hm:1<=m:=by
   rcases Nat.eq_zero_or_pos m with z|z
   ·subst z;simp at h;lia
   ·exact z
  refine⟨hm,?_⟩;have e:((m-1:Nat):Int)=(m:Int)-1:=by lia
  rw[e,MZ];rw[MZ] at h;lia
 ·rintro⟨hm,h⟩;have e:((m-1:Nat):Int)=(m:Int)-1:=by lia
  rw[e,MZ] at h;rw[MZ];lia
theorem Ck.step{need last l:Int}(h:Ck L done need last)(h0:0<=l)(hl:l<=last)(hL:last<=L):
  Ck L (done++[l.toNat]) (1-((0-need) / 2^(last-l).toNat)) l:=by
 obtain⟨n0,l0,hm⟩:=h;refine⟨?_,h0,λm=>?_⟩
 ·have hp:(0:Int)<2^(last-l).toNat:=Int.pow_pos (by decide)
  have:(0-need) / 2^(last-l).toNat<=0:=Int.ediv_nonpos_of_nonpos_of_neg (by lia) hp
  lia
 ·rw[shr need _ n0 m,bV];simp only[ks];have e1:2^(L-l.toNat)=2^(last-l).toNat*2^(L-last.toNat):=by
   rw[<- M_];congr 1;lia
  have hpos:=Nat.pow_pos (n:=L-l.toNat) (show 0<2 by decide)
  constructor
  ·rintro⟨m1,h⟩;have h':need<=(((m-1)*2^(last-l).toNat:Nat):Int):=by
    rw[Int.natCast_mul,Int.natCast_pow];exact h
   have:=(hm _).mp h';rw[LA,<- e1] at this;obtain⟨k,rfl⟩:∃k,m=k+1:=⟨m-1,by lia⟩
   rw[Mh] at this;rw[Lo];exact Nat.add_le_add this (Ib _)
  ·intro h;have m1:1<=m:=by
    rcases Nat.eq_zero_or_pos m with z|z
    ·subst z;lia
    ·exact z
   refine⟨m1,?_⟩;have h':need<=(((m-1)*2^(last-l).toNat:Nat):Int):=by
    refine (hm _).mpr ?_;rw[LA,<- e1];obtain⟨k,rfl⟩:∃k,m=k+1:=⟨m-1,by lia⟩
    rw[Mh];rw[Lo] at h;exact Nat.le_of_add_le_add_right h
   rw[Int.natCast_mul,Int.natCast_pow] at h';exact h'
end Kr
noncomputable def iV(xs:List Int):List V:=xs.map V.int
theorem bX(xs:List Int):(iV xs).length=xs.length:=HY ..
theorem pQ(xs ys:List Int):iV (xs++ys)=iV xs++iV ys:=IB
theorem AO{xs:List Int}(h:i<xs.length):cq (iV xs) (i:Int)=some (.int xs[i]):=bI (by unfold iV;rw[Ie,HV h];rfl)
theorem mJ{xs:List Int}{v:V}(h:(iV xs)[i]?=some v):∃hi:i<xs.length,v=.int xs[i]:=by
 unfold iV at h;rw[Ie] at h
 cases e:xs[i]? with
 |none=>rw[e] at h;cases h
 |some x=>rw[e] at h;cases h;obtain⟨hi,rfl⟩:=HZ.mp e;exact⟨hi,rfl⟩
theorem DB(xs:List Int)(i:Nat)(x:Int):(iV xs).set i (.int x)=iV (xs.set i x):=by unfold iV;rw[LS]
theorem C_(h:(i:Int)<(xs.length:Nat)):∃t,t∈xs/\cq xs (i:Int)=some t:=by
 have hn:i<xs.length:=by lia
 exact⟨xs[i],IH hn,bI (HV hn)⟩
theorem BS(k:KB ex H H')(hx:∀b∈ex,∃ys,H b=some (.lst ys))(h:H a=some (.tup xs)):H' a=some (.tup xs):=k _ _ h λz=>by
 obtain⟨ys,e⟩:=hx a z;rw[h] at e;cases e
noncomputable def jm(ls:List Int):Prop:=0<ls.length/\ls.length<=20/\∀x∈ls,1<=x/\x<=20
noncomputable def KS(ls:List Int):Nat:=Kr.ks 40 (ls.map Int.toNat)
noncomputable def mP(ls:List Int):Bool:=decide (KS ls<=2^40)
namespace Cw
noncomputable def inc:List Nat->List Nat
 |[]=>[]
 |c::r=>if r.all (· == 49) then (if c=48 then 49::r.map (λ_=>48) else 48::r.map (λ_=>48)) else c::inc r
noncomputable def pad(n:Nat)(w:List Nat):List Nat:=w++List.replicate (n-w.length) 48
noncomputable def ee(w:List Nat)(n:Nat):List Nat:=pad n (inc w)
noncomputable def dm(w:List Nat)(n:Nat):List Nat:=pad n ((w.reverse.dropWhile (· == 49)).reverse.dropLast++[49])
theorem Fj:∀w:List Nat,w.all (· == 49)=true->inc w=w.map λ_=>48
 |[],_=>rfl
 |c::r,h=>by
  rw[JO,Jq] at h;have hc:c=49:=beq_iff_eq.mp h.1;unfold inc;rw[Ig h.2,H_ (by rw[hc];decide),IA]
theorem mx:∀{l:List Nat},l.all (· == 49)=true->l=List.replicate l.length 49
 |[],_=>rfl
 |c::r,h=>by
  rw[JO,Jq] at h;have hc:c=49:=beq_iff_eq.mp h.1;rw[Iq,IV,<- mx h.2,hc]
theorem yK(k:Nat):(List.replicate k 49).all (· == 49)=true:=by
 rw[M1];intro x hx;rw[(JH.mp hx).2];rfl
theorem parts:∀{w:List Nat},(∀c∈w,c=48\/c=49)->w.all (· == 49)=false->∃p k,w=p++48::List.replicate k 49
 |[],_,h=>by cases h
 |c::r,hb,h=>by
  by_cases z:r.all (· == 49)=true
  ·rw[JO,z,Bool.and_true] at h;have hc:c=48:=(hb c Ij).resolve_right λe=>by rw[e] at h;cases h
   exact⟨[],r.length,by rw[hc,Jt,<- mx z]⟩
  ·obtain⟨p,k,e⟩:=parts (w:=r) (λx hx=>hb x (Ik _ hx)) (by simpa using z)
   exact⟨c::p,k,by rw[e];rfl⟩
theorem fE(k:Nat):∀p:List Nat,inc (p++48::List.replicate k 49)=p++49::List.replicate k 48
 |[]=>by
  rw[Jt,Jt];unfold inc;rw[Ig (yK k),Ig rfl,Mi]
 |c::p=>by
  rw[JD];unfold inc;have z:¬ (p++48::List.replicate k 49).all (· == 49)=true:=by
   rw[List.all_append,JO];simp
  rw[H_ z,fE k p];rfl
theorem pL(k:Nat)(p:List Nat):((p++48::List.replicate k 49).reverse.dropWhile (· == 49)).reverse=p++[48]:=by
 rw[LW,List.reverse_cons,List.reverse_replicate];have e:∀(k:Nat) (t:List Nat),(List.replicate k 49++[48]++t).dropWhile (· == 49)=[48]++t:=λk t=>by
  induction k with
  |zero=>rfl
  |succ k ih=>rw[IV,JD,JD,Le,Ig (by decide)];exact ih
 rw[e,LW,KW];rfl
theorem la{w:List Nat}{n:Nat}(hb:∀c∈w,c=48\/c=49)(h:w.all (· == 49)=false)(hn:w.length<=n):dm w n=ee w n:=by
 obtain⟨p,k,rfl⟩:=parts hb h;unfold dm ee pad;rw[pL,fE,List.dropLast_append_of_ne_nil (by simp)]
 rw[HX,Iq,Iu] at hn;simp only[List.dropLast_singleton,Jd,HX,Iq,Iu,Je,II,JD,Jt];congr 2;rw[List.replicate_append_replicate];congr 1;lia
noncomputable def val:List Nat->Nat
 |[]=>0
 |c::r=>(c-48)*2^r.length+val r
theorem gU:∀a b:List Nat,val (a++b)=val a*2^b.length+val b
 |[],b=>by simp[val]
 |c::a,b=>by
  rw[JD,val,val,gU a b,HX,M_,Nat.add_mul,LA,Nat.add_assoc]
theorem dR:∀k,val (List.replicate k 48)=0
 |0=>rfl
 |k+1=>by rw[IV,val,dR k];simp
theorem jb:∀k,val (List.replicate k 49)+1=2^k
 |0=>rfl
 |k+1=>by
  have:=jb k;rw[IV,val,Iu,N2];lia
theorem mh:∀w:List Nat,(inc w).length=w.length
 |[]=>rfl
 |c::r=>by
  unfold inc;split
  ·split<;>simp
  ·rw[Iq,Iq,mh r]
theorem nV:∀{w:List Nat},(∀c∈w,c=48\/c=49)->∀c∈inc w,c=48\/c=49
 |[],_,_,h=>by cases h
 |d::r,hb,c,h=>by
  unfold inc at h
  split at h
  ·split at h
   ·rcases Ih.mp h with h|h
    ·exact .inr h
    ·obtain⟨_,_,e⟩:=Jg.mp h;exact .inl e.symm
   ·rcases Ih.mp h with h|h
    ·exact .inl h
    ·obtain⟨_,_,e⟩:=Jg.mp h;exact .inl e.symm
  ·rcases Ih.mp h with h|h
   ·rw[h];exact hb d Ij
   ·exact nV (λx hx=>hb x (Ik _ hx)) c h
theorem dw{w:List Nat}{n:Nat}(h:w.length<=n):(ee w n).length=n:=by
 unfold ee pad;rw[HX,Iu,mh];lia
theorem lA{w:List Nat}{n:Nat}(hb:∀c∈w,c=48\/c=49):∀c∈ee w n,c=48\/c=49:=λc h=>by
 rcases Jk.mp h with h|h
 ·exact nV hb c h
 ·exact .inl (JH.mp h).2
theorem oG{w:List Nat}{n:Nat}(hb:∀c∈w,c=48\/c=49)(h:w.all (· == 49)=false):val (ee w n)=(val w+1)*2^(n-w.length):=by
 unfold ee pad;rw[gU,dR,Iu,mh,Nat.add_zero];congr 1;obtain⟨p,k,rfl⟩:=parts hb h;have:=jb k;rw[fE,gU,gU,val,val,dR,Iq,Iq,Iu,Iu];lia
theorem yg{w:List Nat}(h:w.all (· == 49)=true):val w+1=2^w.length:=by
 rw[mx h,Iu];exact jb _
structure fW (done:List Nat) (w:List Nat):Prop where
 bits:∀c∈w,c=48\/c=49
 len:w.length<=40
 sum:(val w+1)*2^(40-w.length)=Kr.ks 40 done
theorem fW.zero{rest w:List Nat}{l:Nat}(h:fW done w)(hk:Kr.ks 40 done+2^(40-l)<=2^40):w.all (· == 49)=false:=by
 cases z:w.all (· == 49) with
 |false=>rfl
 |true =>
  have e:=h.sum;rw[yg z,<- M_,Nat.add_sub_cancel' h.len] at e;have:0<2^(40-l):=Nat.pow_pos (by decide)
  lia
theorem fW.next{w:List Nat}{l:Nat}(h:fW done w)(hl:w.length<=l)(hl2:l<=40)(hk:Kr.ks 40 done+2^(40-l)<=2^40):fW (done++[l]) (ee w l):=by
 have z:=h.zero (rest:=[]) hk;refine⟨lA h.bits,by rw[dw hl];exact hl2,?_⟩
 rw[oG h.bits z,dw hl,Nat.add_mul,LA,<- M_,Kr.bV,<- h.sum];have e:l-w.length+(40-l)=40-w.length:=by lia
 rw[e];simp[Kr.ks]
theorem fW.first{l:Nat}(hl:l<=40):fW [l] (List.replicate l 48):=⟨λc h=>.inl (JH.mp h).2,by rw[Iu];exact hl,by rw[dR,Iu];simp[Kr.ks]⟩
noncomputable def along(nx:List Nat->Nat->List Nat)(ln:Nat->Nat):List Nat->Option (List Nat)×List (List Nat)->Option (List Nat)×List (List Nat)
 |[],s=>s
 |t::r,(a,ws) =>
  let w:=match a with|none=>List.replicate (ln t) 48|some v=>nx v (ln t)
  along nx ln r (some w,ws.set t w)
theorem fU:∀(order done:List Nat) (a:Option (List Nat)) (ws:List (List Nat)),(order.Pairwise λi j=>ln i<=ln j)->(∀t∈order,ln t<=40)->(∀v,a=some v->fW done v/\∀t∈order,v.length<=ln t)->(a=none->done=[])->Kr.ks 40 (done++order.map ln)<=2^40->along dm ln order (a,ws)=along ee ln order (a,ws)
 |[],_,_,_,_,_,_,_,_=>rfl
 |t::r,done,a,ws,hp,h20,ha,hn,hk=>by
  obtain⟨p1,p2⟩:=IS.mp hp;have ht:=h20 t Ij;have hk':Kr.ks 40 ((done++[ln t])++r.map ln)<=2^40:=by rw[II];exact hk
  cases a with
  |none =>
   have:=hn rfl;subst this;exact fU r [ln t] _ _ p2 (λx hx=>h20 x (Ik _ hx)) (λv e=>by cases e;exact⟨fW.first ht,λx hx=>by rw[Iu];exact p1 x hx⟩) (λe=>by cases e) hk'
  |some v =>
   obtain⟨hv,hl⟩:=ha v rfl;have hvl:=hl t Ij;have hk2:Kr.ks 40 done+2^(40-ln t)<=2^40:=by
    rw[Kr.bV,Kr.bV] at hk';simp[Kr.ks] at hk';lia
   have e:=la hv.bits (hv.zero (rest:=[]) hk2) hvl;show along dm ln r (some (dm v (ln t)),ws.set t (dm v (ln t)))=along ee ln r (some (ee v (ln t)),ws.set t (ee v (ln t)));rw[e];exact fU r (done++[ln t]) _ _ p2 (λx hx=>h20 x (Ik _ hx)) (λu e=>by cases e;exact⟨hv.next hvl ht hk2,λx hx=>by rw[dw hvl];exact p1 x hx⟩) (λe=>by cases e) hk'
theorem eA{nx:List Nat->Nat->List Nat}:∀(a b:List Nat) (s:Option (List Nat)×List (List Nat)),along nx ln (a++b) s=along nx ln b (along nx ln a s)
 |[],_,_=>rfl
 |t::r,b,(a,ws)=>eA r b _
theorem fB{nx:List Nat->Nat->List Nat}:∀(o:List Nat) (s:Option (List Nat)×List (List Nat)),(along nx ln o s).2.length=s.2.length
 |[],_=>rfl
 |t::r,(a,ws)=>(fB r _).trans K0
end Cw
local macro_rules | `(tactic| walk_at "lc") => `(tactic| first | exact Or.inl rfl | exact Or.inr rfl)
local macro_rules | `(tactic| wp_walk using $ts,*) => do
  let ids := ("Nat.reduceAdd Nat.reduceSub Nat.reduceLeDiff L2.Ap.jf L2.Ap.tC L2.Ap.wa L2.Ap.FP L2.Ap.oo L2.Ap.DY L2.Ap.uO L2.Ap.E3 L2.Ap.wX L2.Ap.nF L2.Ap.jj L2.Ap.tK L2.Ap.A6 L2.Ap.n_ L2.Ap.gS L2.Ap.xf L2.Ap.yb L2.Ap.fQ L2.Ap.zE L2.Ap.Bs L2.Ap.vJ L2.Ap.Fz L2.Ap.gJ L2.Ap.oC L2.Ap.u9 L2.Ap.jB L2.Ap.aQ L2.Ap.ya L2.Ap.cW L2.Ap.km L2.Ap.vo L2.Ap.mW L2.Ap.lN L2.Ap.ot L2.Ap.k_ L2.Ap.ll L2.Ap.wW L2.Ap.oq zy xa L2.Ap.rI L2.Ap.vP L2.Ap.rU L2.Ap.FL L2.Ap.Ea L2.Ap.addRef L2.Ap.FO L2.Ap.Gj L2.Ap.Hg L2.Ap.Hf L2.Ap.GK L2.Ap.GI L2.Ap.EN L2.Ap.ES L2.Ap.setRef L2.Ap.By L2.Ap.BA L2.Ap.EA L2.Ap.Ej L2.Ap.GP L2.Ap.DD L2.Ap.EY L2.Ap.FE L2.Ap.Gq L2.Ap.CS L2.Ap.zr L2.Ap.yS L2.start Ha Gz GF GC CL List.map_cons List.map_nil List.length_cons List.length_nil List.replicate List.cons_append List.nil_append List.append_nil List.getElem?_cons_zero List.getElem?_cons_succ List.set_cons_zero List.set_cons_succ Option.some.injEq exists_eq_left exists_eq_left' V.int.injEq V.str.injEq V.bl.injEq V.ref.injEq List.cons.injEq and_true true_and decide_eq_true_eq Bool.not_eq_true' decide_eq_false_iff_not Bool.false_eq_true L2.Ap.uL L2.Ap.nB L2.Ap.oi L2.Ap.yf L2.Ap.x5 L2.Ap.jR L2.Ap.j6 L2.Ap.jW L2.Ap.Gg L2.Ap.Gh L2.Ap.Ax L2.Ap.qR L2.Ap.FX".splitOn " ").toArray.map λn => Lean.mkIdent n.toName
  `(tactic| simp only [↓reduceIte, $[$ids:ident],*, $[$ts:term],*])
local macro_rules | `(tactic| walk_at "rz") => `(tactic| wp_walk using and_self)
local macro_rules|`(tactic|rfl')=>`(tactic|wp_walk using and_self)
local macro_rules|`(tactic|symm)=>do
  let n:=Lean.mkIdent `N
  let h:=Lean.mkIdent `hN
  `(tactic|(refine $h _ ?_;clear $h $n;refine aq λ$n $h=>?_))
local macro_rules|`(tactic|ac_rfl)=>do
  let n:=Lean.mkIdent `N
  let h:=Lean.mkIdent `hN
  `(tactic|(refine $h _ ?_;clear $h $n))
local macro_rules|`(tactic|right)=>`(tactic|walk_at "lc")
local macro_rules|`(tactic|exists $ts,*)=>`(tactic|wp_walk using $ts,*)
local macro_rules|`(tactic|left)=>do
  let i:=#[`args,`Qt,`hl,`h,`f,`cdv,`A,`outer,`s,`H,`E,`hr].map Lean.mkIdent
  let u:=Lean.mkIdent `hu
  `(tactic|(intro $[$i:ident]*;have $u:ident:=ba $(Lean.mkIdent `hr)))
noncomputable def wd(w:List Nat):Str:=⟨w.toArray⟩
theorem av(w:List Nat):(wd w).length=w.length:=Im ..
theorem xy{x:Str}{w:List Nat}(h:x.cps.toList=w):x=wd w:=by
 cases x with|mk a=>subst h;unfold wd;rw[KZ]
noncomputable def EG:Sp:=λvs H Q _=>∃n:Nat,n<=40/\((vs=[.aJ,.int (n:Int)]/\Q (.str (wd (List.replicate n 48))) H)\/∃w,vs=[.str (wd w),.int (n:Int)]/\w.length<=40/\Q (.str (wd (Cw.dm w n))) H)
theorem uv(T:Txt K mg)(F:HasFn K mg "word_behind" dI ["ahead","length"]):ai P w K mg base bf 1 "word_behind" ["ahead","length"] EG:=by
 refine F.fN jJ (λvs H Q E h=>?_) (λf cdv A outer s H vs Q E hr h=>?_)
 ·obtain⟨n,hn,⟨rfl,_⟩|⟨_,rfl,_⟩⟩:=h<;>rfl
 ·have hu:=ba hr;obtain⟨n,hn,h⟩:=h;rcases h with ⟨rfl,q⟩|⟨v,rfl,hv,q⟩
  ·refine⟨_,(Z.ag (Z.cN (Z.aR bQ (Z.v 0) Z.aJ) (Z.au (Z.ret (Z.op Y.qX Z.str (Z.v 1)))) Z.bo)
   (Z.au (Z.ret (Z.bm K rfl PySem.F.plainAttrs_str PySem.F.slot_str_ljust PySem.F.type_str_ljust Y.oH (Z.op (Z.aK K rfl) (Z.slice Y.dG (Z.bm K rfl PySem.F.plainAttrs_str PySem.F.slot_str_rstrip PySem.F.type_str_rstrip Y.kH (Z.v 0) (Z.cons Z.str Z.nil)) Z.yo (Z.jZ (Z.un cF Z.int))) Z.str) (Z.cons (Z.v 1) (Z.cons Z.str Z.nil)))))),?_⟩
   refine aq λN hN=>?_;walk_at "rz";refine⟨48,_,rfl,rfl,by lia,by lia,?_⟩
   rw[IY];exact q
  ·refine⟨_,(Z.ag (Z.cN (Z.aR bQ (Z.v 0) Z.aJ) (Z.au (Z.ret (Z.op Y.qX Z.str (Z.v 1)))) Z.bo)
   (Z.au (Z.ret (Z.bm K rfl PySem.F.plainAttrs_str PySem.F.slot_str_ljust PySem.F.type_str_ljust Y.oH (Z.op (Z.aK K rfl) (Z.slice Y.dG (Z.bm K rfl PySem.F.plainAttrs_str PySem.F.slot_str_rstrip PySem.F.type_str_rstrip Y.kH (Z.v 0) (Z.cons Z.str Z.nil)) Z.yo (Z.jZ (Z.un cF Z.int))) Z.str) (Z.cons (Z.v 1) (Z.cons Z.str Z.nil)))))),?_⟩
   refine aq λN hN=>?_;walk_at "rz";rw[hN];clear hN N;walk_at "rz";rw[H_ V.noConfusion];refine⟨rfl,wd v,_,rfl,rfl,by rw[av];exact Ia hv (by decide),?_⟩
   have e0:(Str.ofString "1").cps.contains=λc:Nat=>c == 49:=by
    funext c
    show (#[49]:Array Nat).contains c=_;rw[Array.contains_eq_any_beq];simp
   have e1:=oE (wd v) (Str.ofString "1");rw[e0] at e1;have e2:(Txt.rstripChars (wd v) (Str.ofString "1")).cps.toList=(v.reverse.dropWhile (· == 49)).reverse:=by
    rw[<- KW (Txt.rstripChars (wd v) (Str.ofString "1")).cps.toList,e1];rfl
   generalize Txt.rstripChars (wd v) (Str.ofString "1")=r at e2 ⊢;have hr2:r.length<=40:=by
    have:r.length=r.cps.toList.length:=by rw[IU];rfl
    rw[this,e2,Kt];exact Ia (L8 _).length_le (by rw[Kt];exact hv)
   have e3:(Y.eY r none (some (-1))).cps.toList=r.cps.toList.dropLast:=by
    show (Y.gL r.cps.toList none (some (-1))).toArray.toList=_;rw[LX];unfold Y.gL;rw[HT.dh,J5,LO,List.dropLast_eq_take];congr 1;show (if (-1:Int)<0 then ((-1:Int)+(r.cps.toList.length:Int)).toNat else min (-1:Int).toNat r.cps.toList.length)=_
    rw[Ig (by decide)]
    lia
   have hl3:(Y.eY r none (some (-1))).length<=40:=by
    have:(Y.eY r none (some (-1))).length=(Y.eY r none (some (-1))).cps.toList.length:=by rw[IU];rfl
    rw[this,e3,List.length_dropLast,IU];exact Ia (Nat.sub_le _ _) hr2
   refine⟨r,rfl,Ia hr2 (by decide),?_⟩
   refine⟨Ia (show _<=41 from Nat.add_le_add_right hl3 1) (by decide),rfl,_,(n:Int),_,rfl,rfl,by lia,by lia,rfl,?_⟩
   have e4:Txt.ljustF (Y.eY r none (some (-1))++Str.ofString "1") (n:Int) ((Str.ofString "0").cps.getD 0 0)=wd (Cw.dm v n):=by
    refine xy ?_;rw[PyProof.Rows.ljustF_list,IY];have e5:(Y.eY r none (some (-1))++Str.ofString "1").cps.toList=(v.reverse.dropWhile (· == 49)).reverse.dropLast++[49]:=by
     show ((Y.eY r none (some (-1))).cps++#[49]).toList=_;rw[Ku,e3,e2]
    have e6:(Y.eY r none (some (-1))++Str.ofString "1").length=((v.reverse.dropWhile (· == 49)).reverse.dropLast++[49]).length:=by
     rw[<- e5,IU];rfl
    rw[e5,e6];rfl
   rw[e4];exact q
theorem yp:Str.ofString ""=wd []:=rfl
theorem uq(z y:List Nat)(p:Nat)(hy:y≠[]):Y.jU (wd z) (wd y) (p:Int)=decide (y <+: z.drop p):=by
 have hl:0<y.length:=Lh.mpr hy;unfold Y.jU;have e0:fromIndex (wd z).length (p:Int)=p:=by unfold fromIndex;rw[H_ (by lia)];lia
 rw[e0];have e:Builtin.Str.subAt (wd z) (wd y) p=decide ((z.drop p).take y.length=y):=by
  unfold Builtin.Str.subAt wd;rw[Kz,beq_iff_eq,KA,<- M6,Array.toList_extract,Mw];rw[show (⟨y.toArray⟩:Str).length=y.length from Im ..];simp
 rw[e,Kz,Jq,KA,KA,KA,Ly,av,av];refine⟨λh=>h.2.symm,λh=>⟨?_,h.symm⟩⟩;have:=IW List.length h;rw[IF,IQ] at this;lia
noncomputable def m9(ws:List (List Nat))(z:List Nat)(p:Nat):Option Nat:=(List.range ws.length).find? λi=>decide (ws.getD i [] <+: z.drop p)
theorem dY(h:m9 ws z p=some t):t<ws.length/\ws.getD t [] <+: z.drop p:=by
 have h1:=List.mem_of_find?_eq_some h;have h2:=List.find?_some h;exact⟨Jc.mp h1,Jh h2⟩
theorem yi(h:m9 ws z p=none)(ht:t<ws.length):¬ ws.getD t [] <+: z.drop p:=λhp=>by
 have:=List.find?_eq_none.mp h t (Jc.mpr ht);exact this (IM hp)
structure Pf (ws:List (List Nat)):Prop where
 ne:∀w∈ws,w≠[]
 pre:∀(i j:Nat) (hi:i<ws.length) (hj:j<ws.length),i≠j->¬ ws[i] <+: ws[j]
theorem Pf.th(h:Pf ws)(ht:t<ws.length)(hp:ws.getD t [] <+: z.drop p):m9 ws z p=some t:=by
 cases c:m9 ws z p with
 |none=>exact absurd hp (yi c ht)
 |some i =>
  obtain⟨hi,hpi⟩:=dY c;by_cases e:i=t
  ·rw[e]
  ·have g:∀{k:Nat} (hk:k<ws.length),ws.getD k []=ws[k]:=λhk=>by rw[Ic,HV hk];rfl
   rw[g hi] at hpi;rw[g ht] at hp;rcases List.prefix_or_prefix_of_prefix hpi hp with q|q
   ·exact absurd q (h.pre i t hi ht e)
   ·exact absurd q (h.pre t i ht hi (I_ e))
theorem tM(n:Nat)(h:n<ws.length):(List.range' n (ws.length-n)).find? (λi=>decide (ws.getD i [] <+: z.drop p))=if ws[n] <+: z.drop p then some n else (List.range' (n+1) (ws.length-(n+1))).find? λi=>decide (ws.getD i [] <+: z.drop p):=by
 rw[show ws.length-n=(ws.length-(n+1))+1 by lia,Kn,JV]
 rw[Ic,HV h];show (match decide (ws[n] <+: z.drop p) with|true=>some n|false=>_)=_
 by_cases c:ws[n] <+: z.drop p
 ·rw[IM c,Ig c]
 ·rw[IE c,H_ c]
noncomputable def wV(ws:List (List Nat)):List V:=ws.map λw=>.str (wd w)
noncomputable def Hh:Option Nat->V
 |none=>.aJ
 |some t=>.int (t:Int)
noncomputable def rC(K:W.Frag):Sp:=λvs H Q _=>∃(a:Addr) (ws:List (List Nat)) (z:List Nat) (p:Nat),vs=[.ref a,.str (wd z),.int (p:Nat)]/\bq K H a (wV ws)/\(∀w∈ws,w≠[])/\ws.length<=100/\z.length<=1000000/\∀H',KB [] H H'->Q (Hh (m9 ws z p)) H'
theorem x_(T:Txt K mg)(F:HasFn K mg "thing_at" fY ["code","bits","place"]):ai P w K mg base bf 1 "thing_at" ["code","bits","place"] (rC K):=by
 refine F.fN fA (λvs H Q E h=>?_) (λf cdv A outer s H vs Q E hr h=>?_)
 ·obtain⟨a,ws,z,p,rfl,_⟩:=h;rfl
 ·have hu:=ba hr;obtain⟨a,ws,z,p,rfl,ha,hne,h100,hz,q⟩:=h;refine⟨_,(Z.ag (Z.eW IK rfl (Z.enum K rfl rfl T.d7 (Z.cons (Z.v 0) Z.nil)) (Z.oy (n:=2) K rfl rfl (Z.bP (Z.aT (i:=3) fA.nd rfl (by right)) (Z.bP (Z.aT (i:=4) fA.nd rfl (by right)) Z.iE))) (Z.au (Z.cN (Z.tw (Z.y4 (Z.aR pI (Z.v 4) Z.str) (Z.rP (Z.og K rfl (Z.bm K rfl PySem.F.plainAttrs_str PySem.F.slot_str_startswith PySem.F.type_str_startswith Y.qE (Z.v 1) (Z.cons (Z.v 4) (Z.cons (Z.v 2) Z.nil))))))) (Z.au (Z.ret (Z.v 3))) Z.bo)))
   (Z.au (Z.ret Z.aJ))),?_⟩
  refine aq λN hN=>?_;walk_at "rz";refine⟨⟨_,ha⟩,?_⟩;refine pK (xs:=wV ws) (λi σ H'=>KB [] H H'/\i<=ws.length/\(List.range' i (ws.length-i)).find? (λi=>decide (ws.getD i [] <+: z.drop p))=m9 ws z p/\∃(s3 s4:Option V),σ=[some (.ref a),some (.str (wd z)),some (.int (p:Nat)),s3,s4]) ⟨KB.refl _ _,Iv _,by unfold m9;rw[KY];rfl,none,none,rfl⟩ ?_ ?_ ?_
  ·rintro i σ H' hi ⟨k,_⟩;exact Hr ha k
  ·rintro i x σ H' b hx ⟨k,hi,ef,s3,s4,rfl⟩ hb;have hlt:i<ws.length:=by
    have:=(HZ.mp hx).1;unfold wV at this;rw[HY] at this;exact this
   have ex:x=.str (wd ws[i]):=by
    unfold wV at hx;rw[Ie,HV hlt] at hx;exact (Option.some.inj hx).symm
   subst ex;refine⟨b,_,rfl,bq.of aa,rfl,?_⟩;have k1:KB [] H (upd H' b (.tup [.int i,.str (wd ws[i])])):=k.trans (KB.new hb);generalize upd H' b (.tup [.int i,.str (wd ws[i])])=H1 at k1;have h0:ws[i]≠[]:=hne _ (IH hlt);have hne':¬ wd ws[i]=Str.ofString "":=λe=>h0 (by rw[yp] at e;exact IW (λs:Str=>s.cps.toList) e)
   rw[tM i hlt] at ef;walk_at "rz";rw[Ig hne'];refine⟨rfl,_,_,_,rfl,rfl,_,rfl,?_⟩;rw[uq z ws[i] p h0];by_cases c:ws[i] <+: z.drop p
   ·rw[Ig c] at ef;rw[<- ef] at q;rw[Ig (IM c)];exact q _ k1
   ·rw[H_ c] at ef;rw[H_ (by rw[IE c];exact Il)]
    exact⟨k1,hlt,ef,_,_,rfl,rfl⟩
  ·rintro σ H' ⟨k,_,ef,s3,s4,rfl⟩;have e:(wV ws).length=ws.length:=HY ..;rw[e,JG] at ef;have ef':m9 ws z p=none:=ef.symm;rw[ef'] at q;show N _ _;rw[hN];clear hN N;walk_at "rz";exact q _ k
noncomputable def hZ(ws:List (List Nat))(z:List Nat)(p:Nat):Option (Nat×Nat):=(m9 ws z p).map λt=>(t,p+(ws.getD t []).length)
theorem dP{x:Nat×Nat}(hne:∀w∈ws,w≠[])(h:hZ ws z p=some x):x.1<ws.length/\x.2=p+(ws.getD x.1 []).length/\p<x.2/\x.2<=z.length:=by
 unfold hZ at h
 cases c:m9 ws z p with
 |none=>rw[c] at h;cases h
 |some t =>
  rw[c] at h;cases h;obtain⟨h1,h2⟩:=dY c;have h3:=h2.length_le;rw[IQ] at h3;have h4:ws.getD t []≠[]:=by rw[Ic,HV h1];exact hne _ (IH h1)
  have h5:=Lh.mpr h4;exact⟨h1,rfl,by show p<p+_;lia,by show p+_<=_;lia⟩
noncomputable def DM(H:Hp)(v:V):Option (Nat×Nat)->Prop
 |none=>v=.aJ
 |some x=>∃t,v=.ref t/\H t=some (.tup [.int (x.1:Nat),.int (x.2:Nat)])
noncomputable def gM(K:W.Frag):Sp:=λvs H Q _=>∃(a:Addr) (ws:List (List Nat)) (z:List Nat) (p:Nat),vs=[.ref a,.str (wd z),.int (p:Nat)]/\bq K H a (wV ws)/\(∀w∈ws,w≠[])/\ws.length<=100/\z.length<=1000000/\∀v H',KB [] H H'->DM H' v (hZ ws z p)->Q v H'
theorem wc(T:Txt K mg)(F:HasFn K mg "coded_at" gj ["code","bits","place"])(hthing_at:ai P w K mg base bf 1 "thing_at" ["code","bits","place"] (rC K)):ai P w K mg base bf 2 "coded_at" ["code","bits","place"] (gM K):=by
 refine F.fN iI (λvs H Q E h=>?_) (λf cdv A outer s H vs Q E hr h=>?_)
 ·obtain⟨a,ws,z,p,rfl,_⟩:=h;rfl
 ·have hu:=ba hr;obtain⟨a,ws,z,p,rfl,ha,hne,h100,hz,q⟩:=h;refine⟨_,(Z.ag (Z.se (i:=3) iI.nd (Z.fc hthing_at (Z.cons (Z.v 0) (Z.cons (Z.v 1) (Z.cons (Z.v 2) Z.nil)))))
   (Z.au (Z.ret (Z.GJ (Z.aR bQ (Z.v 3) Z.aJ) Z.aJ (Z.tup (Z.cons (Z.v 3) (Z.cons (Z.op (Z.aK K rfl) (Z.v 2) (Z.cb (Z.bB K rfl) rfl T.b8 (by decide +kernel) (Z.cons (Z.ix (Z.nS K rfl) (Z.v 0) (Z.v 3)) Z.nil))) Z.nil))))))),?_⟩
  refine aq λN hN=>?_;walk_at "rz";refine⟨a,ws,z,p,rfl,ha,hne,h100,hz,λH1 k1=>?_⟩;rw[hN];clear hN N;have ha1:=Hr ha k1;unfold hZ at q
  cases c:m9 ws z p with
  |none =>
   rw[c] at q;unfold Hh;walk_at "rz";exact q _ _ k1 rfl
  |some t =>
   rw[c] at q;obtain⟨h1,h2⟩:=dY c;unfold Hh;walk_at "rz";rw[H_ V.noConfusion];have h3:=h2.length_le;rw[IQ] at h3;refine⟨a,wV ws,_,.str (wd (ws.getD t [])),rfl,rfl,ha1,bI (by unfold wV;rw[Ie,Ic,HV h1];rfl),?_⟩
   walk_at "rz";rw[av];refine⟨Ia (show _<=1000000 by lia) (by decide),by decide,λb hb=>q _ _ (k1.trans (KB.new hb)) ⟨b,rfl,?_⟩⟩
   rw[aa];rfl
noncomputable def cQ(z:List Nat):Prop:=∀c∈z,c=48\/c=49
theorem cQ.cut(h:cQ z)(a n:Nat):cQ ((z.drop a).take n):=λc hc=>h c (List.mem_of_mem_drop (LR hc))
theorem sf(z:List Nat)(a b:Nat)(h1:a<=b)(h2:b<=z.length):Y.eY (wd z) (some (a:Int)) (some (b:Int))=wd ((z.drop a).take (b-a)):=by
 unfold Y.eY wd;congr 2;show Y.gL z (some (a:Int)) (some (b:Int))=_;unfold Y.gL;rw[HT.cK,HT.cK,Ll h2,Ll (Ia h1 h2)]
noncomputable def xA(ws:List (List Nat))(z:List Nat)(p:Nat):Option (Nat×Nat):=match hZ ws z p with
 |none=>none
 |some x=>if x.1=0 then some x else if x.2+(x.1-1)<=z.length then some (dX (49::(z.drop x.2).take (x.1-1)),x.2+(x.1-1)) else none
theorem Au(c:Nat)(w:List Nat):wd [c]++wd w=wd (c::w):=xy (by
 show (#[c]++w.toArray).toList=_;rw[Ku];rfl)
noncomputable def rJ(K:W.Frag):Sp:=λvs H Q _=>∃(a:Addr) (ws:List (List Nat)) (z:List Nat) (p:Nat),vs=[.ref a,.str (wd z),.int (p:Nat)]/\bq K H a (wV ws)/\(∀w∈ws,w≠[])/\ws.length<=20/\cQ z/\z.length<=1000000/\∀v H',KB [] H H'->DM H' v (xA ws z p)->Q v H'
theorem uW(T:Txt K mg)(F:HasFn K mg "number_at" fm ["code","bits","place"])(hcoded_at:ai P w K mg base bf 2 "coded_at" ["code","bits","place"] (gM K)):ai P w K mg base bf 3 "number_at" ["code","bits","place"] (rJ K):=by
 refine F.fN eJ (λvs H Q E h=>?_) (λf cdv A outer s H vs Q E hr h=>?_)
 ·obtain⟨a,ws,z,p,rfl,_⟩:=h;rfl
 ·have hu:=ba hr;obtain⟨a,ws,z,p,rfl,ha,hne,h20,hb,hz,q⟩:=h;refine⟨_,(Z.ag (Z.se (i:=3) eJ.nd (Z.fc hcoded_at (Z.cons (Z.v 0) (Z.cons (Z.v 1) (Z.cons (Z.v 2) Z.nil)))))
   (Z.ag (Z.cN (Z.tw (Z.GG (Z.aR bQ (Z.v 3) Z.aJ) (Z.BH (Z.aR b7 (Z.ix (Z.aC K rfl hu) (Z.v 3) Z.int) Z.int)))) (Z.au (Z.ret (Z.v 3))) Z.bo)
   (Z.ag (Z.se (i:=4) eJ.nd (Z.op bY (Z.op (Z.aK K rfl) (Z.ix (Z.aC K rfl hu) (Z.v 3) Z.int) (Z.ix (Z.aC K rfl hu) (Z.v 3) Z.int)) Z.int))
   (Z.ag (Z.cN (Z.aR A_ (Z.v 4) (Z.cb (Z.bB K rfl) rfl T.b8 (by decide +kernel) (Z.cons (Z.v 1) Z.nil))) (Z.au (Z.ret Z.aJ)) Z.bo)
   (Z.au (Z.ret (Z.tup (Z.cons (Z.ct kD rfl T.rm (by decide +kernel) (Z.cons (Z.op (Z.aK K rfl) Z.str (Z.slice Y.dG (Z.v 1) (Z.jZ (Z.ix (Z.aC K rfl hu) (Z.v 3) Z.int)) (Z.jZ (Z.v 4)))) (Z.cons Z.int Z.nil))) (Z.cons (Z.v 4) Z.nil))))))))),?_⟩
  refine aq λN hN=>?_;walk_at "rz";refine⟨a,ws,z,p,rfl,ha,hne,by lia,hz,λv H1 k1 o1=>?_⟩
  rw[hN];clear hN N;refine aq λN hN=>?_;unfold xA at q
  cases c:hZ ws z p with
  |none =>
   rw[c] at q o1;obtain rfl:v=.aJ:=o1;walk_at "rz";exact q _ _ k1 rfl
  |some x =>
   rw[c] at q o1;obtain⟨t,e⟩:=x;obtain⟨h1,_,h3,h4⟩:=dP hne c;obtain⟨b,rfl,hb1⟩:=o1;dsimp only at q h1 h3 h4 hb1;have sb:=aF hb1;have ne:¬ V.ref b=V.aJ:=V.noConfusion;have a0:cq [V.int (t:Int),V.int (e:Int)] 0=some (.int (t:Int)):=rfl;have a1:cq [V.int (t:Int),V.int (e:Int)] 1=some (.int (e:Int)):=rfl;walk_at "rz";simp only[sb,a0,a1,if_neg ne];walk_at "rz";by_cases c0:t=0
   ·subst c0;rw[Ig rfl] at q;rw[Ig (by rfl)]
    exact q _ _ k1 ⟨b,rfl,hb1⟩
   ·rw[H_ c0] at q;have ci:¬ ((t:Nat):Int)=0:=by lia
    rw[H_ ci,hN];clear hN N;refine aq λN hN=>?_;walk_at "rz";simp only[sb,a0,a1];walk_at "rz";have eb:(e:Int)+(t:Int)-1=((e+(t-1):Nat):Int):=by lia
    rw[eb,hN];clear hN N;refine aq λN hN=>?_;walk_at "rz";refine⟨by rw[av];exact Ia hz (by decide),?_⟩
    rw[av];by_cases cl:e+(t-1)<=z.length
    ·rw[Ig cl] at q;rw[H_ (by lia),hN];clear hN N
     walk_at "rz";simp only[sb,a0,a1];have hb2:=hb.cut e (t-1);have hll:((z.drop e).take (t-1)).length<=20:=by rw[IF];lia
     have hcl:(49::(z.drop e).take (t-1)).length<=21:=by rw[Iq];lia
     refine⟨(e:Int),rfl,wd z,rfl,by rw[av];exact Ia hz (by decide),?_⟩
     rw[sf z _ _ (by lia) cl,JJ,show Str.ofString "1"=wd [49] from by decide +kernel]
     show _/\AI [.str (wd [49]++wd ((z.drop e).take (t-1))),.int 2] H1 _;rw[Au,av,av];refine⟨Ia (show _<=21 by rw[KH];lia) (by decide),_,rfl,by rw[av];exact Ia hcl (by decide),λc hc=>?_,by simp[wd],by decide,λb2 hb2'=>?_⟩
     ·rcases Ih.mp (show c∈49::(z.drop e).take (t-1) from hc) with rfl|hc
      ·exact .inr rfl
      ·exact hb2 c hc
     ·exact q _ _ (k1.trans (KB.new hb2')) ⟨b2,rfl,by rw[aa];rfl⟩
    ·rw[H_ cl] at q;rw[Ig (by lia)]
     exact q _ _ k1 rfl
noncomputable def b6:Nat->List Nat
 |0=>[48]
 |1=>[49,48]
 |_=>[49,49]
noncomputable def aP:Nat->Nat
 |0=>4
 |1=>8
 |_=>16
noncomputable def cy(k:Nat):Int:=if k=0 then 8 else if k=1 then 128 else 32768
noncomputable def mK:List (List Nat):=[b6 0,b6 1,b6 2]
theorem lp{k:Nat}(h:k<3):k=0\/k=1\/k=2:=by lia
theorem pq:∀w∈mK,w≠[]:=by decide
theorem w6{k:Nat}(h:k<3):mK.getD k []=b6 k:=by rcases lp h with rfl|rfl|rfl<;>rfl
noncomputable def BV(k n:Nat):Int:=if cy k<=(n:Int) then (n:Int)-2*cy k else (n:Int)
noncomputable def gA(z:List Nat)(p:Nat):Option (Int×Nat):=match hZ mK z p with
 |none=>none
 |some x=>if x.2+aP x.1<=z.length then some (BV x.1 (dX ((z.drop x.2).take (aP x.1))),x.2+aP x.1) else none
theorem EW:[V.str (Str.ofString "0"),.str (Str.ofString "10"),.str (Str.ofString "11")]=wV mK:=by
 rw[show Str.ofString "0"=wd [48] from by decide +kernel,show Str.ofString "10"=wd [49,48] from by decide +kernel,show Str.ofString "11"=wd [49,49] from by decide +kernel]
 rfl
noncomputable def HI(H:Hp)(v:V):Option (Int×Nat)->Prop
 |none=>v=.aJ
 |some x=>∃t,v=.ref t/\H t=some (.tup [.int ((x.2:Int)+x.1),.int (x.2:Nat)])
noncomputable def n8(K:W.Frag):Sp:=λvs H Q _=>∃(z:List Nat) (p:Nat),vs=[.str (wd z),.int (p:Nat)]/\cQ z/\z.length<=1000000/\∀v H',KB [] H H'->HI H' v (gA z p)->Q v H'
theorem sv(T:Txt K mg)(F:HasFn K mg "goal_at" ie ["bits","place"])(hcoded_at:ai P w K mg base bf 2 "coded_at" ["code","bits","place"] (gM K)):ai P w K mg base bf 3 "goal_at" ["bits","place"] (n8 K):=by
 refine F.fN cH (λvs H Q E h=>?_) (λf cdv A outer s H vs Q E hr h=>?_)
 ·obtain⟨z,p,rfl,_⟩:=h;rfl
 ·have hu:=ba hr;obtain⟨z,p,rfl,hb,hz,q⟩:=h;obtain⟨aE,hg_HEADS,sE⟩:=T.y9;obtain⟨aW,hg_WIDTHS,sW⟩:=T.xm;obtain⟨aV,hg_HALVES,sV⟩:=T.uX;have hr_HEADS:RelV (.ref aE) (.ref aE):=rfl;have hr_WIDTHS:RelV (.ref aW) (.ref aW):=rfl;have hr_HALVES:RelV (.ref aV) (.ref aV):=rfl;refine⟨_,(Z.ag (Z.se (i:=2) cH.nd (Z.fc hcoded_at (Z.cons (Z.glob rfl hg_HEADS hr_HEADS) (Z.cons (Z.v 0) (Z.cons (Z.v 1) Z.nil)))))
   (Z.ag (Z.cN (Z.aR bQ (Z.v 2) Z.aJ) (Z.au (Z.ret Z.aJ)) Z.bo)
   (Z.ag (Z.se (i:=3) cH.nd (Z.ix (Z.aC K rfl hu) (Z.v 2) Z.int))
   (Z.ag (Z.se (i:=4) cH.nd (Z.op (Z.aK K rfl) (Z.ix (Z.aC K rfl hu) (Z.v 2) Z.int) (Z.ix (Z.nS K rfl) (Z.glob rfl hg_WIDTHS hr_WIDTHS) (Z.v 3))))
   (Z.ag (Z.cN (Z.aR A_ (Z.v 4) (Z.cb (Z.bB K rfl) rfl T.b8 (by decide +kernel) (Z.cons (Z.v 0) Z.nil))) (Z.au (Z.ret Z.aJ)) Z.bo)
   (Z.ag (Z.se (i:=5) cH.nd (Z.ct kD rfl T.rm (by decide +kernel) (Z.cons (Z.slice Y.dG (Z.v 0) (Z.jZ (Z.ix (Z.aC K rfl hu) (Z.v 2) Z.int)) (Z.jZ (Z.v 4))) (Z.cons Z.int Z.nil))))
   (Z.ag (Z.cN (Z.aR u_ (Z.v 5) (Z.ix (Z.nS K rfl) (Z.glob rfl hg_HALVES hr_HALVES) (Z.v 3))) (Z.au (Z.se (i:=5) cH.nd (Z.op bY (Z.v 5) (Z.op bO Z.int (Z.ix (Z.nS K rfl) (Z.glob rfl hg_HALVES hr_HALVES) (Z.v 3)))))) Z.bo)
   (Z.au (Z.ret (Z.tup (Z.cons (Z.op (Z.aK K rfl) (Z.v 4) (Z.v 5)) (Z.cons (Z.v 4) Z.nil)))))))))))),?_⟩
  refine aq λN hN=>?_;walk_at "rz";refine⟨aE,mK,z,p,rfl,by rw[<- EW];exact sE H,pq,by decide,hz,λv H1 k1 o1=>?_⟩
  rw[hN];clear hN N;refine aq λN hN=>?_;unfold gA at q
  cases c:hZ mK z p with
  |none =>
   rw[c] at q o1;obtain rfl:v=.aJ:=o1;walk_at "rz";exact q _ _ k1 rfl
  |some x =>
   rw[c] at q o1;obtain⟨k,e⟩:=x;obtain⟨h1,_,h3,h4⟩:=dP pq c;obtain⟨b,rfl,hb1⟩:=o1;dsimp only at q h1 h3 h4 hb1;have hk:k<3:=h1;have sb:=aF hb1;have ne:¬ V.ref b=V.aJ:=V.noConfusion;have a0:cq [V.int (k:Int),V.int (e:Int)] 0=some (.int (k:Int)):=rfl;have a1:cq [V.int (k:Int),V.int (e:Int)] 1=some (.int (e:Int)):=rfl;walk_at "rz";rw[if_neg ne,hN];clear hN N;refine aq λN hN=>?_;walk_at "rz";simp only[sb,a0,a1];rw[hN];clear hN N;refine aq λN hN=>?_;walk_at "rz";simp only[sb,a0,a1];have aw:cq [V.int 4,.int 8,.int 16] (k:Int)=some (.int (aP k:Nat)):=by rcases lp hk with rfl|rfl|rfl<;>rfl
   have ah:cq [V.int 8,.int 128,.int 32768] (k:Int)=some (.int (cy k)):=by rcases lp hk with rfl|rfl|rfl<;>rfl
   have h16:aP k<=16/\0<aP k:=by rcases lp hk with rfl|rfl|rfl<;>decide
   refine⟨aW,_,_,_,rfl,rfl,sW H1,aw,?_⟩;show N [_,_,_,_,some (V.int ((e:Int)+(aP k:Nat))),none] H1;rw[show (e:Int)+(aP k:Nat)=((e+aP k:Nat):Int) by lia,hN];clear hN N
   refine aq λN hN=>?_;walk_at "rz";refine⟨by rw[av];exact Ia hz (by decide),?_⟩
   rw[av];by_cases cl:e+aP k<=z.length
   ·rw[Ig cl] at q;rw[H_ (by lia),hN];clear hN N
    refine aq λN hN=>?_;walk_at "rz";simp only[sb,a0,a1];have hb2:=hb.cut e (aP k);have hl2:((z.drop e).take (aP k)).length=aP k:=by rw[IF,IQ];lia
    refine⟨(e:Int),rfl,wd z,rfl,by rw[av];exact Ia hz (by decide),?_⟩
    rw[sf z _ _ (by lia) cl,JJ]
    refine⟨_,rfl,by rw[av,hl2];lia,hb2,λe0=>by have e1:(z.drop e).take (aP k)=[]:=e0;rw[e1] at hl2;simp at hl2;lia,?_⟩
    rw[show (wd ((z.drop e).take (aP k))).cps.toList=(z.drop e).take (aP k) from rfl];generalize dX ((z.drop e).take (aP k))=n at *;unfold BV at q;show N _ _;rw[hN];clear hN N;refine aq λN hN=>?_;walk_at "rz";refine⟨aV,_,_,_,rfl,rfl,sV H1,ah,_,_,rfl,rfl,_,rfl,?_⟩;have fin:∀d:Int,d=(if cy k<=(n:Int) then (n:Int)-2*cy k else (n:Int))->N [some (.str (wd z)),some (.int (p:Nat)),some (.ref b),some (.int (k:Nat)),some (.int ((e+aP k:Nat):Int)),some (.int d)] H1:=λd ed=>by
     rw[hN];clear hN N;walk_at "rz";refine⟨by decide,λb2 hb2'=>q _ _ (k1.trans (KB.new hb2')) ⟨b2,rfl,?_⟩⟩
     rw[aa,ed]
    by_cases ch:cy k<=(n:Int)
    ·rw[Ig (IM ch)];refine⟨aV,_,_,_,rfl,rfl,sV H1,ah,?_⟩;exact⟨.inl (by decide),_,_,rfl,rfl,fin _ (by rw[Ig ch])⟩
    ·rw[H_ (by rw[IE ch];exact Il)]
     exact fin _ (by rw[H_ ch])
   ·rw[H_ cl] at q;rw[Ig (by lia)]
    exact q _ _ k1 rfl
theorem Hz{b:Nat}(h:b<8):b=0\/b=1\/b=2\/b=3\/b=4\/b=5\/b=6\/b=7:=by lia
inductive Row where
 |put (b n:Nat)|two (w:Fin 3) (a b:Nat)|one (w:Fin 2) (b:Nat)|jump (g:Nat)|zero (b g:Nat)|halt
 deriving DecidableEq
noncomputable def cX(i:Nat):Str:=⟨#[97+i]⟩
noncomputable def w2:Fin 3->Str
 |0=>"add"
 |1=>"sub"
 |2=>"copy"
noncomputable def w1:Fin 2->Str
 |0=>"tell"
 |1=>"hear"
inductive Gf where
 |s (z:Str)|n (k:Nat)
noncomputable def Row.ps:Row->List Gf
 |.put b n=>[.s "put",.s (cX b),.n n]
 |.two w a b=>[.s (w2 w),.s (cX a),.s (cX b)]
 |.one w b=>[.s (w1 w),.s (cX b)]
 |.jump g=>[.s "jump",.n g]
 |.zero b g=>[.s "zero",.s (cX b),.n g]
 |.halt=>[.s "halt"]
noncomputable def Row.Ok(size:Nat):Row->Prop
 |.put b n=>b<8/\n<65536
 |.two _ a b=>a<8/\b<8
 |.one _ b=>b<8
 |.jump g=>g<=size
 |.zero b g=>b<8/\g<=size
 |.halt=>True
theorem Row.Ok.mono{a b:Nat}{r:Row}(h:r.Ok a)(hm:a<=b):r.Ok b:=by
 cases r<;>simp only[Row.Ok] at h ⊢<;>lia
theorem wG{k:Int}(h0:0<=k)(h1:k<8):cq (Str.ofString "abcdefgh").cps.toList k=some (97+k.toNat):=by
 have e:(Str.ofString "abcdefgh").cps.toList=[97,98,99,100,101,102,103,104]:=by decide +kernel
 rw[e];obtain⟨n,rfl⟩:∃n:Nat,k=n:=⟨k.toNat,by lia⟩
 unfold cq ke;have hn:n<8:=by lia
 rw[Ig (by lia),Ig (by simp;lia)]
 show [97,98,99,100,101,102,103,104][((n:Nat):Int).toNat]?=some (97+((n:Nat):Int).toNat);rw[IY];rcases Hz hn with rfl|rfl|rfl|rfl|rfl|rfl|rfl|rfl<;>rfl
noncomputable def aL(ls:List Int)(t:Nat):Nat:=(ls.getD t 0).toNat
noncomputable def ax(ls:List Int):List Nat:=iN ls (List.range ls.length)
noncomputable def wordsOf(nx:List Nat->Nat->List Nat)(ls:List Int):List (List Nat):=(Cw.along nx (aL ls) (ax ls) (none,List.replicate ls.length [])).2
noncomputable def eK(ls:List Int)(done:List Nat):Option (List Nat)×List (List Nat):=Cw.along Cw.dm (aL ls) done (none,List.replicate ls.length [])
theorem qP{v:List Nat}{n:Nat}(hv:v.length<=40)(hn:n<=40):(Cw.dm v n).length<=40:=by
 have h1:((v.reverse.dropWhile (· == 49)).reverse.dropLast).length<=39:=by
  rw[List.length_dropLast,Kt];have:=(L8 (· == 49) (l:=v.reverse)).length_le;rw[Kt] at this;lia
 unfold Cw.dm Cw.pad;rw[HX,Iu,HX,KH];lia
theorem hJ(h:t∈ax ls):t<ls.length:=Jc.mp ((jK (by rw[IP])).mem_iff.mp h)
theorem CC(ls:List Int)(done:List Nat):(eK ls done).2.length=ls.length:=by
 unfold eK;rw[Cw.fB,Iu]
namespace Cw
noncomputable def Dv(a b:List Nat):Prop:=∃u,u++[48] <+: a/\u++[49] <+: b
theorem nq{u v:List Nat}{c d:Nat}(h1:u++[c] <+: b)(h2:v++[d] <+: b)(hl:u.length<v.length):u++[c] <+: v:=by
 have h3:v <+: b:=(Mj v [d]).trans h2;exact Kv h1 h3 (by rw[HX];exact hl)
theorem Dv.trans{a c:List Nat}(h:Dv a b)(g:Dv b c):Dv a c:=by
 obtain⟨u,h1,h2⟩:=h;obtain⟨v,g1,g2⟩:=g;rcases Mq u.length v.length with e|e|e
 ·exact⟨u,h1,(nq h2 g1 e).trans ((Mj v [49]).trans g2)⟩
 ·have p1:(u++[49]).length=(v++[48]).length:=by rw[HX,HX,e];rfl
  have p2:u++[49]=v++[48]:=(Kv h2 g1 (by lia)).eq_of_length p1
  have p3:[49]=[48]:=(List.append_inj' p2 rfl).2;exact absurd p3 (by decide)
 ·exact⟨v,(nq g1 h2 e).trans ((Mj u [48]).trans h1),g2⟩
theorem Dv.not{a:List Nat}(h:Dv a b):¬ a <+: b/\¬ b <+: a:=by
 obtain⟨u,h1,h2⟩:=h;have key:∀c,u++[48] <+: c->u++[49] <+: c->False:=λc p q=>by
  have e:u++[48]=u++[49]:=(Kv p q (by simp)).eq_of_length (by simp)
  exact absurd (List.append_cancel_left e) (by decide)
 exact⟨λp=>key b (h1.trans p) h2,λp=>key a h1 (h2.trans p)⟩
theorem Dv.lt{a:List Nat}(h:Dv a b):a<b:=by
 obtain⟨u,⟨x,rfl⟩,⟨y,rfl⟩⟩:=h
 induction u with
 |nil=>exact List.Lex.rel (by decide)
 |cons c u ih=>exact List.Lex.cons ih
theorem yr{w:List Nat}{n:Nat}(hb:∀c∈w,c=48\/c=49)(h:w.all (· == 49)=false):Dv w (ee w n):=by
 obtain⟨p,k,rfl⟩:=parts hb h;unfold ee pad;rw[fE];exact⟨p,⟨List.replicate k 49,by simp⟩,⟨List.replicate k 48++List.replicate (n-(p++49::List.replicate k 48).length) 48,by simp⟩⟩
noncomputable def ka(ln:Nat->Nat)(a:Option (List Nat))(t:Nat):List Nat:=match a with
 |none=>List.replicate (ln t) 48
 |some v=>dm v (ln t)
noncomputable def jk(ln:Nat->Nat):Option (List Nat)->List Nat->List (List Nat)
 |_,[]=>[]
 |a,t::r=>ka ln a t::jk ln (some (ka ln a t)) r
theorem xK:∀(order done:List Nat) (a:Option (List Nat)),(order.Pairwise λi j=>ln i<=ln j)->(∀t∈order,ln t<=40)->(∀v,a=some v->fW done v/\∀t∈order,v.length<=ln t)->(a=none->done=[])->Kr.ks 40 (done++order.map ln)<=2^40 ->
  (∀v,a=some v->∀x∈jk ln a order,Dv v x)/\(jk ln a order).Pairwise Dv/\∀(i t:Nat),order[i]?=some t->∃w,(jk ln a order)[i]?=some w/\w.length=ln t
 |[],_,_,_,_,_,_,_=>⟨λ_ _ x hx=>(by cases hx),List.Pairwise.nil,λi t e=>(by cases e)⟩
 |t::r,done,a,hp,h40,ha,hn,hk=>by
  obtain⟨p1,p2⟩:=IS.mp hp;have ht:=h40 t Ij;have hk':Kr.ks 40 ((done++[ln t])++r.map ln)<=2^40:=by rw[II];exact hk
  have fin:∀w:List Nat,w=ka ln a t->fW (done++[ln t]) w->w.length=ln t->(∀v,a=some v->Dv v w) ->
    (∀v,a=some v->∀x∈jk ln a (t::r),Dv v x)/\(jk ln a (t::r)).Pairwise Dv/\∀(i s:Nat),(t::r)[i]?=some s->∃w,(jk ln a (t::r))[i]?=some w/\w.length=ln s:=λw ew hH hl hd=>by
   obtain⟨q1,q2,q3⟩:=xK r (done++[ln t]) (some w) p2 (λx hx=>h40 x (Ik _ hx)) (λv e=>by cases e;exact⟨hH,λx hx=>by rw[hl];exact p1 x hx⟩) (λe=>by cases e) hk'
   have es:jk ln a (t::r)=w::jk ln (some w) r:=by rw[ew];rfl
   rw[es];refine⟨λv e x hx=>?_,IS.mpr ⟨λx hx=>q1 w rfl x hx,q2⟩,λi s e=>?_⟩
   ·rcases Ih.mp hx with rfl|hx
    ·exact hd v e
    ·exact (hd v e).trans (q1 w rfl x hx)
   ·cases i with
    |zero=>cases e;exact⟨w,rfl,hl⟩
    |succ i=>exact q3 i s (by simpa using e)
  cases a with
  |none =>
   have:=hn rfl;subst this;exact fin _ rfl (fW.first ht) (show (List.replicate (ln t) 48).length=ln t by rw[Iu]) (λv e=>by cases e)
  |some v =>
   obtain⟨hv,hl⟩:=ha v rfl;have hvl:=hl t Ij;have hk2:Kr.ks 40 done+2^(40-ln t)<=2^40:=by
    rw[Kr.bV,Kr.bV] at hk';simp[Kr.ks] at hk'
    omega
   have z:=hv.zero (rest:=[]) hk2;have e:=la hv.bits z hvl;refine fin _ rfl ?_ ?_ ?_
   ·show fW _ (dm v (ln t));rw[e];exact hv.next hvl ht hk2
   ·show (dm v (ln t)).length=_;rw[e];exact dw hvl
   ·intro u eu;cases eu;show Dv v (dm v (ln t));rw[e];exact yr hv.bits z
theorem ny:∀(order:List Nat) (a:Option (List Nat)) (ws:List (List Nat)),order.Nodup->(∀t∈order,t<ws.length)->(∀(i t:Nat),order[i]?=some t->(along dm ln order (a,ws)).2[t]?=(jk ln a order)[i]?)/\∀t,t∉order->(along dm ln order (a,ws)).2[t]?=ws[t]?
 |[],_,_,_,_=>⟨λi t e=>(by cases e),λ_ _=>rfl⟩
 |t::r,a,ws,hn,hl=>by
  obtain⟨n1,n2⟩:=JK.mp hn;have ht:=hl t Ij;have ea:along dm ln (t::r) (a,ws)=along dm ln r (some (ka ln a t),ws.set t (ka ln a t)):=by cases a<;>rfl
  rw[ea];obtain⟨q1,q2⟩:=ny r (some (ka ln a t)) (ws.set t (ka ln a t)) n2 (λx hx=>by rw[K0];exact hl x (Ik _ hx))
  refine⟨λi s e=>?_,λs hs=>?_⟩
  ·cases i with
   |zero =>
    cases e;exact (q2 t n1).trans (by rw[Ke ht];rfl)
   |succ i=>exact q1 i s (by simpa using e)
  ·have h1:s≠t:=λz=>hs (by rw[z];exact Ij)
   have h2:s∉r:=λz=>hs (Ik _ z);exact (q2 s h2).trans (by rw[KO (I_ h1)])
noncomputable def Lx(p q:Int×Nat):Prop:=p.1<q.1\/(p.1=q.1/\p.2<q.2)
theorem xv{p:Int×Nat}:∀{l:List (Int×Nat)},l.Pairwise Lx->(∀q∈l,p.2<q.2)->(gH p l).Pairwise Lx
 |[],_,_=>MJ _ _
 |q::r,h,hp=>by
  obtain⟨h1,h2⟩:=IS.mp h;have hq:=hp q Ij;unfold gH;split
  ·rename_i c;refine IS.mpr ⟨λz hz=>?_,h⟩;have hz2:=hp z hz;have:q.1<=z.1:=by
    rcases Ih.mp hz with rfl|hz
    ·exact MU _
    ·have:=h1 z hz;unfold Lx at this;omega
   unfold Lx;omega
  ·rename_i c;refine IS.mpr ⟨λz hz=>?_,xv h2 λz hz=>hp z (Ik _ hz)⟩;rcases Ih.mp ((fC p r).mem_iff.mp hz) with rfl|hz
   ·unfold Lx;omega
   ·exact h1 z hz
theorem qV:∀{l:List (Int×Nat)},(l.Pairwise λp q=>p.2<q.2)->(d8 l).Pairwise Lx
 |[],_=>.nil
 |p::r,h=>by
  obtain⟨h1,h2⟩:=IS.mp h;exact xv (qV h2) λq hq=>h1 q ((dk r).mem_iff.mp hq)
end Cw
structure Canon (ls:List Int) (W:List (List Nat)):Prop where
 len:W.length=ls.length
 EC:∀t,t<ls.length->(W.getD t []).length=aL ls t
 part:∀s t,s<ls.length->t<ls.length->(ls.getD s 0<ls.getD t 0\/(ls.getD s 0=ls.getD t 0/\s<t))->Cw.Dv (W.getD s []) (W.getD t [])
theorem kM(ls:List Int):ls.zip (List.range ls.length)=(List.range ls.length).map λt=>(ls.getD t 0,t):=by
 apply Kp
 ·simp
 ·intro i h1 h2;simp at h1;simp[h1]
theorem canon(hL:jm ls)(hk:KS ls<=2^40):Canon ls (wordsOf Cw.dm ls):=by
 have hS:(Cw.Lx · ·)=(Cw.Lx · ·):=rfl;have hlx:(d8 (ls.zip (List.range ls.length))).Pairwise Cw.Lx:=by
  refine Cw.qV ?_;rw[kM];exact JZ.mpr L7
 have hmem:∀p∈d8 (ls.zip (List.range ls.length)),p.1=ls.getD p.2 0/\p.2<ls.length:=λp hp=>by
  have:=(dk _).mem_iff.mp hp;rw[kM] at this;obtain⟨t,ht,rfl⟩:=Jg.mp this;exact⟨rfl,Jc.mp ht⟩
 have hord:(ax ls).Pairwise λs t=>ls.getD s 0<ls.getD t 0\/(ls.getD s 0=ls.getD t 0/\s<t):=by
  unfold ax iN;refine JZ.mpr (hlx.imp_of_mem λ{p q} hp hq h=>?_);rw[<- (hmem p hp).1,<- (hmem q hq).1];exact h
 have hperm:(ax ls).Perm (List.range ls.length):=jK (by rw[IP])
 have hnd:(ax ls).Nodup:=hperm.nodup_iff.mpr MF;have hb:∀t,t<ls.length->1<=ls.getD t 0/\ls.getD t 0<=40:=λt ht=>by
  rw[Ic,HV ht];have:=hL.2.2 _ (IH ht);show 1<=ls[t]/\ls[t]<=40;lia
 have hmm:∀t∈ax ls,t<ls.length:=λt ht=>hJ ht;have hks:Kr.ks 40 ([]++(ax ls).map (aL ls))<=2^40:=by
  rw[Jt,Kr.gW (hperm.map (aL ls))];have e:(List.range ls.length).map (aL ls)=ls.map Int.toNat:=by
   apply Kp
   ·simp
   ·intro i h1 h2;simp at h1;simp[aL,h1]
  rw[e];exact hk
 obtain⟨_,q2,q3⟩:=Cw.xK (ln:=aL ls) (ax ls) [] none (hord.imp_of_mem λ{s t} hs ht h=>by
  have:=hb s (hmm s hs);have:=hb t (hmm t ht);unfold aL;omega) (λt ht=>by have:=hb t (hmm t ht);unfold aL;omega) (λv e=>by cases e) (λ_=>rfl) hks
 obtain⟨a1,_⟩:=Cw.ny (ln:=aL ls) (ax ls) none (List.replicate ls.length []) hnd (λt ht=>by rw[Iu];exact hmm t ht)
 have hat:∀t,t<ls.length->∃i w,(ax ls)[i]?=some t/\(Cw.jk (aL ls) none (ax ls))[i]?=some w/\w.length=aL ls t/\(wordsOf Cw.dm ls).getD t []=w:=λt ht=>by
  obtain⟨i,hi⟩:=LG.mp (hperm.mem_iff.mpr (Jc.mpr ht));obtain⟨w,hw,hl⟩:=q3 i t hi;refine⟨i,w,hi,hw,hl,?_⟩;unfold wordsOf;rw[Ic,a1 i t hi,hw];rfl
 refine⟨?_,λt ht=>?_,λs t hs ht h=>?_⟩
 ·unfold wordsOf;rw[Cw.fB,Iu]
 ·obtain⟨i,w,_,_,hl,e⟩:=hat t ht;rw[e];exact hl
 ·obtain⟨i,w,h1,h2,_,e⟩:=hat s hs;obtain⟨j,v,g1,g2,_,e'⟩:=hat t ht;rw[e,e'];obtain⟨hi,rfl⟩:=HZ.mp h2;obtain⟨hj,rfl⟩:=HZ.mp g2;obtain⟨hi',ei⟩:=HZ.mp h1;obtain⟨hj',ej⟩:=HZ.mp g1;have hij:i<j:=by
   rcases Mq i j with c|c|c
   ·exact c
   ·subst c;have est:s=t:=ei.symm.trans ej;subst est
    exfalso;omega
   ·have:=JS.mp hord j i hj' hi' c;rw[ei,ej] at this
    exfalso;omega
  exact JS.mp q2 i j hi hj hij
noncomputable def dg(n:Int):Nat:=48+(n % 2).toNat
noncomputable def cO:Int->Nat->List Nat->List Nat
 |_,0,acc=>acc
 |n,k+1,acc=>cO (n / 2) k (dg n::acc)
theorem dW:∀(k:Nat) (n:Int) (acc:List Nat),(cO n k acc).length=k+acc.length
 |0,_,_=>by rw[cO,Ls]
 |k+1,n,acc=>by rw[cO,dW k,Iq];lia
theorem Bx(n:Int):dg n=48\/dg n=49:=by
 unfold dg;have:n % 2=0\/n % 2=1:=by lia
 rcases this with e|e<;>rw[e]
 ·exact .inl rfl
 ·exact .inr rfl
theorem gn:∀(k:Nat) (n:Int) (acc:List Nat),(∀c∈acc,c=48\/c=49)->∀c∈cO n k acc,c=48\/c=49
 |0,_,_,h=>h
 |k+1,n,acc,h=>gn k (n / 2) (dg n::acc) λc hc=>by
  rcases Ih.mp hc with rfl|hc
  ·exact Bx n
  ·exact h c hc
theorem EF(n:Int):cq (Str.ofString "01").cps.toList (n % 2)=some (dg n):=by
 have:n % 2=0\/n % 2=1:=by lia
 unfold dg;rcases this with e|e<;>rw[e]
 ·exact (by decide +kernel)
 ·exact (by decide +kernel)
theorem fe(a b:List Nat):wd a++wd b=wd (a++b):=by
 apply xy;show (a.toArray++b.toArray).toList=_;simp
theorem pU:Str.ofString ""=wd []:=by decide +kernel
noncomputable def eR(n:Nat):Nat:=Builtin.Int.intBits (n:Int)
noncomputable def jD(n:Nat):List Nat:=cO (n:Int) (eR n) []
theorem lW{n:Nat}(h:n<65536):eR n<17:=by
 unfold eR Builtin.Int.intBits;split
 ·decide
 ·rename_i hz;have h0:n≠0:=λz=>hz (by rw[z];rfl)
  show (n:Int).natAbs.log2+1<17;rw[Int.natAbs_natCast];have:=(Nat.log2_lt (n:=n) (k:=16) h0).mpr (by lia)
  lia
noncomputable def ow(k:Nat)(d:Int):List Nat:=b6 k++cO d (aP k) []
noncomputable def Row.wi:Row->Nat
 |.put _ _=>0
 |.two u _ _=>1+u
 |.one u _=>4+u
 |.jump _=>6
 |.zero _ _=>7
 |.halt=>8
theorem Row.qS(r:Row):r.wi<9:=by
 cases r with
 |two u a b=>exact (by decide:∀u:_root_.Fin 3,1+(u:Nat)<9) u
 |one u b=>exact (by decide:∀u:_root_.Fin 2,4+(u:Nat)<9) u
 |put b n=>exact (by decide:0<9)
 |jump g=>exact (by decide:6<9)
 |zero b g=>exact (by decide:7<9)
 |halt=>exact (by decide:8<9)
inductive Pk where
 |box (b:Nat)|num (n:Nat)|goal (g:Nat)
noncomputable def Pk.kd:Pk->Str
 |.box _=>"box"
 |.num _=>"number"
 |.goal _=>"goal"
noncomputable def Pk.Ok:Pk->Prop
 |.box b=>b<8
 |.num n=>n<65536
 |.goal _=>True
noncomputable def Pk.Gr:Pk->List (Nat×Nat)
 |.box b=>[(2,b)]
 |.num n=>[(1,eR n)]
 |.goal _=>[]
noncomputable def Row.wd:Row->Str
 |.put _ _=>"put"
 |.two u _ _=>w2 u
 |.one u _=>w1 u
 |.jump _=>"jump"
 |.zero _ _=>"zero"
 |.halt=>"halt"
noncomputable def Row.gv:Row->List Pk
 |.put b n=>[.box b,.num n]
 |.two _ a b=>[.box a,.box b]
 |.one _ b=>[.box b]
 |.jump g=>[.goal g]
 |.zero b g=>[.box b,.goal g]
 |.halt=>[]
theorem Row.xO{r:Row}{k:Nat}(h:r.Ok k):∀p∈r.gv,p.Ok:=by
 cases r with
 |put b n=>simp only[Row.gv,Ih,IT,JW];exactλp z=>z.elim (λe=>e ▸ h.1) λe=>e ▸ h.2
 |two u a b=>simp only[Row.gv,Ih,IT,JW];exactλp z=>z.elim (λe=>e ▸ h.1) λe=>e ▸ h.2
 |one u b=>simp only[Row.gv,Ih,IT,JW];rintro p rfl;exact h
 |jump g=>simp only[Row.gv,Ih,IT,JW];rintro p rfl;exact trivial
 |zero b g=>simp only[Row.gv,Ih,IT,JW];exactλp z=>z.elim (λe=>e ▸ h.1) λe=>e ▸ trivial
 |halt=>simp[Row.gv]
noncomputable def lK(r:Row):List (Nat×Nat):=(0,r.wi)::r.gv.flatMap Pk.Gr
noncomputable def aZ:List Str:=["put","add","sub","copy","tell","hear","jump","zero","halt"]
theorem Ew:∀k,k<9->∀m,m<k->aZ[m]?≠aZ[k]?:=by decide +kernel
theorem AW(r:Row):aZ[r.wi]?=some r.wd/\∀m,m<r.wi->aZ[m]?≠some r.wd:=by
 have h1:aZ[r.wi]?=some r.wd:=by
  cases r with
  |two u a b=>exact (by decide +kernel:∀u:_root_.Fin 3,aZ[1+(u:Nat)]?=some (w2 u)) u
  |one u b=>exact (by decide +kernel:∀u:_root_.Fin 2,aZ[4+(u:Nat)]?=some (w1 u)) u
  |put b n=>rfl
  |jump g=>rfl
  |zero b g=>rfl
  |halt=>rfl
 exact⟨h1,λm hm=>by rw[<- h1];exact Ew _ r.qS m hm⟩
theorem Hi{b:Nat}(h:b<8):Builtin.Str.occurrences (Str.ofString "abcdefgh") (cX b) 0 (Str.ofString "abcdefgh").length 1=[b]:=by
 rcases Hz h with rfl|rfl|rfl|rfl|rfl|rfl|rfl|rfl<;>decide +kernel
noncomputable def cJ:List (Str×List Str):=[("put",["box","number"]),("add",["box","box"]),("sub",["box","box"]),("copy",["box","box"]),("tell",["box"]),("hear",["box"]),("jump",["goal"]),("zero",["box","goal"]),("halt",[])]
noncomputable def Ep:List Str:=["a","b","c","d","e","f","g","h"]
theorem Cs{b:Nat}(h:b<8):Ep[b]?=some (cX b)/\∀m,m<b->Ep[m]?≠some (cX b):=(by decide +kernel:∀b,b<8->Ep[b]?=some (cX b)/\∀m,m<b->Ep[m]?≠some (cX b)) b h
theorem jn:∀(o:List Nat) (a:Option (List Nat)) (ws:List (List Nat)),(∀t∈o,ln t<=40)->(∀v,a=some v->v.length<=40)->(∀x∈ws,x.length<=40)->∀x∈(Cw.along Cw.dm ln o (a,ws)).2,x.length<=40
 |[],_,_,_,_,h=>h
 |t::o,a,ws,ho,ha,hw=>by
  have ht:=ho t Ij;have h2:=λt h=>ho t (Ik _ h)
  cases a with
  |none =>
   refine jn o (some (List.replicate (ln t) 48)) _ h2 (λv e=>by cases e;rw[Iu];exact ht) λx hx=>?_
   rcases J8 hx with z|z
   ·exact hw x z
   ·rw[z,Iu];exact ht
  |some v =>
   have hv:=qP (ha v rfl) ht;refine jn o (some (Cw.dm v (ln t))) _ h2 (λv e=>by cases e;exact hv) λx hx=>?_
   rcases J8 hx with z|z
   ·exact hw x z
   ·rw[z];exact hv
theorem uQ(hL:jm ls):∀x∈wordsOf Cw.dm ls,x.length<=40:=by
 refine jn _ _ _ (λt ht=>?_) (λv e=>by cases e) λx hx=>by rw[(JH.mp hx).2];decide
 have h:=hJ ht;have:=hL.2.2 _ (IH h);unfold aL;rw[Ic,HV h];show ls[t].toNat<=40;lia
theorem fJ(ls:List Int):(wordsOf Cw.dm ls).length=ls.length:=(Cw.fB _ _).trans (Iu ..)
structure Cd (cd:List (List (List Nat))):Prop where
 ex:∃a b c,cd=[a,b,c]/\a.length=9/\b.length=17/\c.length=8
 le:∀ws∈cd,∀x∈ws,x.length<=40
noncomputable def fV(cd:List (List (List Nat)))(p:Nat×Nat):List Nat:=(cd.getD p.1 []).getD p.2 []
noncomputable def vx:Row->List Nat
 |.put _ n=>(jD n).tail
 |_=>[]
noncomputable def dB(cd:List (List (List Nat)))(r:Row):List Nat:=(lK r).flatMap (fV cd)++vx r
noncomputable def Bk(bk:List (List Int)):Prop:=∃a b c,bk=[a,b,c]/\a.length=9/\b.length=17/\c.length=8/\∀l∈bk,jm l/\mP l=true
noncomputable def gu(bk:List (List Int)):List (List (List Nat)):=bk.map (wordsOf Cw.dm)
theorem Bk.cd{bk:List (List Int)}(h:Bk bk):Cd (gu bk):=by
 obtain⟨a,b,c,rfl,h1,h2,h3,h4⟩:=h;refine⟨⟨_,_,_,rfl,by rw[fJ,h1],by rw[fJ,h2],by rw[fJ,h3]⟩,λws hw=>?_⟩
 obtain⟨l,hl,rfl⟩:=Jg.mp hw;exact uQ (h4 l hl).1
theorem CG{r:Row}{k:Nat}(h:r.Ok k):∀p∈lK r,(p.1=0/\p.2<9)\/(p.1=1/\p.2<17)\/(p.1=2/\p.2<8):=by
 intro p hp;unfold lK at hp;rcases Ih.mp hp with rfl|hp
 ·exact .inl ⟨rfl,r.qS⟩
 ·obtain⟨q,hq,hp⟩:=List.mem_flatMap.mp hp;have:=Row.xO h q hq
  cases q with
  |box b=>rw[Ir.mp hp];exact .inr (.inr ⟨rfl,this⟩)
  |num n=>rw[Ir.mp hp];exact .inr (.inl ⟨rfl,lW this⟩)
  |goal n=>cases hp
theorem Cd.at{cd:List (List (List Nat))}(h:Cd cd){p:Nat×Nat}(hp:(p.1=0/\p.2<9)\/(p.1=1/\p.2<17)\/(p.1=2/\p.2<8)):cd[p.1]?=some (cd.getD p.1 [])/\(cd.getD p.1 [])[p.2]?=some (fV cd p)/\(fV cd p).length<=40:=by
 obtain⟨a,b,c,rfl,h1,h2,h3⟩:=h.ex;have key:∀(l:List (List Nat)) (i:Nat),i<l.length->l[i]?=some (l.getD i [])/\l.getD i []∈l:=λl i hi=>by
  rw[Ic,HV hi];exact⟨rfl,IH hi⟩
 obtain⟨x,y⟩:=p;rcases hp with ⟨rfl,hy⟩|⟨rfl,hy⟩|⟨rfl,hy⟩
 ·have:=key a y (by rw[h1];exact hy)
  exact⟨rfl,this.1,h.le a (by simp) _ this.2⟩
 ·have:=key b y (by rw[h2];exact hy)
  exact⟨rfl,this.1,h.le b (by simp) _ this.2⟩
 ·have:=key c y (by rw[h3];exact hy)
  exact⟨rfl,this.1,h.le c (by simp) _ this.2⟩
theorem zl(r:Row):(lK r).length<=3:=by cases r<;>simp[lK,Row.gv,Pk.Gr]
theorem yj{cd:List (List (List Nat))}{r:Row}{k:Nat}(hC:Cd cd)(h:r.Ok k):((lK r).flatMap (fV cd)).length<=120/\(vx r).length<=16:=by
 refine⟨?_,?_⟩
 ·have:∀l:List (Nat×Nat),(∀p∈l,(fV cd p).length<=40)->(l.flatMap (fV cd)).length<=40*l.length:=λl=>by
   induction l with
   |nil=>exactλ_=>Ib _
   |cons p l ih =>
    intro h;have h1:=h p Ij;have h2:=ih λq hq=>h q (Ik _ hq);rw[KC,HX,Iq];lia
  have h1:=this (lK r) λp hp=>(hC.at (CG h p hp)).2.2;have h2:=zl r;lia
 ·cases r with
  |put b n =>
   have:=lW (n:=n) h.2;show (jD n).tail.length<=16;rw[List.length_tail];unfold jD;rw[dW];simp only[Je];lia
  |_=>exact Iv _
noncomputable def nZ(l:List Nat):List Int:=l.map λk:Nat=>(k:Int)
theorem i8(l:List Nat):(nZ l).length=l.length:=HY ..
theorem Dd{l:List Nat}(h:Kr.ks 40 l<=2^40):mP (nZ l)=true:=by
 unfold mP KS nZ;rw[MD,show (Int.toNat ∘ λk:Nat=>(k:Int))=id from funext λk=>IY k,List.map_id];exact IM h
structure Pt (l:List Nat):Prop where
 ks:Kr.ks 40 l=2^40
 le:∀x∈l,x+1<=l.length
 one:l=[0]\/∀x∈l,1<=x
theorem Pt.pos{l:List Nat}(h:Pt l):1<=l.length:=by
 cases l with
 |nil=>have:=h.ks;simp[Kr.ks] at this
 |cons=>simp
theorem Pt.next{l l3:List Nat}{a:Nat}(h:Pt l)(ha:a<l.length)(hl:l.length<=17)(hp:l3.Perm ((l[a]+1)::(l[a]+1)::l.eraseIdx a)):Pt l3/\l3.length=l.length+1:=by
 have hpm:(l[a]::l.eraseIdx a).Perm l:=by
  rw[LI]
  conv=>rhs;rw[<- KJ a l,<- List.getElem_cons_drop ha]
  exact M7.symm
 have hle:=l.length_eraseIdx_of_lt ha;have hx:=h.le _ (IH ha);have h3:l3.length=l.length+1:=by
  rw[hp.length_eq,Iq,Iq,hle];lia
 have mem:∀y∈l3,y=l[a]+1\/y∈l.eraseIdx a:=λy hy=>by
  rcases Ih.mp (hp.mem_iff.mp hy) with z|z
  ·exact .inl z
  ·rcases Ih.mp z with z|z
   ·exact .inl z
   ·exact .inr z
 have mem2:∀y∈l.eraseIdx a,y∈l:=λy hy=>hpm.mem_iff.mp (Ik _ hy);refine⟨⟨?_,λy hy=>?_,.inr λy hy=>?_⟩,h3⟩
 ·have e1:=Kr.gW (L:=40) hpm;rw[h.ks,Kr.ks] at e1;rw[Kr.gW hp,Kr.ks,Kr.ks];have e2:2^(40-l[a])=2*2^(40-(l[a]+1)):=by rw[show 40-l[a]=(40-(l[a]+1))+1 by lia,N2];lia
  lia
 ·rw[h3];rcases mem y hy with rfl|z
  ·lia
  ·have:=h.le y (mem2 y z);lia
 ·rcases mem y hy with rfl|z
  ·lia
  ·rcases h.one with e|e
   ·subst e;have ha0:a=0:=by simpa using ha
    subst ha0;cases z
   ·exact e y (mem2 y z)
theorem Av(l:List α)(n:Nat)(x:α):(iz l n x).length=l.length+1:=by
 unfold iz;rw[HX,Iq,IF,IQ];lia
theorem mX(l:List α)(n:Nat)(x:α):(iz l n x).Perm (x::l):=by
 unfold iz;refine M7.trans ?_;rw[KJ]
theorem vC:∀{l:List Nat} {a z:Nat} (ha:a<l.length),l[a]<=z->Kr.ks 40 (l.set a z)<=Kr.ks 40 l
 |[],_,_,ha,_=>(nomatch ha)
 |x::l,0,z,_,h=>by
  have:2^(40-z)<=2^(40-x):=JX (by decide) (by have:x<=z:=h;lia)
  simp only[Mg,Kr.ks];lia
 |x::l,a+1,z,ha,h=>by
  have:=vC (l:=l) (a:=a) (z:=z) (by simpa using ha) (by simpa using h)
  simp only[List.set_cons_succ,Kr.ks];lia
theorem wJ{β:Type}{f:α->β}{o m:List β}(h:o.Perm m):∀l:List α,l.map f=m->∃k:List α,k.map f=o/\k.Perm l:=by
 induction h with
 |nil =>
  intro l e
  cases l with
  |nil=>exact⟨[],rfl,.nil⟩
  |cons=>cases e
 |cons x p ih =>
  intro l e
  cases l with
  |nil=>cases e
  |cons a l =>
   obtain⟨rfl,e2⟩:=List.cons.inj e;obtain⟨k,e3,p3⟩:=ih l e2;exact⟨a::k,by rw[IA,e3],p3.cons a⟩
 |swap x y l0 =>
  intro l e;rcases l with _|⟨a,_|⟨b,l⟩⟩
  ·cases e
  ·cases e
  ·obtain⟨rfl,e2⟩:=List.cons.inj e;obtain⟨rfl,e3⟩:=List.cons.inj e2;exact⟨b::a::l,by rw[<- e3];rfl,.swap ..⟩
 |trans p q ih1 ih2 =>
  intro l e;obtain⟨k,e1,p1⟩:=ih2 l e;obtain⟨k',e2,p2⟩:=ih1 k e1;exact⟨k',e2,p2.trans p1⟩
theorem As{p:List Nat}(hp:p.Perm (List.range ls.length))(hr:p.Pairwise (SP.R λi=>ls.getD i 0)):ax ls=p:=by
 have ez:(List.range ls.length).map (λi=>(ls.getD i 0,i))=ls.zip (List.range ls.length):=by
  apply Kp
  ·rw[HY,IP,MO,IP,M8]
  ·intro i h1 h2;rw[HY,IP] at h1;rw[MB,Mf,List.getElem_zip];simp[h1]
 have e1:p.map (λi=>(ls.getD i 0,i))=d8 (ls.zip (List.range ls.length)):=by
  refine nY ?_ λa=>?_
  ·exact JZ.mpr (hr.imp λh=>h.le)
  ·have fl:∀l:List Nat,atK a (l.map λi=>(ls.getD i 0,i))=(l.filter λi=>decide (ls.getD i 0=a)).map λi=>(ls.getD i 0,i):=λl=>by
    unfold atK;rw[List.filter_map];rfl
   rw[<- ez,fl,fl];congr 1;refine MC (le:=(· < ·)) (λa b _ _ h g=>absurd h (Nat.lt_asymm g)) ?_ (L7.filter _) (hp.filter _);rw[List.pairwise_filter];refine hr.imp λ{i j} h hi hj=>?_;have hi:=Jh hi;have hj:=Jh hj;rcases h with h|h
   ·exfalso;have h':ls.getD i 0<ls.getD j 0:=h;lia
   ·exact h.2
 unfold ax iN;rw[<- e1,MD];exact List.map_id _
noncomputable def mR(ls:List Int)(i:Nat):Int×Int:=(ls.getD i 0,(i:Int))
theorem sH{out:List (Int×Int)}(hp:out.Perm ((List.range ls.length).map (mR ls)))(hu:F_ out):out=(ax ls).map (mR ls)/\(ax ls).Pairwise (SP.R λi=>ls.getD i 0):=by
 obtain⟨p,rfl,pp⟩:=wJ hp (List.range ls.length) rfl;have hr:p.Pairwise (SP.R λi=>ls.getD i 0):=by
  have nd:p.Nodup:=pp.nodup_iff.mpr MF;unfold F_ at hu;rw[JZ] at hu;refine (hu.and nd).imp λ{i j} h=>?_;have h1:¬ ((mR ls j).1<(mR ls i).1\/((mR ls j).1=(mR ls i).1/\(mR ls j).2<(mR ls i).2)):=of_decide_eq_false h.1;have h1':¬ (ls.getD j 0<ls.getD i 0\/(ls.getD j 0=ls.getD i 0/\(j:Int)<(i:Int))):=h1;show ls.getD i 0<ls.getD j 0\/(ls.getD i 0=ls.getD j 0/\i<j);have:=h.2;lia
 rw[As pp hr];exact⟨rfl,hr⟩
theorem BZ(h:(ax ls).Pairwise (SP.R λi=>ls.getD i 0)):(ax ls).Pairwise λi j=>aL ls i<=aL ls j:=h.imp λ{i j} h=>by
 have h':ls.getD i 0<=ls.getD j 0:=h.le;unfold aL;lia
theorem sJ:∀(k:Nat) (w acc:List Nat),w.length=k->(∀c∈w,c=48\/c=49)->cO (Cw.val w:Int) k acc=w++acc:=by
 intro k
 induction k with
 |zero=>intro w acc h _;rw[Kx.mp h];rfl
 |succ k ih =>
  intro w acc h hb;obtain⟨v,c,rfl⟩:∃v c,w=v++[c]:=by
   rcases Ni w with e|⟨v,c,e⟩
   ·rw[e] at h;cases h
   ·exact⟨v,c,by rw[e,List.concat_eq_append]⟩
  have hc:=hb c (by simp)
  have ev:Cw.val (v++[c])=2*Cw.val v+(c-48):=by
   rw[Cw.gU];rcases hc with rfl|rfl
   ·simp[Cw.val];lia
   ·simp[Cw.val];lia
  rw[cO];have e1:((Cw.val (v++[c]):Nat):Int) / 2=(Cw.val v:Int):=by rw[ev];lia
  have e2:dg ((Cw.val (v++[c]):Nat):Int)=c:=by
   unfold dg;rw[ev];rcases hc with rfl|rfl
   ·have:((2*Cw.val v+(48-48):Nat):Int) % 2=0:=by lia
    rw[this];rfl
   ·have:((2*Cw.val v+(49-48):Nat):Int) % 2=1:=by lia
    rw[this];rfl
  rw[e1,e2,ih v (c::acc) (by rw[HX,KH] at h;lia) (λx hx=>hb x (by simp[hx])),II]
  rfl
theorem vT(ls:List Int):Kr.ks 40 ((ax ls).map (aL ls))=KS ls:=by
 unfold KS;refine Kr.gW ?_;have e:ls.map Int.toNat=(List.range ls.length).map (aL ls):=by
  apply Kp
  ·simp
  ·intro i h1 h2;have hi:i<ls.length:=by simpa using h1
   simp[aL,hi]
 rw[e];exact (jK (by rw[IP])).map _
structure At (ls:List Int) (done todo:List Nat) (a:Option (List Nat)) (n h:Int):Prop where
 all:done++todo=ax ls
 st:(a=none/\done=[]/\n=-1/\h=0)\/∃w,a=some w/\n=(Cw.val w:Int)/\h=(w.length:Int)/\Cw.fW (done.map (aL ls)) w/\∀t∈todo,w.length<=aL ls t
noncomputable def ka(a:Option (List Nat))(l:Nat):List Nat:=match a with|none=>List.replicate l 48|some v=>Cw.ee v l
theorem At.next{ls:List Int}{todo:List Nat}{a:Option (List Nat)}{n h:Int}{t:Nat}(x:At ls done (t::todo) a n h)(hL:jm ls)(ho:mP ls=true)(hu:(ax ls).Pairwise λi j=>aL ls i<=aL ls j):
  ∃d:Nat,(aL ls t:Int)-h=d/\d<=aL ls t/\(n+1)*2^d=(Cw.val (ka a (aL ls t)):Int)/\(ka a (aL ls t)).length=aL ls t/\(∀c∈ka a (aL ls t),c=48\/c=49)/\At ls (done++[t]) todo (some (ka a (aL ls t))) (Cw.val (ka a (aL ls t)):Int) (aL ls t:Int):=by
 have hall:(done++[t])++todo=ax ls:=by rw[II];exact x.all
 have htl:aL ls t<=40:=by
  have h:=hJ (ls:=ls) (t:=t) (by rw[<- x.all];simp)
  have:=hL.2.2 _ (IH h);unfold aL;rw[Ic,HV h];show ls[t].toNat<=40;lia
 have hk:Kr.ks 40 ((done++[t]++todo).map (aL ls))<=2^40:=by rw[hall,vT];exact Jh ho
 rw[IB,IB,Kr.bV,Kr.bV] at hk;have hle:∀u∈todo,aL ls t<=aL ls u:=λu hu'=>by
  rw[<- x.all] at hu;exact (IS.mp (Jz.mp hu).2.1).1 u hu'
 rcases x.st with ⟨rfl,rfl,rfl,rfl⟩|⟨w,rfl,rfl,rfl,hH,hw⟩
 ·refine⟨aL ls t,by lia,Ib _,?_,Iu ..,λc hc=>.inl (JH.mp hc).2,hall,.inr ⟨_,rfl,rfl,by rw[show ka none (aL ls t)=List.replicate (aL ls t) 48 from rfl,Iu],Cw.fW.first htl,λu hu'=>by rw[show ka none (aL ls t)=List.replicate (aL ls t) 48 from rfl,Iu];exact hle u hu'⟩⟩
  rw[show ka none (aL ls t)=List.replicate (aL ls t) 48 from rfl,Cw.dR];simp
 ·have hwt:=hw t Ij;have hk2:Kr.ks 40 (done.map (aL ls))+2^(40-aL ls t)<=2^40:=by
   simp only[IA,KD,Kr.ks] at hk;lia
  have hz:=hH.zero (rest:=[]) hk2;have hN:=hH.next hwt htl hk2;refine⟨aL ls t-w.length,by lia,Nat.sub_le _ _,?_,Cw.dw hwt,Cw.lA hH.bits,hall,.inr ⟨_,rfl,rfl,by rw[show ka (some w) (aL ls t)=Cw.ee w (aL ls t) from rfl,Cw.dw hwt],by rw[IB];exact hN,λu hu'=>by rw[show ka (some w) (aL ls t)=Cw.ee w (aL ls t) from rfl,Cw.dw hwt];exact hle u hu'⟩⟩
  rw[show ka (some w) (aL ls t)=Cw.ee w (aL ls t) from rfl,Cw.oG hH.bits hz];simp
theorem uZ(n:Nat):∀c∈jD n,c=48\/c=49:=gn _ _ _ λc hc=>by cases hc
theorem zN(n:Nat):(jD n).length=eR n:=by unfold jD;rw[dW];rfl
inductive Kd where
 |box|num|go
noncomputable def Kd.s:Kd->Str
 |.box=>Str.ofString "box"
 |.num=>Str.ofString "number"
 |.go=>Str.ofString "goal"
inductive PV where
 |box (b:Nat)|num (n:Nat)|go (d:Int)
noncomputable def uj(cd:List (List (List Nat)))(z:List Nat)(p:Nat):Kd->Option (PV×Nat)
 |.box=>(hZ (cd.getD 2 []) z p).map λx=>(.box x.1,x.2)
 |.num=>(xA (cd.getD 1 []) z p).map λx=>(.num x.1,x.2)
 |.go=>(gA z p).map λx=>(.go x.1,x.2)
structure me (cd:List (List (List Nat))):Prop where
 fM:Cd cd
 pf:∀w∈cd,Pf w
noncomputable def xG(i:Nat):List Kd:=[[Kd.box,.num],[.box,.box],[.box,.box],[.box,.box],[.box],[.box],[.go],[.box,.go],[]].getD i []
noncomputable def iD(cd:List (List (List Nat)))(z:List Nat):List Kd->Nat->Option (List (PV×Nat)×Nat)
 |[],p=>some ([],p)
 |k::ks,p=>(uj cd z p k).bind λx=>(iD cd z ks x.2).map λy=>(x::y.1,y.2)
structure RW where
 wi:Nat
 vs:List (PV×Nat)
noncomputable def wI(cd:List (List (List Nat)))(z:List Nat)(p:Nat):Option (RW×Nat):=(hZ (cd.getD 0 []) z p).bind λx=>(iD cd z (xG x.1) x.2).map λy=>(⟨x.1,y.1⟩,y.2)
noncomputable def FT(cd:List (List (List Nat)))(z:List Nat)(p:Int):Option (RW×Nat):=if p<0 then none else wI cd z p.toNat
theorem r6(cd:List (List (List Nat)))(z:List Nat)(p:Nat):FT cd z (p:Int)=wI cd z p:=by
 unfold FT;rw[H_ (by lia),IY]
theorem Aq(h:i<9):KTD.datumAt (aZ.getD i (Str.ofString "")) cJ=some ((xG i).map Kd.s):=by
 have:i=0\/i=1\/i=2\/i=3\/i=4\/i=5\/i=6\/i=7\/i=8:=by lia
 rcases this with rfl|rfl|rfl|rfl|rfl|rfl|rfl|rfl|rfl<;>decide +kernel
theorem wY{a:List Nat}(h:wd a=wd b):a=b:=IW (λs:Str=>s.cps.toList) h
theorem Pf.nd(h:Pf ws):ws.Nodup:=by
 unfold List.Nodup;rw[JS];intro i j hi hj hij e;exact h.pre i j hi hj (Iz hij) (by rw[e];exact List.prefix_refl _)
theorem u6(a:List Nat)(c:Nat):dX (a++[c])=dX a*2+(c-48):=by
 unfold dX;rw[List.foldl_append];rfl
theorem ED{c:Nat}(h:c=48\/c=49):Builtin.Str.occurrences (Str.ofString "01") ⟨#[c]⟩ 0 (Str.ofString "01").length 1=[c-48]:=by
 rcases h with rfl|rfl<;>decide +kernel
theorem i_(z:List Nat)(a b:Nat)(h:a<=b):Y.eY (wd z) (some (a:Int)) (some (b:Int))=wd ((z.drop a).take (b-a)):=by
 unfold Y.eY wd;congr 2;show Y.gL z (some (a:Int)) (some (b:Int))=_;unfold Y.gL;rw[HT.cK,HT.cK];rcases N3 z.length a with c|c
 ·rw[LC c,LC (Ia c h),Kc,Na c,Nt,Nt]
 ·rw[Ll c];rcases N3 z.length b with d|d
  ·rw[LC d,Ji (by rw[IQ];exact Ib _),Ji (by rw[IQ];lia)]
  ·rw[Ll d]
theorem pre_take{y:List Nat}:y <+: z ↔ z.take y.length=y:=by
 rw[Ly];exact eq_comm
theorem find3{n:Nat}(h:n<3):(List.range' n (3-n)).find? (λi=>decide (mK.getD i [] <+: z.drop p))=if b6 n <+: z.drop p then some n else (List.range' (n+1) (3-(n+1))).find? λi=>decide (mK.getD i [] <+: z.drop p):=by
 rw[show 3-n=(3-(n+1))+1 by lia,Kn,JV,w6 h]
 by_cases c:b6 n <+: z.drop p
 ·rw[IM c,Ig c]
 ·rw[IE c,H_ c]
noncomputable def PV.n:PV->Int
 |.box b=>(b:Int)
 |.num n=>(n:Int)
 |.go d=>d
noncomputable def Kd.c:Kd->Nat
 |.box=>98
 |.num=>110
 |.go=>103
structure Hy (cd:List (List (List Nat))):Prop extends me cd where
 BW:∀ws∈cd,∀w∈ws,w.length<=20
theorem wy{x:Nat×Nat}(hne:∀w∈ws,w≠[])(h:xA ws z p=some x):p<x.2/\x.2<=z.length:=by
 unfold xA at h
 cases c:hZ ws z p with
 |none=>rw[c] at h;cases h
 |some y =>
  rw[c] at h;obtain⟨_,_,h3,h4⟩:=dP hne c;dsimp only at h
  split at h
  ·cases h;exact⟨h3,h4⟩
  ·split at h
   ·rename_i hl;cases h;exact⟨by show p<y.2+_;lia,hl⟩
   ·cases h
theorem Ba{x:Int×Nat}(h:gA z p=some x):p<x.2/\x.2<=z.length:=by
 unfold gA at h
 cases c:hZ mK z p with
 |none=>rw[c] at h;cases h
 |some y =>
  rw[c] at h;obtain⟨_,_,h3,h4⟩:=dP pq c;dsimp only at h
  split at h
  ·rename_i hl;cases h;exact⟨by show p<y.2+_;lia,hl⟩
  ·cases h
theorem mE{cd:List (List (List Nat))}{k:Kd}{x:PV×Nat}(hR:me cd)(h:uj cd z p k=some x):p<x.2/\x.2<=z.length/\(∀b,x.1=.box b->b<8):=by
 obtain⟨c0,c1,c2,rfl,l0,l1,l2⟩:=hR.fM.ex;have n1:=(hR.pf c1 (by simp)).ne
 have n2:=(hR.pf c2 (by simp)).ne
 cases k with
 |box =>
  replace h:(hZ c2 z p).map (λx=>(PV.box x.1,x.2))=some x:=h
  cases c:hZ c2 z p with
  |none=>rw[c] at h;cases h
  |some y=>rw[c] at h;cases h;obtain⟨h1,_,h3,h4⟩:=dP n2 c;exact⟨h3,h4,λb e=>by cases e;lia⟩
 |num =>
  replace h:(xA c1 z p).map (λx=>(PV.num x.1,x.2))=some x:=h
  cases c:xA c1 z p with
  |none=>rw[c] at h;cases h
  |some y=>rw[c] at h;cases h;exact⟨(wy n1 c).1,(wy n1 c).2,λb e=>by cases e⟩
 |go =>
  replace h:(gA z p).map (λx=>(PV.go x.1,x.2))=some x:=h
  cases c:gA z p with
  |none=>rw[c] at h;cases h
  |some y=>rw[c] at h;cases h;exact⟨(Ba c).1,(Ba c).2,λb e=>by cases e⟩
theorem cQ.app{x y:List Nat}(hx:cQ x)(hy:cQ y):cQ (x++y):=λc hc=>(Jk.mp hc).elim (hx c) (hy c)
theorem cQ.rep(n:Nat){v:Nat}(h:v=48\/v=49):cQ (List.replicate n v):=λc hc=>by rw[(JH.mp hc).2];exact h
theorem zQ{w:List Nat}{n:Nat}(h:cQ w):cQ (Cw.dm w n):=by
 unfold Cw.dm Cw.pad;refine cQ.app (cQ.app (λc hc=>h c ?_) λc hc=>.inr (Ir.mp hc)) (cQ.rep _ (.inl rfl));have h1:=Kb.mp (List.dropLast_subset _ hc);exact Kb.mp ((L8 _).subset h1)
theorem sI{o:List Nat}:∀{a:Option (List Nat)} {ws:List (List Nat)},(∀v,a=some v->cQ v)->(∀x∈ws,cQ x)->∀x∈(Cw.along Cw.dm ln o (a,ws)).2,cQ x:=by
 induction o with
 |nil=>exactλ_ h=>h
 |cons t o ih =>
  intro a ws ha hw
  cases a with
  |none =>
   refine ih (a:=some (List.replicate (ln t) 48)) (λv e=>by cases e;exact cQ.rep _ (.inl rfl)) λx hx=>?_
   rcases J8 hx with z|z
   ·exact hw x z
   ·rw[z];exact cQ.rep _ (.inl rfl)
  |some v =>
   have hv:=zQ (n:=ln t) (ha v rfl);refine ih (a:=some (Cw.dm v (ln t))) (λv e=>by cases e;exact hv) λx hx=>?_
   rcases J8 hx with z|z
   ·exact hw x z
   ·rw[z];exact hv
theorem tW(ls:List Int):∀x∈wordsOf Cw.dm ls,cQ x:=sI (λv e=>by cases e) λx hx=>by rw[(JH.mp hx).2];exactλc hc=>by cases hc
theorem wD{cd:List (List (List Nat))}(h:∀ws∈cd,∀w∈ws,cQ w)(r:Row):cQ (dB cd r):=by
 have at2:∀p,cQ (fV cd p):=λp=>by
  unfold fV;rw[Ic,Ic]
  cases e:cd[p.1]? with
  |none=>exactλc hc=>by cases hc
  |some ws =>
   show cQ (ws[p.2]?.getD [])
   cases e2:ws[p.2]? with
   |none=>exactλc hc=>by cases hc
   |some w=>exact h ws (Jw e) w (Jw e2)
 unfold dB;refine cQ.app (λc hc=>?_) ?_
 ·obtain⟨p,_,hp⟩:=List.mem_flatMap.mp hc;exact at2 p c hp
 ·cases r with
  |put b n=>exactλc hc=>uZ n c (List.mem_of_mem_tail hc)
  |two=>exactλc hc=>by cases hc
  |one=>exactλc hc=>by cases hc
  |jump=>exactλc hc=>by cases hc
  |zero=>exactλc hc=>by cases hc
  |halt=>exactλc hc=>by cases hc
theorem BQ(bk:List (List Int)):∀ws∈gu bk,∀w∈ws,cQ w:=λws hw=>by
 obtain⟨l,_,rfl⟩:=Jg.mp hw;exact tW l
theorem vj{cd:List (List (List Nat))}(hC:Cd cd){r:Row}{k:Nat}(hr:r.Ok k):(dB cd r).length<=136:=by
 have:=yj hC hr;unfold dB;rw[HX];lia
inductive bp where
 |put (b n:Nat)|two (w:Fin 3) (a b:Nat)|one (w:Fin 2) (b:Nat)|jump (g:Int)|zero (b:Nat) (g:Int)|halt
inductive zV where
 |s (z:Str)|n (k:Int)
noncomputable def bp.ps:bp->List zV
 |.put b n=>[.s "put",.s (cX b),.n (n:Nat)]
 |.two w a b=>[.s (w2 w),.s (cX a),.s (cX b)]
 |.one w b=>[.s (w1 w),.s (cX b)]
 |.jump g=>[.s "jump",.n g]
 |.zero b g=>[.s "zero",.s (cX b),.n g]
 |.halt=>[.s "halt"]
noncomputable def bp.Ok:bp->Prop
 |.put b _=>b<8
 |.two _ a b=>a<8/\b<8
 |.one _ b=>b<8
 |.jump _=>True
 |.zero b _=>b<8
 |.halt=>True
noncomputable def bp.rel(e:Int):bp->bp
 |.jump g=>.jump (g-e)
 |.zero b g=>.zero b (g-e)
 |r=>r
noncomputable def lI(x:RW×Nat):bp:=match x.1.vs with
 |[(.box b,_)]=>.one (if x.1.wi=4 then 0 else 1) b
 |[(.go d,e)]=>.jump ((e:Int)+d)
 |[(.box a,_),(.box b,_)]=>.two (if x.1.wi=1 then 0 else if x.1.wi=2 then 1 else 2) a b
 |[(.box b,_),(.num n,_)]=>.put b n
 |[(.box b,_),(.go d,e)]=>.zero b ((e:Int)+d)
 |_=>.halt
theorem FW{cd:List (List (List Nat))}{k:Kd}{y:List (PV×Nat)×Nat}(h:iD cd z [k] p=some y):∃x,uj cd z p k=some x/\y=([x],x.2):=by
 obtain⟨x,hx,h⟩:=Ky.mp h;cases h;exact⟨x,hx,rfl⟩
theorem Fb{cd:List (List (List Nat))}{k l:Kd}{y:List (PV×Nat)×Nat}(h:iD cd z [k,l] p=some y):∃x x',uj cd z p k=some x/\uj cd z x.2 l=some x'/\y=([x,x'],x'.2):=by
 obtain⟨x,hx,h⟩:=Ky.mp h;obtain⟨y',hy,rfl⟩:=IC.mp h;obtain⟨x',hx',rfl⟩:=FW hy;exact⟨x,x',hx,hx',rfl⟩
theorem dH{cd:List (List (List Nat))}{x:PV×Nat}(hR:me cd)(h:uj cd z p .box=some x):∃b e,x=(.box b,e)/\b<8:=by
 have h8:=(mE hR h).2.2;obtain⟨v,_,rfl⟩:=IC.mp h;exact⟨_,_,rfl,h8 _ rfl⟩
theorem Cu{cd:List (List (List Nat))}{x:PV×Nat}(h:uj cd z p .num=some x):∃n e,x=(.num n,e):=by
 obtain⟨v,_,rfl⟩:=IC.mp h;exact⟨_,_,rfl⟩
theorem Bn{cd:List (List (List Nat))}{x:PV×Nat}(h:uj cd z p .go=some x):∃d e,x=(.go d,e):=by
 obtain⟨v,_,rfl⟩:=IC.mp h;exact⟨_,_,rfl⟩
theorem CK{cd:List (List (List Nat))}{ks:List Kd}{y:List (PV×Nat)×Nat}(hR:me cd)(h:iD cd z ks p=some y):p<=y.2/\(p<=z.length->y.2<=z.length):=by
 induction ks generalizing p y with
 |nil=>cases h;exact⟨Ib _,id⟩
 |cons k ks ih =>
  rw[iD] at h;obtain⟨x,hx,h⟩:=Ky.mp h;obtain⟨y',hy,rfl⟩:=IC.mp h;obtain⟨i1,i2⟩:=ih hy;obtain⟨j1,j2,_⟩:=mE hR hx;exact⟨by show p<=y'.2;lia,λ_=>i2 j2⟩
theorem xD(hL:jm ls)(ho:mP ls=true):Pf (wordsOf Cw.dm ls):=by
 have hc:=canon hL (Jh ho);have hg:∀(i:Nat) (h:i<(wordsOf Cw.dm ls).length),(wordsOf Cw.dm ls)[i]=(wordsOf Cw.dm ls).getD i []:=λi h=>by
  rw[Ic,HV h];rfl
 refine⟨λw hw e=>?_,λi j hi hj hne hp=>?_⟩
 ·obtain⟨i,hi,rfl⟩:=K_.mp hw;have hi':i<ls.length:=by rw[<- hc.len];exact hi
  have h1:=hc.EC i hi';rw[<- hg i hi,e,Je] at h1;unfold aL at h1;rw[Ic,HV hi'] at h1;have h2:=hL.2.2 _ (IH hi');have h1':0=(ls[i]).toNat:=h1;lia
 ·have hi':i<ls.length:=by rw[<- hc.len];exact hi
  have hj':j<ls.length:=by rw[<- hc.len];exact hj
  rw[hg i hi,hg j hj] at hp;have:(ls.getD i 0<ls.getD j 0\/(ls.getD i 0=ls.getD j 0/\i<j))\/(ls.getD j 0<ls.getD i 0\/(ls.getD j 0=ls.getD i 0/\j<i)):=by lia
  rcases this with h|h
  ·exact (hc.part i j hi' hj' h).not.1 hp
  ·exact (hc.part j i hj' hi' h).not.2 hp
theorem yN{bk:List (List Int)}(h:Bk bk):∀ws∈gu bk,Pf ws:=λws hw=>by
 obtain⟨l,hl,rfl⟩:=Jg.mp hw;obtain⟨a,b,c,e,_,_,_,h4⟩:=h;exact xD (h4 l hl).1 (h4 l hl).2
theorem oU{bk:List (List Int)}(h:Bk bk):Hy (gu bk):=by
 refine⟨⟨h.cd,yN h⟩,λws hw w hw2=>?_⟩;obtain⟨l,hl,rfl⟩:=Jg.mp hw;obtain⟨a,b,c,e,_,_,_,h4⟩:=h;have hc:=canon (h4 l hl).1 (Jh (h4 l hl).2);obtain⟨i,hi,rfl⟩:=K_.mp hw2;have hi':i<l.length:=by rw[<- hc.len];exact hi
 have h1:=hc.EC i hi';rw[Ic,HV hi] at h1;unfold aL at h1;rw[Ic,HV hi'] at h1;have h2:=(h4 l hl).1.2.2 _ (IH hi');have h3:((wordsOf Cw.dm l)[i]).length=(l[i]).toNat:=h1;lia
noncomputable def Gf.v:Gf->V
 |.s z=>.str z
 |.n k=>.int (k:Nat)
noncomputable def Row.vs(r:Row):List V:=r.ps.map Gf.v
noncomputable def Pk.v:Pk->V
 |.box b=>.str (cX b)
 |.num n=>.int (n:Nat)
 |.goal g=>.int (g:Nat)
theorem Row.Be(r:Row):r.vs=.str r.wd::r.gv.map Pk.v:=by cases r<;>rfl
noncomputable def PV.v(behind:Nat):PV->V
 |.box b=>.str (cX b)
 |.num n=>.int (n:Int)
 |.go d=>.int ((behind:Int)+d)
noncomputable def PV.l:PV->V
 |.box b=>.str (cX b)
 |.num n=>.int (n:Int)
 |.go d=>.int d
noncomputable def RW.v(r:RW):List V:=.str (aZ.getD r.wi (Str.ofString ""))::r.vs.map λx=>x.1.v x.2
noncomputable def RW.l(r:RW):List V:=.str (aZ.getD r.wi (Str.ofString ""))::r.vs.map λx=>x.1.l
noncomputable def zV.v:zV->V
 |.s z=>.str z
 |.n k=>.int k
noncomputable def bp.vs(r:bp):List V:=r.ps.map zV.v
theorem zK{cd:List (List (List Nat))}{x:RW×Nat}(hR:me cd)(h:wI cd z p=some x):(lI x).Ok/\x.1.v=(lI x).vs/\x.1.l=((lI x).rel x.2).vs/\p<x.2/\x.2<=z.length:=by
 obtain⟨c0,c1,c2,rfl,l0,l1,l2⟩:=hR.fM.ex;obtain⟨v,hv,h⟩:=Ky.mp h;obtain⟨y,hy,rfl⟩:=IC.mp h;obtain⟨w1,_,w3,w4⟩:=dP (hR.pf c0 (by simp)).ne hv
 obtain⟨i1,i2⟩:=CK hR hy;obtain⟨wi,e⟩:=v;dsimp only at *;refine and_assoc.mp (and_assoc.mp ⟨?_,by show p<y.2;lia,i2 w4⟩)
 have far:∀(e:Nat) (d:Int),(e:Int)+d-(e:Int)=d:=λe d=>by lia
 have:wi=0\/wi=1\/wi=2\/wi=3\/wi=4\/wi=5\/wi=6\/wi=7\/wi=8:=by lia
 rcases this with rfl|rfl|rfl|rfl|rfl|rfl|rfl|rfl|rfl
 ·obtain⟨x,x',hx,hx',rfl⟩:=Fb hy;obtain⟨b,e,rfl,hb⟩:=dH hR hx;obtain⟨n,e',rfl⟩:=Cu hx';exact⟨⟨hb,rfl⟩,rfl⟩
 ·obtain⟨x,x',hx,hx',rfl⟩:=Fb hy;obtain⟨b,e,rfl,hb⟩:=dH hR hx;obtain⟨n,e',rfl,hb'⟩:=dH hR hx';exact⟨⟨⟨hb,hb'⟩,rfl⟩,rfl⟩
 ·obtain⟨x,x',hx,hx',rfl⟩:=Fb hy;obtain⟨b,e,rfl,hb⟩:=dH hR hx;obtain⟨n,e',rfl,hb'⟩:=dH hR hx';exact⟨⟨⟨hb,hb'⟩,rfl⟩,rfl⟩
 ·obtain⟨x,x',hx,hx',rfl⟩:=Fb hy;obtain⟨b,e,rfl,hb⟩:=dH hR hx;obtain⟨n,e',rfl,hb'⟩:=dH hR hx';exact⟨⟨⟨hb,hb'⟩,rfl⟩,rfl⟩
 ·obtain⟨x,hx,rfl⟩:=FW hy;obtain⟨b,e,rfl,hb⟩:=dH hR hx;exact⟨⟨hb,rfl⟩,rfl⟩
 ·obtain⟨x,hx,rfl⟩:=FW hy;obtain⟨b,e,rfl,hb⟩:=dH hR hx;exact⟨⟨hb,rfl⟩,rfl⟩
 ·obtain⟨x,hx,rfl⟩:=FW hy;obtain⟨d,e,rfl⟩:=Bn hx;refine⟨⟨trivial,rfl⟩,?_⟩;show [_,V.int d]=[_,.int ((e:Int)+d-(e:Int))];rw[far];rfl
 ·obtain⟨x,x',hx,hx',rfl⟩:=Fb hy;obtain⟨b,e,rfl,hb⟩:=dH hR hx;obtain⟨d,e',rfl⟩:=Bn hx';refine⟨⟨hb,rfl⟩,?_⟩;show [_,_,V.int d]=[_,_,.int ((e':Int)+d-(e':Int))];rw[far];rfl
 ·cases hy;exact⟨⟨trivial,rfl⟩,rfl⟩
noncomputable def no:uD:=λ_=>False
theorem gZ(xs:List V)(v:V):cq (xs++[v]) (-1)=some v:=by
 have hl:(xs++[v]).length=xs.length+1:=by rw[HX];rfl
 unfold cq ke;rw[H_ (by decide),hl,Ig (by lia),show (-1+((xs.length+1:Nat):Int)).toNat=xs.length by lia]
 show (xs++[v])[xs.length]?=_;rw[IG (Ib _),JG];rfl
theorem vp(xs:List V)(k:Nat):eE xs (some (k:Int)) none=xs.drop k:=by
 unfold eE;rw[HT.dh,HT.cK];rcases N3 k xs.length with h|h
 ·rw[Ll h,Ji (by rw[IQ];exact Ib _)]
 ·rw[LC h,Kc,Na h,Nt]
noncomputable def fj:Row->Option Nat
 |.jump g=>some g
 |.zero _ g=>some g
 |_=>none
theorem wb{w:Nat}(d:Int):(ow w d).length=(b6 w).length+aP w:=by
 unfold ow;rw[HX,dW];rfl
noncomputable def tU(cd:List (List (List Nat)))(r:Row)(w:Nat)(d:Int):List Nat:=dB cd r++(match fj r with|none=>[]|some _=>ow w d)
noncomputable def Row.m(g:Int):Row->bp
 |.put b n=>.put b n
 |.two u a b=>.two u a b
 |.one u b=>.one u b
 |.jump _=>.jump g
 |.zero b _=>.zero b g
 |.halt=>.halt
noncomputable def Ho:Nat->Nat
 |0=>5
 |1=>10
 |_=>18
noncomputable def addW:Option Nat->Nat->Nat
 |none,_=>0
 |some _,w=>Ho w
noncomputable def uE:Nat->List Nat->List (Option Nat)->List Nat->List Nat
 |a,s::ss,g::gs,w::ws=>a::uE (a+s+addW g w) ss gs ws
 |a,_,_,_=>[a]
theorem vQ(a:Nat)(ss:List Nat)(gs:List (Option Nat))(ws:List Nat):∃l,uE a ss gs ws=a::l:=by
 unfold uE;split
 ·exact⟨_,rfl⟩
 ·exact⟨_,rfl⟩
theorem rN:∀(ss:List Nat) (gs:List (Option Nat)) (ws:List Nat) (a:Nat),gs.length=ss.length->ws.length=ss.length->(uE a ss gs ws).length=ss.length+1
 |[],_,_,_,_,_=>by unfold uE;rfl
 |s::ss,[],_,_,h,_=>by cases h
 |s::ss,_::_,[],_,_,h=>by cases h
 |s::ss,g::gs,w::ws,a,h1,h2=>by
  rw[uE,Iq,rN ss gs ws _ (Nat.succ.inj h1) (Nat.succ.inj h2)];rfl
theorem wK:∀(ss:List Nat) (gs:List (Option Nat)) (ws:List Nat) (a k:Nat) (s:Nat) (g:Option Nat) (w:Nat),ss[k]?=some s->gs[k]?=some g->ws[k]?=some w->(uE a ss gs ws).getD (k+1) 0=(uE a ss gs ws).getD k 0+s+addW g w
 |[],_,_,_,_,_,_,_,h,_,_=>by simp at h
 |s::ss,[],_,_,_,_,_,_,_,h,_=>by simp at h
 |s::ss,_::_,[],_,_,_,_,_,_,_,h=>by simp at h
 |s::ss,g::gs,w::ws,a,0,s',g',w',h1,h2,h3=>by
  simp at h1 h2 h3;subst h1;subst h2;subst h3;rw[uE];obtain⟨l,e⟩:=vQ (a+s+addW g w) ss gs ws;rw[e];rfl
 |s::ss,g::gs,w::ws,a,k+1,s',g',w',h1,h2,h3=>by
  rw[uE];have:=wK ss gs ws (a+s+addW g w) k s' g' w' (by simpa using h1) (by simpa using h2) (by simpa using h3)
  simpa using this
noncomputable def DE(sp:List Nat)(t k:Nat):Int:=(sp.getD t 0:Int)-(sp.getD (k+1) 0:Int)
noncomputable def Hs(w:Nat)(d:Int):Bool:=decide (-cy w<=d) && decide (d<cy w)
noncomputable def Gk(ss:List Nat)(gs:List (Option Nat))(ws:List Nat):Prop:=∀(k t w:Nat),gs[k]?=some (some t)->ws[k]?=some w->Hs w (DE (uE 0 ss gs ws) t k)=true
noncomputable def Bj(cd:List (List (List Nat)))(rs:List Row):List Nat:=rs.map λr=>(dB cd r).length
noncomputable def Fo(sp:List Nat)(k w:Nat):Option Nat->List Nat
 |none=>[]
 |some t=>ow w (DE sp t k)
noncomputable def AY(cd:List (List (List Nat)))(sp:List Nat):Nat->List Row->List Nat->List Nat
 |k,r::rs,w::ws=>dB cd r++Fo sp k w (fj r)++AY cd sp (k+1) rs ws
 |_,_,_=>[]
theorem A1{w:Nat}(h:w<3)(d:Int):(ow w d).length=Ho w:=by
 rw[wb];rcases lp h with rfl|rfl|rfl<;>rfl
structure Laid (cd:List (List (List Nat))) (rs:List Row) (ws sp z:List Nat):Prop where
 hR:me cd
 len:ws.length=rs.length
 le:rs.length<=64
 ok:∀r∈rs,r.Ok rs.length
 lt:∀w∈ws,w<3
 iM:sp=uE 0 (Bj cd rs) (rs.map fj) ws
 fit:Gk (Bj cd rs) (rs.map fj) ws
 hz:z=AY cd sp 0 rs ws
section
variable {cd:List (List (List Nat))} {rs:List Row} {ws sp z:List Nat}
theorem Laid.sl(L:Laid cd rs ws sp z):sp.length=rs.length+1:=by
 rw[L.iM,rN _ _ _ _ (by unfold Bj;rw[HY,HY]) (by unfold Bj;rw[HY];exact L.len)]
 unfold Bj;rw[HY]
noncomputable def CW(sp:List Nat)(k:Nat)(r:Row):Int:=match fj r with|none=>0|some t=>DE sp t k
theorem Laid.row(L:Laid cd rs ws sp z){k:Nat}(hk:k<rs.length):∃w,ws[k]?=some w/\w<3/\sp.getD (k+1) 0=sp.getD k 0+(tU cd rs[k] w (CW sp k rs[k])).length/\AY cd sp k (rs.drop k) (ws.drop k)=tU cd rs[k] w (CW sp k rs[k])++AY cd sp (k+1) (rs.drop (k+1)) (ws.drop (k+1))/\∀t,fj rs[k]=some t->w<3/\-cy w<=CW sp k rs[k]/\CW sp k rs[k]<cy w:=by
 have hw:k<ws.length:=by rw[L.len];exact hk
 have ew:=HV hw;have lw:=L.lt _ (IH hw);have er:=HV hk;have okr:=L.ok _ (IH hk);refine⟨ws[k],ew,lw,?_,?_,?_⟩
 ·have:=wK (Bj cd rs) (rs.map fj) ws 0 k (dB cd rs[k]).length (fj rs[k]) ws[k] (by unfold Bj;rw[Ie,er];rfl) (by rw[Ie,er];rfl) ew
  rw[<- L.iM] at this;rw[this,tU,HX,Nat.add_assoc];congr 2
  cases e:fj rs[k] with
  |none=>rfl
  |some t=>exact (A1 lw _).symm
 ·rw[J9 hk,J9 hw,AY,tU];congr 2;unfold Fo CW
  cases e:fj rs[k] with
  |none=>rfl
  |some t=>rfl
 ·intro t et;have hf:=L.fit k t ws[k] (by rw[Ie,er];exact IW some et) ew
  rw[<- L.iM] at hf;unfold Hs at hf;rw[Jq] at hf;unfold CW;rw[et];exact⟨lw,Jh hf.1,Jh hf.2⟩
theorem Laid.at(L:Laid cd rs ws sp z):∀k,k<=rs.length->z.drop (sp.getD k 0)=AY cd sp k (rs.drop k) (ws.drop k)/\sp.getD k 0<=z.length
 |0,_=>by
  have e:sp.getD 0 0=0:=by
   rw[L.iM];obtain⟨l,e⟩:=vQ 0 (Bj cd rs) (rs.map fj) ws;rw[e];rfl
  rw[e,J5];exact⟨L.hz,Iv _⟩
 |k+1,hk=>by
  obtain⟨h1,h2⟩:=L.at k (by lia)
  obtain⟨w,_,_,e1,e2,_⟩:=L.row (show k<rs.length by lia)
  rw[e2] at h1;have hl:=IW List.length h1;rw[IQ,HX] at hl;refine⟨?_,by lia⟩
  rw[e1,<- List.drop_drop,h1,List.drop_left]
theorem Laid.pos(L:Laid cd rs ws sp z){k w:Nat}{d:Int}(hk:k<rs.length):0<(tU cd rs[k] w d).length:=by
 have g0:=L.hR.fM.at (p:=(0,rs[k].wi)) (.inl ⟨rfl,rs[k].qS⟩);obtain⟨c0,c1,c2,e,l0,l1,l2⟩:=L.hR.fM.ex;have hne:fV cd (0,rs[k].wi)≠[]:=by
  refine (L.hR.pf c0 (by rw[e];simp)).ne _ ?_
  have:=g0.2.1;rw[e] at this ⊢;exact Jw this
 unfold tU dB lK;rw[HX,HX,KC,HX];have:=Lh.mpr hne;lia
theorem Laid.up(L:Laid cd rs ws sp z){k:Nat}(hk:k<rs.length):sp.getD k 0<sp.getD (k+1) 0:=by
 obtain⟨w,_,_,e1,_⟩:=L.row hk;have:=L.pos (w:=w) (d:=CW sp k rs[k]) hk;lia
theorem Laid.mono(L:Laid cd rs ws sp z):∀(i d:Nat),i+d+1<=rs.length->sp.getD i 0<sp.getD (i+d+1) 0
 |i,0,h=>L.up (by lia)
 |i,d+1,h=>Lp (L.mono i d (by lia)) (L.up (show i+d+1<rs.length by lia))
theorem Laid.last(L:Laid cd rs ws sp z):z.length=sp.getD rs.length 0:=by
 obtain⟨h1,h2⟩:=L.at rs.length (Ib _);rw[Kc] at h1;have hl:=IW List.length h1;rw[IQ,show (AY cd sp rs.length [] (ws.drop rs.length)).length=0 by unfold AY;rfl] at hl
 lia
end
noncomputable def bt(H:Hp)(p dq:Addr)(n:Nat):Prop:=∃(cells:List Int) (i t z:Int),H p=some (.lst [.ref dq,.int i,.int t,.int z])/\H dq=some (.lst (iV cells))/\(∀c∈cells,0<=c)/\0<=i/\i<=cells.length/\cells.length<=63/\0<=t/\t<=n
theorem bt.mono{p:Addr}{n m:Nat}(h:bt H p dq n)(hm:n<=m):bt H p dq m:=by
 obtain⟨cells,i,t,z,h1,h2,h3,h4,h5,h6,h7,h8⟩:=h;exact⟨cells,i,t,z,h1,h2,h3,h4,h5,h6,h7,by lia⟩
theorem bt.keep{p:Addr}{n:Nat}(h:bt H p dq n)(k:KB ex H H')(n1:p∉ex)(n2:dq∉ex):bt H' p dq n:=by
 obtain⟨cells,i,t,z,h1,h2,h3⟩:=h;exact⟨cells,i,t,z,k _ _ h1 n1,k _ _ h2 n2,h3⟩
theorem bt.kb{p:Addr}{n:Nat}(h:bt H p dq n)(k:KB [] H H'):bt H' p dq n:=h.keep k (by simp) (by simp)
theorem bt.lst{p:Addr}{n:Nat}(h:bt H p dq n):∀b∈[p,dq],∃ys,H b=some (.lst ys):=by
 obtain⟨cells,i,t,z,h1,h2,h3⟩:=h;intro b hb;simp only[Ih,IT,JW] at hb;rcases hb with rfl|rfl
 ·exact⟨_,h1⟩
 ·exact⟨_,h2⟩
theorem bt.new{p l:Addr}{n:Nat}(h:bt H p dq n)(hl:H l=none):l∉[p,dq]:=λz=>by
 obtain⟨ys,e⟩:=h.lst l z;rw[hl] at e;cases e
theorem bt.tup{p:Addr}{n:Nat}(h:bt H p dq n)(k:KB [p,dq] H H')(e:H a=some (.tup xs)):H' a=some (.tup xs):=BS k h.lst e
noncomputable def AM:Sp:=λvs H Q _=>∃c k:Int,vs=[.int c,.int k]/\0<=k/\k<2^60/\∀v:Int,Q (.int v) H
theorem Ci(F:HasFn K mg "_law_mix" gh ["number","turn"]):ai P w K mg base bf 1 "_law_mix" ["number","turn"] AM:=by
 refine F.fN fi (λvs H Q E h=>?_) (λf cdv A outer s H vs Q E hr h=>?_)
 ·obtain⟨c,k,rfl,_⟩:=h;rfl
 ·obtain⟨c,k,rfl,h0,h1,q⟩:=h;have hu:=ba hr;refine⟨_,(Z.ag (Z.se (i:=2) fi.nd (Z.op dy (Z.op (Z.aK K rfl) (Z.op (Z.aK K rfl) (Z.op (Z.aK K rfl) (Z.op dy (Z.v 0) Z.int) (Z.op bO (Z.op bO Z.int (Z.v 1)) (Z.v 1))) (Z.op bO Z.int (Z.v 1))) Z.int) Z.int))
   (Z.ag (Z.se (i:=2) fi.nd (Z.op dy (Z.op bO (Z.v 2) (Z.v 2)) Z.int))
   (Z.au (Z.ret (Z.op lT (Z.op dy (Z.op (Z.aK K rfl) (Z.op bO (Z.v 2) Z.int) (Z.v 1)) Z.int) Z.int))))),?_⟩
  refine aq λN hN=>?_;walk_at "rz";refine⟨by decide,.inl (by decide),.inr ⟨by lia,by lia⟩,.inl (by decide),by decide,?_⟩
  rw[hN];clear hN N;generalize hx:(c % 1999999927+7001*k*k+40009*k+17) % 2147483629=x;have hx1:0<=x/\x<2147483629:=by rw[<- hx];exact⟨MQ _ (by decide),Mk _ (by decide)⟩
  refine aq λN hN=>?_;walk_at "rz";refine⟨.inl ⟨by lia,by lia⟩,by decide,?_⟩
  rw[hN];clear hN N;generalize hy:x*x % 2147483587=y;have hy1:0<=y/\y<2147483587:=by rw[<- hy];exact⟨MQ _ (by decide),Mk _ (by decide)⟩
  walk_at "rz";exact⟨.inr (by decide),by decide,⟨by decide,by decide⟩,q _⟩
noncomputable def xq(K:W.Frag):Sp:=λvs H Q _=>∃(a:Addr) (ns:List Int),vs=[.ref a]/\bz K H a (ns.map V.int)/\∀p dq H',bt H' p dq 0->KB [] H H'->H p=none->H dq=none->Q (.ref p) H'
theorem yy(T:Txt K mg)(F:HasFn K mg "_law_deck" dD ["script"]):ai P w K mg base bf 1 "_law_deck" ["script"] (xq K):=by
 refine F.fN m7 (λvs H Q E h=>?_) (λf cdv A outer s H vs Q E hr h=>?_)
 ·obtain⟨a,ns,rfl,_⟩:=h;rfl
 ·obtain⟨a,ns,rfl,hS,q⟩:=h;have hu:=ba hr;refine⟨_,(Z.au (Z.ret (Z.lst (Z.cons (Z.DV (osc:=af dD) (ON:=["script"]) (own:=["cell"]) (N:=["cell","script"]) (aG.of rfl (by decide +kernel)) (Z.any K rfl (Z.slice (Z.Bg K rfl) (Z.v 0) Z.yo (Z.jZ Z.int))) (λnd _ _ _ _=>(Z.aT (i:=0) nd rfl (by right))) (λ_ _ _ _=>Z.AQ) (λ_ _ _ _=>(Z.cb xV rfl T.DX (by decide +kernel) (Z.cons (Z.v 0) Z.nil)))) (Z.cons Z.int (Z.cons Z.int (Z.cons (Z.op dy (Z.op (Z.aK K rfl) (Z.cb (Z.DZ K rfl rfl) rfl T.EL (by decide +kernel) (Z.cons (Z.slice (Z.Bg K rfl) (Z.v 0) Z.yo (Z.jZ Z.int)) Z.nil)) (Z.op bO Z.int (Z.cb (Z.Dc K rfl) rfl T.b8 (by decide +kernel) (Z.cons (Z.v 0) Z.nil)))) Z.int) Z.nil))))))),?_⟩
  have ec:eE (ns.map V.int) none (some 63)=iV (ns.take 63):=by
   unfold eE iV;rw[HT.dh,show HT.bE (ns.map V.int).length (ns.map V.int).length (some 63)=min 63 (ns.map V.int).length from HT.cK _ _ 63,HY,LO,J5,<- Nu];congr 1;rw[List.take_eq_take_iff];lia
  have hm:(ns.take 63).length<=63:=by rw[IF];lia
  generalize ns.take 63=ms at ec hm;walk_at "rz";refine⟨a,_,rfl,hS,λc hc=>?_⟩;rw[ec];have k1:KB [] H (upd H c (.lst (iV ms))):=KB.new hc;have s1:upd H c (.lst (iV ms)) c=some (.lst (iV ms)):=aa;generalize upd H c (.lst (iV ms))=H1 at *;simp only[aA s1];refine ql (xs:=iV ms) (Ia (show _<=63 by rw[bX];exact hm) (by decide)) (λD i ys H'=>H' D=some (.lst ys)/\KB [] H1 H'/\H1 D=none/\∃bs:List Int,ys=iV bs/\bs.length=i/\∀b∈bs,0<=b) (λD hD=>⟨aa,KB.new hD,hD,[],rfl,rfl,λb hb=>nomatch hb⟩) (λD i ys H' h=>⟨h.1,by obtain⟨_,_,_,bs,rfl,e,_⟩:=h;rw[bX,e]⟩) (λD i ys H' h=>bz.of (h.2.1 _ _ s1 (by simp))) ?_ ?_
  ·rintro D i ys H' x R hx ⟨g1,g2,g3,bs,rfl,g4,g5⟩ k;obtain⟨hi,rfl⟩:=mJ hx;walk_at "rz";refine k _ _ g1 ⟨aa,λb o e _=>?_,g3,bs++[_],(pQ bs [_]).symm,by rw[HX,g4];rfl,λb hb=>?_⟩
   ·rw[ae (ao e g3)];exact g2 b o e (by simp)
   ·rcases Jk.mp hb with z|z
    ·exact g5 b z
    ·rw[Ir.mp z];split<;>lia
  ·rintro D ys H' ⟨g1,g2,g3,bs,rfl,g4,g5⟩;rw[bX] at g4;refine⟨a,_,rfl,(k1.trans g2).Ex (by simp) hS,λd hd=>?_⟩
   rw[ec];have k2:KB [] H' (upd H' d (.lst (iV ms))):=KB.new hd;have s2:upd H' d (.lst (iV ms)) d=some (.lst (iV ms)):=aa;generalize upd H' d (.lst (iV ms))=H2 at *;have kk:=(k1.trans g2).trans k2;refine⟨d,ms,rfl,bz.of s2,.ref a,_,rfl,.inl ⟨_,kk.Ex (by simp) hS,rfl⟩,.inl (by decide),by decide,by decide,λp hp=>?_⟩
   have gD:=k2 _ _ g1 (by simp)
   exact q p D _ ⟨bs,0,0,_,aa,by rw[ae (ao gD hp)];exact gD,g5,by decide,by lia,by lia,by decide,by decide⟩ (kk.trans (KB.new hp)) (kk.free (by simp) hp) (k1.free (by simp) g3)
noncomputable def eM:Sp:=λvs H Q _=>∃(p dq:Addr) (m:Int) (n:Nat),vs=[.ref p,.int m]/\bt H p dq n/\n<2^50/\0<m/\m<2^30/\∀(v:Nat) H',(v:Int)<m->bt H' p dq (n+1)->KB [p,dq] H H'->Q (.int (v:Nat)) H'
theorem yZ(T:Txt K mg)(F:HasFn K mg "_law_draw" e_ ["deck","most"])(h_law_mix:ai P w K mg base bf 1 "_law_mix" ["number","turn"] AM):ai P w K mg base bf 2 "_law_draw" ["deck","most"] eM:=by
 refine F.fN gK (λvs H Q E h=>?_) (λf cdv A outer s H vs Q E hr h=>?_)
 ·obtain⟨p,dq,m,n,rfl,_⟩:=h;rfl
 ·obtain⟨p,c,m,n,rfl,⟨cells,i,t,z,hp,hc,hn0,i0,i1,k63,t0,t1⟩,hn,hm0,hm1,q⟩:=h;have hu:=ba hr;have hcp:c≠p:=by
   rintro rfl;rw[hp] at hc
   cases cells<;>cases hc
  have sp:=aA hp;have fin:∀(a:Int) (H':Hp),bt H' p c (n+1)->KB [p,c] H H'->Q (.int (a % m)) H':=λa H' D k=>by
   have h0:=MQ a (Int.ne_of_gt hm0);have h1:=Mk a hm0;have:=q (a % m).toNat H' (by lia) D k
   rwa [Int.toNat_of_nonneg h0] at this
  refine⟨_,(Z.ag (Z.asg (Z.op (Z.aK K rfl) (Z.ix (Z.aC K rfl hu) (Z.v 0) Z.int) Z.int) (Z.tm (Z.v 0) Z.int))
   (Z.ag (Z.cN (Z.aR b7 (Z.ix (Z.aC K rfl hu) (Z.v 0) Z.int) (Z.cb (Z.bB K rfl) rfl T.b8 (by decide +kernel) (Z.cons (Z.ix (Z.aC K rfl hu) (Z.v 0) Z.int) Z.nil))) (Z.au (Z.ret (Z.op dy (Z.fc h_law_mix (Z.cons (Z.ix (Z.aC K rfl hu) (Z.v 0) Z.int) (Z.cons (Z.ix (Z.aC K rfl hu) (Z.v 0) Z.int) Z.nil))) (Z.v 1)))) Z.bo)
   (Z.ag (Z.se (i:=2) gK.nd (Z.ix (Z.aC K rfl hu) (Z.ix (Z.aC K rfl hu) (Z.v 0) Z.int) (Z.ix (Z.aC K rfl hu) (Z.v 0) Z.int)))
   (Z.ag (Z.cN (Z.aR iK (Z.v 2) (Z.op B9 Z.int Z.int)) (Z.ag (Z.asg (Z.op (Z.aK K rfl) (Z.ix (Z.aC K rfl hu) (Z.v 0) Z.int) Z.int) (Z.tm (Z.v 0) Z.int))
   (Z.au (Z.ret (Z.op dy (Z.fc h_law_mix (Z.cons (Z.v 2) (Z.cons (Z.ix (Z.aC K rfl hu) (Z.v 0) Z.int) Z.nil))) (Z.v 1))))) Z.bo)
   (Z.ag (Z.asg (Z.op lT (Z.v 2) (Z.v 1)) (Z.tm (Z.ix (Z.aC K rfl hu) (Z.v 0) Z.int) (Z.ix (Z.aC K rfl hu) (Z.v 0) Z.int)))
   (Z.au (Z.ret (Z.op dy (Z.v 2) (Z.v 1))))))))),?_⟩
  have x1:ke 4 1=some 1:=by decide
  have x2:ke 4 2=some 2:=by decide
  refine aq λN hN=>?_;exists sp,hp,x2;have k1:KB [p,c] H (upd H p (.lst [.ref c,.int i,.int (t+1),.int z])):=KB.set (by simp)
  have p1:upd H p (.lst [.ref c,.int i,.int (t+1),.int z]) p=_:=aa;have c1:upd H p (.lst [.ref c,.int i,.int (t+1),.int z]) c=some (.lst (iV cells)):=by rw[ae hcp];exact hc
  generalize upd H p (.lst [.ref c,.int i,.int (t+1),.int z])=H1 at *;have s1:=aA p1;have sc:=aA c1;rw[hN];clear hN N;refine aq λN hN=>?_;exists s1,sc,bX;by_cases e1:i=(cells.length:Nat)
  ·exists Ig e1,s1;refine⟨_,_,rfl,by lia,by lia,λv=>?_⟩
   walk_at "rz";exact⟨hm0,fin v H1 ⟨cells,i,t+1,z,p1,c1,hn0,i0,i1,k63,by lia,by lia⟩ k1⟩
  ·rw[H_ e1,hN];clear hN N;obtain⟨j,rfl⟩:∃j:Nat,i=(j:Int):=⟨i.toNat,by lia⟩
   have hj:j<cells.length:=by lia
   have aj:=AO hj;have hv0:=hn0 _ (IH hj);refine aq λN hN=>?_;exists s1,sc,aj;generalize cells[j]=v at *;rw[hN];clear hN N;refine aq λN hN=>?_;walk_at "rz";refine⟨⟨by decide,by decide,by decide⟩,?_⟩
   by_cases e2:v<10^(18:Int).toNat
   ·rw[Ig e2];exists s1,p1,x1;have k2:KB [p,c] H1 (upd H1 p (.lst [.ref c,.int ((j:Int)+1),.int (t+1),.int z])):=KB.set (by simp)
    have p2:upd H1 p (.lst [.ref c,.int ((j:Int)+1),.int (t+1),.int z]) p=_:=aa;have c2:upd H1 p (.lst [.ref c,.int ((j:Int)+1),.int (t+1),.int z]) c=some (.lst (iV cells)):=by rw[ae hcp];exact c1
    generalize upd H1 p (.lst [.ref c,.int ((j:Int)+1),.int (t+1),.int z])=H2 at *;refine⟨_,_,rfl,by lia,by lia,λv=>?_⟩
    walk_at "rz";exact⟨hm0,fin v H2 ⟨cells,(j:Int)+1,t+1,z,p2,c2,hn0,by lia,by lia,k63,by lia,by lia⟩ (k1.trans k2)⟩
   ·rw[H_ e2,hN];clear hN N;have xj:ke (iV cells).length (j:Int)=some j:=by rw[mB (by lia) (by rw[bX];lia)];simp
    refine aq λM hM=>?_;exists s1,c1,xj;refine⟨⟨hm0,by lia⟩,?_⟩
    rw[DB];have k2:KB [p,c] H1 (upd H1 c (.lst (iV (cells.set j (v / m))))):=KB.set (by simp)
    have c2:upd H1 c (.lst (iV (cells.set j (v / m)))) c=_:=aa;have p2:upd H1 c (.lst (iV (cells.set j (v / m)))) p=_:=(ae hcp.symm).trans p1;generalize upd H1 c (.lst (iV (cells.set j (v / m))))=H2 at *;rw[hM];clear hM M;walk_at "rz";refine⟨hm0,fin v H2 ⟨cells.set j (v / m),j,t+1,z,p2,c2,λx hx=>?_,by lia,by rw[K0];lia,by rw[K0];exact k63,by lia,by lia⟩ (k1.trans k2)⟩
    rcases J8 hx with hx|rfl
    ·exact hn0 x hx
    ·exact Int.ediv_nonneg hv0 (by lia)
theorem Fm(l:List Nat)(a:Nat):(iV (nZ l)).eraseIdx a=iV (nZ (l.eraseIdx a)):=by
 unfold iV nZ;simp only[LI,IB,Nu,List.map_drop]
theorem vz(l:List Nat)(n k:Nat):iz (iV (nZ l)) n (V.int (k:Int))=iV (nZ (iz l n k)):=by
 unfold iz iV nZ;simp only[IB,Nu,List.map_drop,IA]
theorem cu(l:List Nat):(iV (nZ l)).length=l.length:=by rw[bX,i8]
noncomputable def pV(K:W.Frag):Sp:=λvs H Q _=>∃(p dq:Addr) (m n:Nat),vs=[.ref p,.int (m:Nat)]/\bt H p dq n/\n<2^40/\2<=m/\m<=17/\∀(ls:List Int) (a:Addr) H',bt H' p dq (n+60)->KB [p,dq] H H'->H' a=some (.tup (iV ls))->ls.length=m->jm ls->mP ls=true->Q (.ref a) H'
theorem x6(T:Txt K mg)(F:HasFn K mg "_law_lengths" c_ ["deck","many"])(h_law_draw:ai P w K mg base bf 2 "_law_draw" ["deck","most"] eM):ai P w K mg base bf 3 "_law_lengths" ["deck","many"] (pV K):=by
 refine F.fN bK (λvs H Q E h=>?_) (λf cdv A outer s H vs Q E hr h=>?_)
 ·obtain⟨p,dq,m,n,rfl,_⟩:=h;rfl
 ·have hu:=ba hr;obtain⟨p,dq,m,n,rfl,hd,hn,hm2,hm,q⟩:=h;refine⟨_,(Z.ag (Z.se (i:=2) bK.nd (Z.lst (Z.cons Z.int Z.nil)))
   (Z.ag (Z.eW IK rfl (Z.tV rfl T.d4 (Z.cons (Z.op bY (Z.v 1) Z.int) Z.nil)) (Z.aT (i:=3) bK.nd rfl (by right)) (Z.ag (Z.se (i:=4) bK.nd (Z.op (Z.aK K rfl) (Z.bm K rfl PySem.F.plainAttrs_list PySem.F.slot_list_pop PySem.F.type_list_pop xN (Z.v 2) (Z.cons (Z.fc h_law_draw (Z.cons (Z.v 0) (Z.cons (Z.cb (Z.bB K rfl) rfl T.b8 (by decide +kernel) (Z.cons (Z.v 2) Z.nil)) Z.nil))) Z.nil)) Z.int))
   (Z.ag (Z.expr (Z.bm K rfl PySem.F.plainAttrs_list PySem.F.slot_list_insert PySem.F.type_list_insert lj (Z.v 2) (Z.cons (Z.fc h_law_draw (Z.cons (Z.v 0) (Z.cons (Z.op (Z.aK K rfl) (Z.cb (Z.bB K rfl) rfl T.b8 (by decide +kernel) (Z.cons (Z.v 2) Z.nil)) Z.int) Z.nil))) (Z.cons (Z.v 4) Z.nil))))
   (Z.au (Z.expr (Z.bm K rfl PySem.F.plainAttrs_list PySem.F.slot_list_insert PySem.F.type_list_insert lj (Z.v 2) (Z.cons (Z.fc h_law_draw (Z.cons (Z.v 0) (Z.cons (Z.op (Z.aK K rfl) (Z.cb (Z.bB K rfl) rfl T.b8 (by decide +kernel) (Z.cons (Z.v 2) Z.nil)) Z.int) Z.nil))) (Z.cons (Z.v 4) Z.nil))))))))
   (Z.ag (Z.cN (Z.aR b7 (Z.fc h_law_draw (Z.cons (Z.v 0) (Z.cons Z.int Z.nil))) Z.int) (Z.ag (Z.se (i:=5) bK.nd (Z.fc h_law_draw (Z.cons (Z.v 0) (Z.cons (Z.v 1) Z.nil))))
   (Z.au (Z.asg (Z.cb (sU rfl) rfl T.Fg (by decide +kernel) (Z.cons Z.int (Z.cons (Z.op (Z.aK K rfl) (Z.op (Z.aK K rfl) (Z.ix (Z.aC K rfl hu) (Z.v 2) (Z.v 5)) Z.int) (Z.fc h_law_draw (Z.cons (Z.v 0) (Z.cons Z.int Z.nil)))) Z.nil))) (Z.tm (Z.v 2) (Z.v 5))))) Z.bo)
   (Z.au (Z.ret (Z.ct (Z.e9 K rfl) rfl T.cU (by decide +kernel) (Z.cons (Z.v 2) Z.nil))))))),?_⟩
  refine aq λN hN=>?_;walk_at "rz";refine⟨by decide,λd hd0=>?_⟩
  have k1:KB [] H (upd H d (.lst [.int 0])):=KB.new hd0;have s1:upd H d (.lst [.int 0]) d=some (.lst (iV (nZ [0]))):=aa;generalize upd H d (.lst [.int 0])=H1 at *;have nd:=hd.new hd0;have dp:p≠d:=λz=>nd (by simp[z])
  have ddq:dq≠d:=λz=>nd (by simp[z])
  rw[hN];clear hN N;refine aq λN hN=>?_;walk_at "rz";refine⟨by lia,by lia,?_⟩
  have setD:∀{G:Hp} {n:Nat} {o:HO},bt G p dq n->bt (upd G d o) p dq n:=λh=>h.keep (KB.set (ex:=[d]) (by simp)) (by simpa using dp) (by simpa using ddq)
  have keep:∀{G G':Hp},KB [p,dq] H G->KB [p,dq] G G'->KB [p,dq] H G':=λa b=>a.trans b;have keepD:∀{G:Hp} {o:HO},KB [p,dq] H G->KB [p,dq] H (upd G d o):=λa b o e z=>by rw[ae (ao e hd0)];exact a b o e z
  refine cf (λi σ H'=>∃(l:List Nat) (o3 o4:Option V),Pt l/\l.length=i+1/\bt H' p dq (n+3*i)/\KB [p,dq] H H'/\H' d=some (.lst (iV (nZ l)))/\σ=[some (.ref p),some (.int (m:Nat)),some (.ref d),o3,o4,none]) ⟨[0],none,none,⟨by decide,by simp,.inl rfl⟩,rfl,hd.kb k1,k1.all,s1,rfl⟩ ?_ ?_
  ·rintro i σ H' hi ⟨l,o3,o4,hl,hli,hD,hk,gd,rfl⟩;unfold aQ;refine aq λM hM=>?_;exists aA gd,cu;refine⟨.inl ⟨rfl,_,bz.of gd⟩,p,dq,_,_,rfl,hD,by lia,by lia,by lia,λa H2 ha D2 k2=>?_⟩
   have ha':a<l.length:=by lia
   have hle:=l.length_eraseIdx_of_lt ha';have gd2:=k2 _ _ gd nd;have six:seqIndex? (a:Int) (iV (nZ l)).length=some a:=by
    rw[cu];unfold seqIndex?;simp;lia
   have enZ:(iV (nZ l))[a]?=some (.int ((l[a]:Nat):Int)):=by unfold iV nZ;rw[Ie,Ie,HV ha'];rfl
   refine⟨d,_,_,a,_,rfl,rfl,gd2,by lia,by lia,six,enZ,?_⟩
   rw[Fm];have D3:=setD (o:=.lst (iV (nZ (l.eraseIdx a)))) D2;have K3:=keepD (o:=.lst (iV (nZ (l.eraseIdx a)))) (hk.trans k2);have g3:upd H2 d (.lst (iV (nZ (l.eraseIdx a)))) d=_:=aa;generalize upd H2 d (.lst (iV (nZ (l.eraseIdx a))))=H3 at *;walk_at "rz";rw[show ((l[a]:Nat):Int)+1=((l[a]+1:Nat):Int) from rfl,hM];clear hM M;refine aq λM hM=>?_;exists aA g3,cu,hle;refine⟨.inl ⟨rfl,_,bz.of g3⟩,p,dq,_,_,rfl,D3,by lia,by lia,by lia,λv H4 hv D4 k4=>?_⟩
   have g4:=k4 _ _ g3 nd;refine⟨d,_,_,_,rfl,rfl,g4,by lia,by lia,Ja (show _<=20 by rw[cu];lia) (by decide),?_⟩
   rw[cu,vz,hle];generalize hl2:iz (l.eraseIdx a) (min (v:Int).toNat (l.length-1)) (l[a]+1)=l2;have le2:l2.length=l.length:=by rw[<- hl2,Av,hle];lia
   have pe2:l2.Perm ((l[a]+1)::l.eraseIdx a):=by rw[<- hl2];exact mX ..
   clear hl2;have D5:=setD (o:=.lst (iV (nZ l2))) D4;have K5:=keepD (o:=.lst (iV (nZ l2))) (K3.trans k4);have g5:upd H4 d (.lst (iV (nZ l2))) d=_:=aa;generalize upd H4 d (.lst (iV (nZ l2)))=H5 at *;rw[hM];clear hM M;dsimp only;refine mL λM hM=>?_;exists aA g5,cu;refine⟨.inl ⟨rfl,_,bz.of g5⟩,p,dq,_,_,rfl,D5,by lia,by lia,by lia,λv H6 hv D6 k6=>?_⟩
   have g6:=k6 _ _ g5 nd;refine⟨d,_,_,_,rfl,rfl,g6,by lia,by lia,Ja (show _<=20 by rw[cu];lia) (by decide),?_⟩
   rw[cu,vz];obtain⟨hP3,hL3⟩:=hl.next ha' (by lia) ((mX l2 (min (v:Int).toNat l2.length) (l[a]+1)).trans (List.Perm.cons _ pe2))
   rw[hM];exact⟨_,some _,some _,hP3,by lia,(setD D6).mono (by lia),keepD (K5.trans k6),aa,rfl⟩
  ·rintro σ H' ⟨l,o3,o4,hl,hli,hD,hk,gd,rfl⟩;have hlm:l.length=m:=by lia
   show N _ _;rw[hN];clear hN N;have h1:∀x∈l,1<=x:=by
    rcases hl.one with e|e
    ·exfalso;rw[e] at hlm;simp at hlm;lia
    ·exact e
   have fin:∀(l:List Nat) (G:Hp),G d=some (.lst (iV (nZ l)))->KB [p,dq] H G->l.length=m->(∀x∈l,1<=x/\x<=20)->Kr.ks 40 l<=2^40->bt G p dq (n+60)->∀t,G t=none->Q (.ref t) (upd G t (.tup (iV (nZ l)))):=λl G hg hK a b c e t ht=>by
    refine q (nZ l) t _ (e.kb (KB.new ht)) (hK.trans (KB.new ht)) aa (by rw[i8];exact a) ⟨by rw[i8];lia,by rw[i8];lia,λx hx=>?_⟩ (Dd c)
    obtain⟨y,hy,rfl⟩:=Jg.mp hx;have:=b y hy;exact⟨by lia,by lia⟩
   refine aq λN hN=>?_;walk_at "rz";refine⟨p,dq,2,_,rfl,hD,by lia,by decide,by decide,λv H2 hv D2 k2=>?_⟩
   have g2:=k2 _ _ gd nd;by_cases c:(v:Int)=0
   ·exists Ig c;refine⟨p,dq,(m:Nat),_,rfl,D2,by lia,by lia,by lia,λa H3 ha D3 k3=>?_⟩
    have g3:=k3 _ _ g2 nd;have ha':a<l.length:=by lia
    have ea:cq (iV (nZ l)) (a:Int)=some (.int ((l[a]:Nat):Int)):=bI (by unfold iV nZ;rw[Ie,Ie,HV ha'];rfl)
    exists aA g3,ea;refine⟨p,dq,5,_,rfl,D3,by lia,by decide,by decide,λv H4 hv D4 k4=>?_⟩
    have g4:=k4 _ _ g3 nd;obtain⟨nz,enz,hnz⟩:∃nz:Nat,(if ((l[a]:Nat):Int)+1+(v:Int)<20 then ((l[a]:Nat):Int)+1+(v:Int) else 20)=(nz:Int)/\l[a]<=nz/\nz<=20:=by
     have:=hl.le _ (IH ha');by_cases c:((l[a]:Nat):Int)+1+(v:Int)<20
     ·rw[Ig c];exact⟨l[a]+1+v,by lia,by lia,by lia⟩
     ·rw[H_ c];exact⟨20,rfl,by lia,by lia⟩
    have ei:ke (iV (nZ l)).length (a:Int)=some a:=by rw[cu,mB (by lia) (by lia)];simp
    exists enz,g4,ei;have es:(iV (nZ l)).set a (.int (nz:Int))=iV (nZ (l.set a nz)):=by unfold iV nZ;rw[LS,LS]
    rw[es];have D5:=setD (o:=.lst (iV (nZ (l.set a nz)))) D4;have K5:=keepD (o:=.lst (iV (nZ (l.set a nz)))) ((hk.trans k2).trans (k3.trans k4));have g5:upd H4 d (.lst (iV (nZ (l.set a nz)))) d=_:=aa;generalize upd H4 d (.lst (iV (nZ (l.set a nz))))=H5 at *;rw[hN];clear hN N;exists aA g5;refine fin _ H5 g5 K5 (by rw[K0];exact hlm) (λx hx=>?_) (Ia (vC ha' hnz.1) (Nx hl.ks)) (D5.mono (by lia))
    rcases J8 hx with hx|rfl
    ·exact⟨h1 x hx,by have:=hl.le x hx;lia⟩
    ·exact⟨by have:=h1 _ (IH ha');lia,hnz.2⟩
   ·exists H_ c;rw[hN];clear hN N;exists aA g2;exact fin l H2 g2 (hk.trans k2) hlm (λx hx=>⟨h1 x hx,by have:=hl.le x hx;lia⟩) (Nx hl.ks) (D2.mono (by lia))
noncomputable def Bi(K:W.Frag):Sp:=λvs H Q _=>∃(a:Addr) (ls:List Int),vs=[.ref a]/\(H a=some (.tup (iV ls))\/H a=some (.lst (iV ls)))/\jm ls/\∀H',KB [] H H'->Q (.bl (mP ls)) H'
theorem qC(h:H a=some (.tup xs)\/H a=some (.lst xs)):∃b,sq H a=some (b,xs):=h.elim (λh=>⟨_,aF h⟩) λh=>⟨_,aA h⟩
theorem xb(ha:H a=some (.tup (iV ls))\/H a=some (.lst (iV ls)))(hn:ls.length<64)(q:∀ns':List Int,ns'.Perm ls->ns'.Pairwise (·<=·)->∀l,H l=none->Q (.ref l) (upd H l (.lst (ns'.map V.int)))):Y.uP K [.ref a] H Q:=ha.elim (λh=>.inl ⟨a,ls,rfl,bq.of h,hn,q⟩) λh=>.inr ⟨a,ls,rfl,bz.of h,hn,q⟩
theorem Cn(T:Txt K mg)(F:HasFn K mg "can_be" js ["lengths"]):ai P w K mg base bf 1 "can_be" ["lengths"] (Bi K):=by
 refine F.fN bU (λvs H Q E h=>?_) (λf cdv A outer s H vs Q E hr h=>?_)
 ·obtain⟨a,ls,rfl,_⟩:=h;rfl
 ·have hu:=ba hr;obtain⟨a,ls,rfl,ha,hL,q⟩:=h;refine⟨_,(Z.ag (Z.se (i:=1) bU.nd Z.int)
   (Z.ag (Z.se (i:=2) bU.nd Z.int)
   (Z.ag (Z.se (i:=3) bU.nd (Z.cb (Z.bB K rfl) rfl T.b8 (by decide +kernel) (Z.cons (Z.v 0) Z.nil)))
   (Z.ag (Z.eW IK rfl (Z.any K rfl (Z.cb (Y.p8 K rfl) rfl T.jq (by decide +kernel) (Z.cons (Z.v 0) Z.nil))) (Z.aT (i:=4) bU.nd rfl (by right)) (Z.ag (Z.cN (Z.aR b7 (Z.v 1) Z.int) (Z.au (Z.ret Z.bl)) Z.bo)
   (Z.ag (Z.p9 IK (Z.tw (Z.y4 (Z.aR iK (Z.v 2) (Z.v 4)) (Z.rP (Z.aR iK (Z.v 1) (Z.v 3))))) (Z.ag (Z.se (i:=1) bU.nd (Z.op bO (Z.v 1) Z.int))
   (Z.au (Z.se (i:=2) bU.nd (Z.op (Z.aK K rfl) (Z.v 2) Z.int)))))
   (Z.ag (Z.cN (Z.aR u_ (Z.v 1) (Z.v 3)) (Z.au (Z.ret Z.bl)) Z.bo)
   (Z.ag (Z.se (i:=1) bU.nd (Z.op bY (Z.v 1) Z.int))
   (Z.au (Z.se (i:=3) bU.nd (Z.op bY (Z.v 3) Z.int))))))))
   (Z.au (Z.ret Z.bl)))))),?_⟩
  refine aq λN hN=>?_;walk_at "rz";rw[hN];clear hN N;refine aq λN hN=>?_;walk_at "rz";rw[hN];clear hN N;obtain⟨kd,hsq⟩:=qC ha;refine aq λN hN=>?_;exists hsq;rw[hN];clear hN N;refine aq λN hN=>?_;walk_at "rz";refine xb ha (by have:=hL.2.1;lia) λrs hp hs l hl=>?_
  have k1:KB [] H (upd H l (.lst (rs.map V.int))):=KB.new hl;have s1:upd H l (.lst (rs.map V.int)) l=some (.lst (iV rs)):=aa;generalize upd H l (.lst (rs.map V.int))=H1 at *;simp only[aA s1];refine ij (xs:=iV rs) (λi σ H'=>∃(f d n:Int) (s4:Option V),H1=H'/\(∀x∈rs.drop i,1<=x/\x<=40/\d<=x)/\0<=f/\0<=d/\n=(rs.drop i).length/\(mP ls=true ↔ Kr.fit ((rs.drop i).map Int.toNat) f.toNat d.toNat 40)/\σ=[some (.ref a),some (.int f),some (.int d),some (.int n),s4]) ⟨1,0,_,none,rfl,λx hx=>by have:=hL.2.2 x (hp.mem_iff.mp hx);lia,by decide,by decide,by rw[J5,hp.length_eq,bX],?_,rfl⟩ ?_ ?_ ?_
  ·unfold mP KS Kr.fit;rw[KA,J5,Kr.gW (hp.map Int.toNat),show (1:Int).toNat*2^(40-(0:Int).toNat)=2^40 from rfl]
  ·rintro i σ H' _ ⟨f,d,n,s4,rfl,_⟩;exact bz.of s1
  ·rintro i x σ H' hx ⟨f,d,n,s4,rfl,hb,f0,d0,hn,hi,rfl⟩;obtain⟨hir,rfl⟩:=mJ hx;have ed:=J9 hir;have hs2:(rs.drop i).Pairwise (·<=·):=List.Pairwise.drop hs;rw[ed] at hb hn hi hs2;generalize rs[i]=l at *;generalize rs.drop (i+1)=r at *;obtain⟨hl1,hl2,hl3⟩:=hb l (by simp)
   have hle:∀x∈r,l<=x:=(IS.mp hs2).1;unfold aQ;refine aq λM hM=>?_;by_cases hf:f=0
   ·exists Ig hf;have:mP ls=false:=by
     cases c:mP ls with
     |false=>rfl
     |true=>have:=hi.mp c;rw[hf] at this;exact absurd this Kr.xg
    rw[this] at q;exact q _ k1
   ·exists H_ hf;rw[hM];clear hM M;refine aq λM hM=>?_;refine⟨λm σ H'=>H1=H'/\∃f d:Int,0<f/\0<=d/\d<=l/\m=(l-d).toNat/\(mP ls=true ↔ Kr.fit ((l::r).map Int.toNat) f.toNat d.toNat 40)/\σ=[some (.ref a),some (.int f),some (.int d),some (.int n),some (.int l)],⟨_,rfl,f,d,by lia,d0,hl3,rfl,hi,rfl⟩,?_⟩
    rintro m σ H' ⟨rfl,f,d,f0,d0,dl,rfl,hi,rfl⟩;have after:(d=l\/n<=f)->M [some (.ref a),some (.int f),some (.int d),some (.int n),some (.int l)] H1:=λhc=>by
     rw[hM];clear hM M;refine aq λM hM=>?_;by_cases h3:n<=f
     ·exists Ig h3;have:mP ls=true:=hi.mpr (Kr.pT (λx hx=>by
       obtain⟨y,hy,rfl⟩:=Jg.mp hx;rcases Ih.mp hy with rfl|hy
       ·lia
       ·have:=hle y hy;lia) (by rw[HY];lia))
      rw[this] at q;exact q _ k1
     ·exists H_ h3;rw[hM];clear hM M;refine aq λM hM=>?_;walk_at "rz";rw[hM];clear hM M;refine mL λM hM=>?_;walk_at "rz";rw[hM];have hd:d=l:=hc.resolve_right h3;subst hd;refine⟨f-1,d,n-1,some _,rfl,λx hx'=>⟨(hb x (by simp[hx'])).1,(hb x (by simp[hx'])).2.1,hle x hx'⟩,by lia,d0,by rw[hn,Iq];lia,?_,rfl⟩
      rw[hi,IA,Kr.vt (by lia),show (f-1).toNat=f.toNat-1 by lia]
    by_cases c1:d<l
    ·by_cases c2:f<n
     ·exists Ig c1,Ig c2;refine⟨λσ' H'=>∃m',m'<(l-d).toNat/\(H1=H'/\∃f d:Int,0<f/\0<=d/\d<=l/\m'=(l-d).toNat/\(mP ls=true ↔ Kr.fit ((l::r).map Int.toNat) f.toNat d.toNat 40)/\σ'=[some (.ref a),some (.int f),some (.int d),some (.int n),some (.int l)]),λ_ _ h=>h,?_⟩;refine⟨.inr (by decide),?_⟩
      refine⟨_,?_,rfl,f*2,d+1,by lia,by lia,by lia,rfl,?_,rfl⟩
      ·lia
      ·rw[hi,Kr.qk (l:=l.toNat) (by lia) (by lia),show (f*2).toNat=f.toNat*2 by lia,show (d+1).toNat=d.toNat+1 by lia]
     ·exists Ig c1,H_ c2;exact after (.inr (by lia))
    ·exists H_ c1;exact after (.inl (by lia))
  ·rintro σ H' ⟨f,d,n,s4,rfl,_,_,_,_,hi,rfl⟩;rw[bX,Kc] at hi;show N _ _;rw[hN];clear hN N;walk_at "rz";have:mP ls=true:=hi.mpr (Iv _);rw[this] at q;exact q _ k1
noncomputable def HB:Option (List Nat)->V
 |none=>.aJ
 |some w=>.str (wd w)
theorem mf(ws:List (List Nat)):(wV ws).length=ws.length:=HY ..
noncomputable def vV(K:W.Frag):Sp:=λvs H Q _=>∃(a:Addr) (ls:List Int),vs=[.ref a]/\H a=some (.tup (iV ls))/\jm ls/\mP ls=true/\∀b H',KB [] H H'->H' b=some (.tup (wV (wordsOf Cw.dm ls)))->Q (.ref b) H'
theorem yE(T:Txt K mg)(F:HasFn K mg "code_of" cC ["lengths"])(hcan_be:ai P w K mg base bf 1 "can_be" ["lengths"] (Bi K))(hword_behind:ai P w K mg base bf 1 "word_behind" ["ahead","length"] EG):ai P w K mg base bf 4 "code_of" ["lengths"] (vV K):=by
 obtain⟨c,Pt,htab,hcc⟩:=T.ou.ex;refine F.Hj cV (λvs H Q E h=>?_) (λf cdv A outer s H vs Q E hr hm fM h=>?_)
 ·obtain⟨a,ls,rfl,_⟩:=h;rfl
 ·have:=hcc _ _ ⟨hm,fM⟩;subst this;have hu:=ba hr;obtain⟨a,ls,rfl,ha,hL,ho,q⟩:=h;refine⟨_,(Z.ag (Z.cN (Z.zh (Z.og K rfl (Z.fc hcan_be (Z.cons (Z.v 0) Z.nil)))) (Z.au Z.HL) Z.bo)
   (Z.ag (Z.sec (j:=1) cV.nd (osc:=af cC) (ON:=["lengths","words","ahead","thing"]) (own:=["length"]) (N:=["length","lengths","words","ahead","thing"]) (aG.of rfl (by decide +kernel)) (Z.any K rfl (Z.v 0)) (λnd _ _ _ _=>(Z.aT (i:=0) nd rfl (by right))) (λ_ _ _ _=>Z.AQ) (λ_ _ _ _=>Z.str))
   (Z.ag (Z.se (i:=2) cV.nd Z.aJ)
   (Z.ag (Z.eW IK rfl (Z.any K rfl (Z.FK (k:=0) (j:=0) K rfl (by decide) htab rfl rfl rfl rfl rfl T.jq (Z.cons (Z.ct Y.nE rfl T.d4 (by decide +kernel) (Z.cons (Z.cb (Z.bB K rfl) rfl T.b8 (by decide +kernel) (Z.cons (Z.v 0) Z.nil)) Z.nil)) Z.nil) (hr.mono (by decide)) rfl (by decide) rfl rfl rfl rfl rfl rfl rfl (λ_ _ _ _=>rfl))) (Z.aT (i:=3) cV.nd rfl (by right)) (Z.ag (Z.asg (Z.fc hword_behind (Z.cons (Z.v 2) (Z.cons (Z.ix (Z.aC K rfl hu) (Z.v 0) (Z.v 3)) Z.nil))) (Z.tm (Z.v 1) (Z.v 3)))
   (Z.au (Z.se (i:=2) cV.nd (Z.ix (Z.aC K rfl hu) (Z.v 1) (Z.v 3))))))
   (Z.au (Z.ret (Z.ct (Z.e9 K rfl) rfl T.cU (by decide +kernel) (Z.cons (Z.v 1) Z.nil)))))))),?_⟩
  refine aq λN hN=>?_;walk_at "rz";refine⟨a,ls,rfl,.inl ha,hL,λH1 k1=>?_⟩;exists ho,Bool.not_true;rw[H_ (λz=>Bool.noConfusion z),hN];clear hN N;have ha1:=k1 _ _ ha (by simp)
  refine aq λN hN=>?_;exists aF ha1;refine fF (xs:=iV ls) (Ia (show _<=20 by rw[bX];exact hL.2.1) (by decide)) (λD i ys H'=>H' D=some (.lst ys)/\ys=wV (List.replicate i [])/\KB [] H1 H'/\H1 D=none) (λD hD=>⟨aa,rfl,KB.new hD,hD⟩) (λD i ys H' h=>⟨h.1,by rw[h.2.1,mf,Iu]⟩) (λD i ys H' h=>bq.of (h.2.2.1 _ _ ha1 (by simp))) ?_ ?_
  ·rintro D i ys H' x R hx ⟨g1,rfl,g3,g4⟩ kk;walk_at "rz";refine kk _ _ g1 ⟨aa,?_,λb o e _=>?_,g4⟩
   ·rw[List.replicate_succ',wV,wV,IB];rfl
   ·rw[ae (ao e g4)];exact g3 b o e (by simp)
  rintro D ys H2 ⟨g1,rfl,g3,g4⟩;rw[bX] at g1;show N _ _;rw[hN];clear hN N;refine aq λN hN=>?_;walk_at "rz";rw[hN];clear hN N;have h02:=k1.trans g3;have D0:H D=none:=k1.free (by simp) g4
  have ha2:=h02 _ _ ha (by simp)
  refine aq λN hN=>?_;exists aF ha2;refine .inl ⟨_,rfl,λr hr0=>?_⟩;have k3:KB [] H2 (upd H2 r (.mO 0 ((iV ls).length:Nat))):=KB.new hr0;have s3:upd H2 r (.mO 0 ((iV ls).length:Nat)) r=some (.mO 0 (ls.length:Nat)):=by rw[aa,bX]
  generalize upd H2 r (.mO 0 ((iV ls).length:Nat))=H3 at *;have le:(jt ls.length).length=ls.length:=by rw[HY,IP]
  have ha3:=k3 _ _ ha2 (by simp)
  refine⟨r,jt ls.length,ls,rfl,⟨ls.length,s3,rfl⟩,le.symm,by rw[le];have:=hL.2.1;lia,λi v k e1 e2 H' g=>?_,λH4 l g hl=>?_⟩
  ·have hi:i<ls.length:=(HZ.mp e2).1;have e3:(jt ls.length)[i]?=some (.int (i:Int)):=by simp[hi]
   rw[e3] at e1;cases e1;exact⟨_,a,iV ls,rfl,rfl,bq.of (g.same _ _ ha3),bI (by unfold iV;rw[Ie,e2];rfl)⟩
  have eo:iN ls (jt ls.length)=(ax ls).map λk=>V.int ((k:Nat):Int):=yw ..;rw[eo];have k4:KB [] H3 (upd H4 l (.lst ((ax ls).map λk=>V.int ((k:Nat):Int)))):=λb o e _=>by rw[ae (ao (g.same _ _ e) hl)];exact g.same _ _ e
  have s4:upd H4 l (.lst ((ax ls).map λk=>V.int ((k:Nat):Int))) l=_:=aa;have gD4:=k4 _ _ (k3 _ _ g1 (by simp)) (by simp)
  have lD:l≠D:=λz=>by
   have:=g.same _ _ (k3 _ _ g1 (by simp))
   rw[<- z,hl] at this;cases this
  generalize upd H4 l (.lst ((ax ls).map λk=>V.int ((k:Nat):Int)))=H5 at *;have h05:KB [] H H5:=h02.trans (k3.trans k4);have a5:a≠D:=λz=>by rw[z,D0] at ha;cases ha
  clear k3 k4 g hl hr0 s3 ha3 le eo g1 h02 ha2 g3 g4 ha1 k1;refine ij (xs:=(ax ls).map λk=>V.int ((k:Nat):Int)) (λi σ H'=>∃o:Option V,i<=(ax ls).length/\(∀v,(eK ls ((ax ls).take i)).1=some v->v.length<=40)/\H' D=some (.lst (wV (eK ls ((ax ls).take i)).2))/\H' l=some (.lst ((ax ls).map λk=>V.int ((k:Nat):Int)))/\KB [] H H'/\σ=[some (.ref a),some (.ref D),some (HB (eK ls ((ax ls).take i)).1),o]) ⟨none,Iv _,(λv z=>by cases z),gD4,s4,h05,rfl⟩ (λi σ H' _ h=>by obtain⟨o,_,_,_,h,_⟩:=h;exact bz.of h) ?_ ?_
  ·rintro i x σ H' hx ⟨o,hi,hw,gD,gl,h0,rfl⟩;have hio:i<(ax ls).length:=by have:=(HZ.mp hx).1;rw[HY] at this;exact this
   obtain rfl:x=.int (((ax ls)[i]:Nat):Int):=by
    rw[Ie,HV hio] at hx;exact (Option.some.inj hx).symm
   have hth:(ax ls)[i]<ls.length:=hJ (IH hio);have eT:(ax ls).take (i+1)=(ax ls).take i++[(ax ls)[i]]:=by rw[JQ,HV hio];rfl
   rw[eT];generalize (ax ls)[i]=th at *;generalize (ax ls).take i=done at *;have ex:cq (iV ls) (th:Int)=some (.int ls[th]):=AO hth;have hlt:=hL.2.2 _ (IH hth);have en:ls[th]=((aL ls th:Nat):Int):=by
    unfold aL;rw[Ic,HV hth];simp;lia
   have hn20:aL ls th<=40:=by lia
   have eD:eK ls (done++[th])=Cw.along Cw.dm (aL ls) [th] (eK ls done):=Cw.eA _ _ _;have hwl:(eK ls done).2.length=ls.length:=CC ls done;have gt:=aF (h0 _ _ ha (by simp))
   obtain⟨n,hn⟩:∃n,aL ls th=n:=⟨_,rfl⟩;rw[hn] at en hn20;have fin:∀y:List Nat,y.length<=40->eK ls (done++[th])=(some y,(eK ls done).2.set th y)->∀M,M=(λσ H'=>∃o:Option V,i+1<=(ax ls).length/\(∀v,(eK ls (done++[th])).1=some v->v.length<=40)/\H' D=some (.lst (wV (eK ls (done++[th])).2))/\H' l=some (.lst ((ax ls).map λk=>V.int ((k:Nat):Int)))/\KB [] H H'/\σ=[some (.ref a),some (.ref D),some (HB (eK ls (done++[th])).1),o])->M [some (.ref a),some (.ref D),some (.str (wd y)),some (.int (th:Nat))] (upd H' D (.lst ((wV (eK ls done).2).set th (.str (wd y))))):=λy hy e M hM=>by
    rw[hM,e];refine⟨some _,hio,λv z=>by cases z;exact hy,?_,by rw[ae lD];exact gl,λb u e _=>by rw[ae (ao e D0)];exact h0 _ _ e (by simp),rfl⟩
    rw[aa];unfold wV;rw[LS]
   have xk:ke (wV (eK ls done).2).length (th:Int)=some th:=by rw[mB (by lia) (by rw[mf,hwl];lia),IY]
   have setI:∀y:List Nat,cq ((wV (eK ls done).2).set th (.str (wd y))) (th:Int)=some (.str (wd y)):=λy=>bI (Ke (by rw[mf,hwl];exact hth))
   unfold aQ;refine aq λM hM=>?_;exists gt,ex
   cases hs:(eK ls done).1 with
   |none =>
    refine⟨n,hn20,.inl ⟨by rw[en];rfl,?_⟩⟩
    exists gD,xk;rw[hM];clear hM M;dsimp only;refine mL λM hM=>?_;exists setI;refine fin _ (by rw[List.length_replicate];exact hn20) ?_ M hM
    rw[eD];generalize eK ls done=st at *;obtain⟨x,ws⟩:=st;obtain rfl:x=none:=hs;subst hn;rfl
   |some v =>
    refine⟨n,hn20,.inr ⟨v,by rw[en];rfl,hw v hs,?_⟩⟩
    exists gD,xk;rw[hM];clear hM M;dsimp only;refine mL λM hM=>?_;exists setI;refine fin _ (qP (hw v hs) hn20) ?_ M hM;rw[eD];generalize eK ls done=st at *;obtain⟨x,ws⟩:=st;obtain rfl:x=some v:=hs;subst hn;rfl
  ·rintro σ H' ⟨o,_,_,gD,_,h0,rfl⟩;rw[HY,Jy] at gD;show N _ _;rw[hN];clear hN N;exists aA gD;exactλb hb=>q b _ (h0.trans (KB.new hb)) aa
noncomputable def AB(H:Hp)(ca:Addr)(cd:List (List (List Nat))):Prop:=∃a0 a1 a2,H ca=some (.lst [.ref a0,.ref a1,.ref a2])/\H a0=some (.tup (wV (cd.getD 0 [])))/\H a1=some (.tup (wV (cd.getD 1 [])))/\H a2=some (.tup (wV (cd.getD 2 [])))
theorem AB.keep{ca:Addr}{cd:List (List (List Nat))}(h:AB H ca cd)(k:KB ex H H')(n:ca∉ex)(hx:∀b∈ex,∀xs,H b≠some (.tup xs)):AB H' ca cd:=by
 obtain⟨a0,a1,a2,h1,h2,h3,h4⟩:=h;exact⟨a0,a1,a2,k _ _ h1 n,k _ _ h2 λz=>hx _ z _ h2,k _ _ h3 λz=>hx _ z _ h3,k _ _ h4 λz=>hx _ z _ h4⟩
theorem AB.kb{ca:Addr}{cd:List (List (List Nat))}(h:AB H ca cd)(k:KB [] H H'):AB H' ca cd:=h.keep k (by simp) (by simp)
noncomputable def FQ(H:Hp)(v:V):Option (PV×Nat)->Prop
 |none=>v=.aJ
 |some x=>∃t,v=.ref t/\H t=some (.tup [x.1.v x.2,.int (x.2:Nat)])
theorem Es{b:Nat}(h:b<8):cq [V.str "a",.str "b",.str "c",.str "d",.str "e",.str "f",.str "g",.str "h"] (b:Int)=some (.str (cX b)):=by
 show cq (Ep.map V.str) (b:Int)=_;exact bI (by rw[Ie,(Cs h).1];rfl)
noncomputable def ni(K:W.Frag):Sp:=λvs H Q _=>∃(ca:Addr) (cd:List (List (List Nat))) (z:List Nat) (p:Nat) (k:Kd),vs=[.str k.s,.ref ca,.str (wd z),.int (p:Nat)]/\AB H ca cd/\me cd/\cQ z/\z.length<=1000000/\∀v H',KB [] H H'->FQ H' v (uj cd z p k)->Q v H'
theorem tq(T:Txt K mg)(F:HasFn K mg "part_at" ic ["kind","codes","bits","place"])(hcoded_at:ai P w K mg base bf 2 "coded_at" ["code","bits","place"] (gM K))(hnumber_at:ai P w K mg base bf 3 "number_at" ["code","bits","place"] (rJ K))(hgoal_at:ai P w K mg base bf 3 "goal_at" ["bits","place"] (n8 K)):ai P w K mg base bf 4 "part_at" ["kind","codes","bits","place"] (ni K):=by
 obtain⟨u1,hg_OF_CLASSES,hr_OF_CLASSES⟩:=T.ma;obtain⟨u2,hg_OF_BOXES,hr_OF_BOXES⟩:=T.pM;obtain⟨aB,hg_BOXES,sB⟩:=T.zX;have hr_BOXES:RelV (.ref aB) (.ref aB):=rfl;refine F.fN jG (λvs H Q E h=>?_) (λf cdv A outer s H vs Q E hr h=>?_)
 ·obtain⟨ca,cd,z,p,k,rfl,_⟩:=h;rfl
 ·have hu:=ba hr;obtain⟨ca,cd,z,p,k,rfl,hc,hR,hb,hz,q⟩:=h;refine⟨_,(Z.ag (Z.cN (Z.aR b7 (Z.v 0) Z.str) (Z.au (Z.ret (Z.fc hnumber_at (Z.cons (Z.ix (Z.aC K rfl hu) (Z.v 1) (Z.glob rfl hg_OF_CLASSES hr_OF_CLASSES)) (Z.cons (Z.v 2) (Z.cons (Z.v 3) Z.nil)))))) Z.bo)
   (Z.ag (Z.cN (Z.aR b7 (Z.v 0) Z.str) (Z.au (Z.ret (Z.fc hgoal_at (Z.cons (Z.v 2) (Z.cons (Z.v 3) Z.nil))))) Z.bo)
   (Z.ag (Z.se (i:=4) jG.nd (Z.fc hcoded_at (Z.cons (Z.ix (Z.aC K rfl hu) (Z.v 1) (Z.glob rfl hg_OF_BOXES hr_OF_BOXES)) (Z.cons (Z.v 2) (Z.cons (Z.v 3) Z.nil)))))
   (Z.au (Z.ret (Z.GJ (Z.aR bQ (Z.v 4) Z.aJ) Z.aJ (Z.tup (Z.cons (Z.ix (Z.nS K rfl) (Z.glob rfl hg_BOXES hr_BOXES) (Z.ix (Z.aC K rfl hu) (Z.v 4) Z.int)) (Z.cons (Z.ix (Z.aC K rfl hu) (Z.v 4) Z.int) Z.nil))))))))),?_⟩
  obtain⟨c0,c1,c2,rfl,l0,l1,l2⟩:=hR.fM.ex;have n1:=(hR.pf c1 (by simp)).ne
  have n2:=(hR.pf c2 (by simp)).ne
  obtain⟨a0,a1,a2,g,g0,g1,g2⟩:=hc;have sg:=aA g;refine aq λN hN=>?_
  cases k with
  |box =>
   replace q:∀v H',KB [] H H'->FQ H' v ((hZ c2 z p).map λx=>(.box x.1,x.2))->Q v H':=q
   exists H_ (by decide +kernel:¬ Kd.s .box=Str.ofString "number")
   rw[hN];clear hN N;refine aq λN hN=>?_;exists H_ (by decide +kernel:¬ Kd.s .box=Str.ofString "goal")
   rw[hN];clear hN N;refine aq λN hN=>?_;exists sg;refine⟨a2,c2,z,p,rfl,bq.of g2,n2,by lia,hz,λv H1 k1 o1=>?_⟩
   rw[hN];clear hN N
   cases c:hZ c2 z p with
   |none =>
    rw[c] at q o1;obtain rfl:v=.aJ:=o1;walk_at "rz";exact q _ _ k1 rfl
   |some x =>
    rw[c] at q o1;have hb:=(dP n2 c).1;obtain⟨t,rfl,ht⟩:=o1;exists H_ (show ¬ V.ref t=V.aJ from V.noConfusion),aF ht;refine⟨aB,_,_,_,rfl,rfl,sB H1,Es (show x.1<8 by lia),?_⟩
    exists aF ht;exact⟨by decide,λb2 hb2=>q _ _ (k1.trans (KB.new hb2)) ⟨b2,rfl,aa⟩⟩
  |num =>
   replace q:∀v H',KB [] H H'->FQ H' v ((xA c1 z p).map λx=>(.num x.1,x.2))->Q v H':=q
   exists Ig (show Kd.s .num=Str.ofString "number" from rfl),sg;refine⟨a1,c1,z,p,rfl,bq.of g1,n1,by lia,hb,hz,λv H1 k1 o1=>q v H1 k1 ?_⟩
   cases c:xA c1 z p with
   |none=>rw[c] at o1;exact o1
   |some x=>rw[c] at o1;exact o1
  |go =>
   replace q:∀v H',KB [] H H'->FQ H' v ((gA z p).map λx=>(.go x.1,x.2))->Q v H':=q
   exists H_ (by decide +kernel:¬ Kd.s .go=Str.ofString "number")
   rw[hN];clear hN N;refine aq λN hN=>?_;exists Ig (show Kd.s .go=Str.ofString "goal" from rfl);refine⟨z,p,rfl,hb,hz,λv H1 k1 o1=>q v H1 k1 ?_⟩
   cases c:gA z p with
   |none=>rw[c] at o1;exact o1
   |some x=>rw[c] at o1;exact o1
noncomputable def GY(H:Hp)(v:V):Option (RW×Nat)->Prop
 |none=>v=.aJ
 |some x=>∃t r,v=.ref t/\H t=some (.tup [.ref r,.int (x.2:Nat)])/\H r=some (.tup x.1.v)
noncomputable def lZ(K:W.Frag):Sp:=λvs H Q _=>∃(ca:Addr) (cd:List (List (List Nat))) (z:List Nat) (p:Int),vs=[.ref ca,.str (wd z),.int p]/\AB H ca cd/\me cd/\cQ z/\z.length<=1000000/\∀v H',KB [] H H'->GY H' v (FT cd z p)->Q v H'
noncomputable def df:=cJ
theorem vb(T:Txt K mg)(F:HasFn K mg "row_at" j5 ["codes","bits","place"])(hcoded_at:ai P w K mg base bf 2 "coded_at" ["code","bits","place"] (gM K))(hpart_at:ai P w K mg base bf 4 "part_at" ["kind","codes","bits","place"] (ni K)):ai P w K mg base bf 5 "row_at" ["codes","bits","place"] (lZ K):=by
 obtain⟨u1,hg_OF_WORDS,hr_OF_WORDS⟩:=T.qJ;obtain⟨dS,hg_SHAPES,hd0⟩:=T.oz;have hd_SHAPES:kx K dS df:=hd0;have hr_SHAPES:RelV (.ref dS) (.ref dS):=rfl;clear hd0;refine F.fN cp (λvs H Q E h=>?_) (λf cdv A outer s H vs Q E hr h=>?_)
 ·obtain⟨ca,cd,z,p,rfl,_⟩:=h;rfl
 ·have hu:=ba hr;obtain⟨ca,cd,z,p,rfl,hc,hR,hb,hz,q⟩:=h;refine⟨_,(Z.ag (Z.cN (Z.aR iK (Z.v 2) Z.int) (Z.au (Z.ret Z.aJ)) Z.bo)
   (Z.ag (Z.se (i:=3) cp.nd (Z.fc hcoded_at (Z.cons (Z.ix (Z.aC K rfl hu) (Z.v 0) (Z.glob rfl hg_OF_WORDS hr_OF_WORDS)) (Z.cons (Z.v 1) (Z.cons (Z.v 2) Z.nil)))))
   (Z.ag (Z.cN (Z.aR bQ (Z.v 3) Z.aJ) (Z.au (Z.ret Z.aJ)) Z.bo)
   (Z.ag (Z.se (i:=4) cp.nd (Z.ix (Z.aC K rfl hu) (Z.ct (qc (D:=df) K rfl rfl) rfl T.Du (by decide +kernel) (Z.cons (Z.glob rfl hg_SHAPES hr_SHAPES) Z.nil)) (Z.ix (Z.aC K rfl hu) (Z.v 3) Z.int)))
   (Z.ag (Z.se (i:=5) cp.nd (Z.lst (Z.cons (Z.v 4) Z.nil)))
   (Z.ag (Z.se (i:=6) cp.nd (Z.ix (Z.aC K rfl hu) (Z.v 3) Z.int))
   (Z.ag (Z.eW IK rfl (Z.seq K rfl (Z.Hl K rfl rfl hg_SHAPES hd_SHAPES (Z.v 4))) (Z.aT (i:=7) cp.nd rfl (by right)) (Z.ag (Z.se (i:=8) cp.nd (Z.fc hpart_at (Z.cons (Z.v 7) (Z.cons (Z.v 0) (Z.cons (Z.v 1) (Z.cons (Z.v 6) Z.nil))))))
   (Z.ag (Z.cN (Z.aR bQ (Z.v 8) Z.aJ) (Z.au (Z.ret Z.aJ)) Z.bo)
   (Z.ag (Z.expr (Z.app K (Z.v 5) (Z.cons (Z.ix (Z.aC K rfl hu) (Z.v 8) Z.int) Z.nil)))
   (Z.au (Z.se (i:=6) cp.nd (Z.ix (Z.aC K rfl hu) (Z.v 8) Z.int)))))))
   (Z.au (Z.ret (Z.tup (Z.cons (Z.ct (Z.e9 K rfl) rfl T.cU (by decide +kernel) (Z.cons (Z.v 5) Z.nil)) (Z.cons (Z.v 6) Z.nil)))))))))))),?_⟩
  refine aq λN hN=>?_;by_cases hp:p<0
  ·unfold FT at q;rw[Ig hp] at q;exists Ig hp;exact q _ _ (KB.refl _ _) rfl
  obtain⟨p,rfl⟩:∃p':Nat,p=(p':Int):=⟨p.toNat,by lia⟩
  rw[r6] at q;exists H_ hp;rw[hN];clear hN N;refine aq λN hN=>?_;obtain⟨c0,c1,c2,rfl,l0,l1,l2⟩:=hR.fM.ex;have n0:=(hR.pf c0 (by simp)).ne
  have hc':=hc;obtain⟨a0,a1,a2,g,g0,g1,g2⟩:=hc';exists aA g;refine⟨a0,c0,z,p,rfl,bq.of g0,n0,by lia,hz,λv H1 k1 o1=>?_⟩
  rw[hN];clear hN N;refine aq λN hN=>?_;unfold wI at q
  replace q:∀v H',KB [] H H'->GY H' v ((hZ c0 z p).bind λx=>(iD [c0,c1,c2] z (xG x.1) x.2).map λy=>(⟨x.1,y.1⟩,y.2))->Q v H':=q
  cases c:hZ c0 z p with
  |none =>
   rw[c] at q o1;obtain rfl:v=.aJ:=o1;walk_at "rz";exact q _ _ k1 rfl
  |some x =>
   rw[c] at q o1;obtain⟨wi,e⟩:=x;have h9:wi<9:=by have:=(dP n0 c).1;dsimp only at this;lia
   replace q:∀v H',KB [] H H'->GY H' v ((iD [c0,c1,c2] z (xG wi) e).map λy=>(⟨wi,y.1⟩,y.2))->Q v H':=q
   obtain⟨t,rfl,ht⟩:=o1;dsimp only at ht;exists if_neg (show ¬ V.ref t=V.aJ from V.noConfusion);rw[hN];clear hN N;refine aq λN hN=>?_;have ak:cq (df.map λp=>V.str p.1) (wi:Int)=some (.str (aZ.getD wi (Str.ofString ""))):=bI (by
    show (aZ.map V.str)[wi]?=_;rw[Ie,Ic,HV (show wi<aZ.length from h9)];rfl)
   walk_at "rz";refine⟨dS,rfl,hd_SHAPES,by decide,λl hl=>?_⟩
   have k2:KB [] H1 (upd H1 l (.lst (df.map λp=>V.str p.1))):=KB.new hl;have s2:upd H1 l (.lst (df.map λp=>V.str p.1)) l=some (.lst (df.map λp=>V.str p.1)):=aa;generalize upd H1 l (.lst (df.map λp=>V.str p.1))=H2 at *;have ht2:=k2 _ _ ht (by simp)
   exists aF ht2,aA s2,ak;have h02:KB [] H H2:=k1.trans k2;clear k1 k2 s2 hl ht ak;rw[hN];clear hN N;have hlen:(xG wi).length<=2:=by
    have:wi=0\/wi=1\/wi=2\/wi=3\/wi=4\/wi=5\/wi=6\/wi=7\/wi=8:=by lia
    rcases this with rfl|rfl|rfl|rfl|rfl|rfl|rfl|rfl|rfl<;>decide
   have e1:=Aq h9;generalize hps:xG wi=ks0 at *;generalize hw9:aZ.getD wi (Str.ofString "")=W at *;refine aq λN hN=>?_;walk_at "rz";refine⟨by decide,λrl hrl=>?_⟩
   have k3:KB [] H2 (upd H2 rl (.lst [.str W])):=KB.new hrl;have s3:upd H2 rl (.lst [.str W]) rl=some (.lst [.str W]):=aa;generalize upd H2 rl (.lst [.str W])=H3 at *;have hrl0:H rl=none:=h02.free (by simp) hrl
   have h03:KB [] H H3:=h02.trans k3;have ht3:=k3 _ _ ht2 (by simp)
   rw[hN];clear hN N;refine aq λN hN=>?_;exists aF ht3;rw[hN];clear hN N;refine aq λN hN=>?_;walk_at "rz";refine⟨W,_,rfl,e1,λpk kt=>?_⟩;have st:∀H,bq K H pk ((ks0.map Kd.s).map V.str):=λH=>.inr kt;refine .inr ⟨⟨_,st H3⟩,?_⟩;have kL:∀{H4 H5:Hp},KB [rl] H4 H5->KB [rl] H H4->KB [] H H5:=λa b c o e _=>a _ _ (b _ _ e (by simpa using ao e hrl0)) (by simpa using ao e hrl0)
   refine jI (xs:=(ks0.map Kd.s).map V.str) (λi σ H'=>∃(acc:List (PV×Nat)) (a:Nat) (o7 o8:Option V),i<=ks0.length/\(iD [c0,c1,c2] z ks0 e=(iD [c0,c1,c2] z (ks0.drop i) a).map λy=>(acc++y.1,y.2))/\acc.length=i/\H' rl=some (.lst (.str W::acc.map λx=>x.1.v x.2))/\KB [] H H'/\σ=[some (.ref ca),some (.str (wd z)),some (.int (p:Nat)),some (.ref t),some (.str W),some (.ref rl),some (.int (a:Nat)),o7,o8]) ⟨[],e,none,none,Iv _,by rw[J5];cases iD [c0,c1,c2] z ks0 e<;>rfl,rfl,s3,h03,rfl⟩ (λi σ H' _ _=>st H') ?_ ?_
   ·rintro i x σ H' hx ⟨acc,a,o7,o8,hi,ep,hacc,hrl',h0',rfl⟩;have hi2:i<ks0.length:=by have:=(HZ.mp hx).1;rw[HY,HY] at this;exact this
    obtain rfl:x=.str (ks0[i]).s:=by
     rw[Ie,Ie,HV hi2] at hx;exact (Option.some.inj hx).symm
    rw[J9 hi2,iD] at ep;generalize ks0[i]=k at *;unfold aQ;refine aq λM hM=>?_;walk_at "rz";refine⟨ca,[c0,c1,c2],z,a,k,rfl,hc.kb h0',hR,hb,hz,λv H5 k5 o5=>?_⟩;rw[hM];clear hM M;have h05:=h0'.trans k5
    cases c3:uj [c0,c1,c2] z a k with
    |none =>
     rw[c3] at ep o5;obtain rfl:v=.aJ:=o5;have ep':iD [c0,c1,c2] z ks0 e=none:=ep;rw[ep'] at q;refine aq λM hM=>?_;walk_at "rz";exact q _ _ h05 rfl
    |some x =>
     rw[c3] at ep o5;obtain⟨t5,rfl,ht5⟩:=o5;refine aq λM hM=>?_;exists H_ (show ¬ V.ref t5=V.aJ from V.noConfusion);rw[hM];clear hM M;refine aq λM hM=>?_;exists aF ht5;have hr5:=k5 _ _ hrl' (by simp)
     refine⟨.inl ⟨rfl,_,bz.of hr5⟩,rl,_,_,rfl,rfl,hr5,ID (show _<4 by rw[Iq,HY];lia) (by decide),?_⟩
     rw[hM];clear hM M;have nt:t5≠rl:=λz=>by rw[z,hr5] at ht5;cases ht5
     have e6:(V.str W::acc.map λx=>x.1.v x.2)++[x.1.v x.2]=.str W::(acc++[x]).map λx=>x.1.v x.2:=by rw[IB];rfl
     rw[e6];have s6:upd H5 rl (.lst (.str W::(acc++[x]).map λx=>x.1.v x.2)) rl=_:=aa;have ht6:=(ae (o:=HO.lst (.str W::(acc++[x]).map λx=>x.1.v x.2)) (H:=H5) nt).trans ht5;have h06:KB [] H (upd H5 rl (.lst (.str W::(acc++[x]).map λx=>x.1.v x.2))):=λc o e _=>by rw[ae (ao e hrl0)];exact h05 _ _ e (by simp)
     generalize upd H5 rl (.lst (.str W::(acc++[x]).map λx=>x.1.v x.2))=H6 at *;dsimp only;refine mL λM hM=>?_;exists aF ht6;rw[hM];refine⟨acc++[x],x.2,some _,some _,hi2,?_,by rw[List.length_append,hacc];rfl,s6,h06,rfl⟩
     rw[ep,M5]
     cases iD [c0,c1,c2] z (ks0.drop (i+1)) x.2 with
     |none=>rfl
     |some y=>show some (acc++(x::y.1),y.2)=some ((acc++[x])++y.1,y.2);rw[II];rfl
   ·rintro σ H' ⟨acc,a,o7,o8,_,ep,_,hrl',h0',rfl⟩;rw[HY,HY,Kc] at ep;have ep':iD [c0,c1,c2] z ks0 e=some (acc,a):=by rw[ep];show some (acc++[],a)=_;rw[Jd]
    rw[ep'] at q;show N _ _;rw[hN];clear hN N;exists aA hrl';intro rt hrt;have k7:KB [] H' (upd H' rt (.tup (.str W::acc.map λx=>x.1.v x.2))):=KB.new hrt;have s7:upd H' rt (.tup (.str W::acc.map λx=>x.1.v x.2)) rt=_:=aa;generalize upd H' rt (.tup (.str W::acc.map λx=>x.1.v x.2))=H7 at *;refine⟨by decide,λtt htt=>q _ _ ((h0'.trans k7).trans (KB.new htt)) ⟨tt,rt,rfl,aa,?_⟩⟩
    rw[ae (ao s7 htt),s7];show some (HO.tup (V.str W::_))=some (.tup (RW.v ⟨wi,acc⟩));unfold RW.v;rw[hw9]
noncomputable def NT(ex:List Addr)(H:Hp):Prop:=∀b∈ex,∀xs,H b≠some (.tup xs)
theorem NT.nil(H:Hp):NT [] H:=λb hb=>nomatch hb
theorem bt.nt{p:Addr}{n:Nat}(h:bt H p dq n):NT [p,dq] H:=λb hb xs e=>by
 obtain⟨ys,e'⟩:=h.lst b hb;rw[e] at e';cases e'
noncomputable def rj(H:Hp)(b:Addr)(bk:List (List Int)):Prop:=∃as:List Addr,H b=some (.tup (as.map V.ref))/\as.length=bk.length/\∀(i:Nat) (a:Addr),as[i]?=some a->H a=some (.tup (iV (bk.getD i [])))
theorem rj.keep{b:Addr}{bk:List (List Int)}(h:rj H b bk)(k:KB ex H H')(hx:NT ex H):rj H' b bk:=by
 obtain⟨as,h1,h2,h3⟩:=h;exact⟨as,k _ _ h1 λz=>hx _ z _ h1,h2,λi a e=>k _ _ (h3 i a e) λz=>hx _ z _ (h3 i a e)⟩
theorem rj.kb{b:Addr}{bk:List (List Int)}(h:rj H b bk)(k:KB [] H H'):rj H' b bk:=h.keep k (NT.nil _)
theorem qB{l:List α}(h:l.length=3):∃a b c,l=[a,b,c]:=by
 rcases l with _|⟨a,_|⟨b,_|⟨c,_|⟨d,l⟩⟩⟩⟩<;>first|exact⟨_,_,_,rfl⟩ | (exfalso;revert h;simp)
noncomputable def mI(K:W.Frag):Sp:=λvs H Q _=>∃(b:Addr) (bk:List (List Int)),vs=[.ref b]/\rj H b bk/\Bk bk/\∀ca H',H ca=none->KB [] H H'->AB H' ca (gu bk)->Q (.ref ca) H'
theorem ye(T:Txt K mg)(F:HasFn K mg "codes_of" eG ["book"])(hcode_of:ai P w K mg base bf 4 "code_of" ["lengths"] (vV K)):ai P w K mg base bf 6 "codes_of" ["book"] (mI K):=by
 refine F.fN oR (λvs H Q E h=>?_) (λf cdv A outer s H vs Q E hr h=>?_)
 ·obtain⟨b,bk,rfl,_⟩:=h;rfl
 ·have hu:=ba hr;obtain⟨b,bk,rfl,hb,hB,q⟩:=h;obtain⟨as,hb1,hb2,hb3⟩:=hb;obtain⟨l0,l1,l2,rfl,_,_,_,hl⟩:=hB;refine⟨_,(Z.au (Z.ret (Z.DV (osc:=af eG) (ON:=["book"]) (own:=["lengths"]) (N:=["lengths","book"]) (aG.of rfl (by decide +kernel)) (Z.any K rfl (Z.v 0)) (λnd _ _ _ _=>(Z.aT (i:=0) nd rfl (by right))) (λ_ _ _ _=>Z.AQ) (λ_ _ _ _=>(Z.fc hcode_of (Z.cons (Z.v 0) Z.nil)))))),?_⟩
  exists aF hb1;refine fF (xs:=as.map V.ref) (Ia (show _<=3 by rw[HY,hb2];exact Ib 3) (by decide)) (λD i ys H'=>H D=none/\H' D=some (.lst ys)/\KB [] H H'/\∃cs:List Addr,ys=cs.map V.ref/\cs.length=i/\∀(j:Nat) (c:Addr),cs[j]?=some c->H' c=some (.tup (wV (wordsOf Cw.dm (List.getD [l0,l1,l2] j []))))) (λD hD=>⟨hD,aa,KB.new hD,[],rfl,rfl,λj c e=>nomatch e⟩) (λD i ys H' h=>⟨h.2.1,by obtain⟨_,_,_,cs,rfl,e,_⟩:=h;rw[HY,e]⟩) (λD i ys H' h=>bq.of (h.2.2.1 _ _ hb1 (by simp))) ?_ ?_
  ·rintro D i ys H' x R hx ⟨g0,g1,g2,cs,rfl,g4,g5⟩ kk;obtain⟨a,ea,rfl⟩:∃a,as[i]?=some a/\x=.ref a:=by
    rw[Ie] at hx;obtain⟨a,e,rfl⟩:=IC.mp hx;exact⟨a,e,rfl⟩
   have hi:i<3:=by have:=(HZ.mp ea).1;rw[hb2] at this;exact this
   have hm:List.getD [l0,l1,l2] i []∈[l0,l1,l2]:=by
    rcases lp hi with rfl|rfl|rfl<;>simp
   walk_at "rz";refine⟨a,_,rfl,g2 _ _ (hb3 i a ea) (by simp),(hl _ hm).1,(hl _ hm).2,λc H5 k5 e5=>?_⟩
   have gD:=k5 _ _ g1 (by simp)
   have cD:c≠D:=λz=>by rw[z,gD] at e5;cases e5
   refine kk _ _ gD ⟨g0,aa,λu o e _=>by rw[ae (ao e g0)];exact k5 _ _ (g2 _ _ e (by simp)) (by simp),cs++[c],by rw[IB];rfl,by rw[HX,g4];rfl,λj d e=>?_⟩
   rcases Jb j cs.length with hj|hj
   ·rw[IJ hj] at e;have e6:=k5 _ _ (g5 j d e) (by simp)
    rw[ae (λz=>by rw[z,gD] at e6;cases e6)];exact e6
   ·rw[IG hj] at e;obtain⟨hj2,rfl⟩:=HZ.mp e;have:j=i:=by simp at hj2;lia
    subst this;rw[ae (show _≠D by simpa using cD)]
    simpa using e5
  ·rintro D ys H' ⟨g0,g1,g2,cs,rfl,g4,g5⟩;rw[HY,hb2] at g4;obtain⟨c0,c1,c2,rfl⟩:=qB g4;exact q D H' g0 g2 ⟨c0,c1,c2,g1,g5 0 c0 rfl,g5 1 c1 rfl,g5 2 c2 rfl⟩
noncomputable def vf(K:W.Frag):Sp:=λvs H Q _=>∃(p dq:Addr) (n:Nat),vs=[.ref p]/\bt H p dq n/\n<2^38/\∀(bk:List (List Int)) (b:Addr) H',bt H' p dq (n+200)->KB [p,dq] H H'->rj H' b bk->Bk bk->Q (.ref b) H'
theorem yT(T:Txt K mg)(F:HasFn K mg "_law_book" dA ["deck"])(h_law_draw:ai P w K mg base bf 2 "_law_draw" ["deck","most"] eM)(h_law_lengths:ai P w K mg base bf 3 "_law_lengths" ["deck","many"] (pV K)):ai P w K mg base bf 4 "_law_book" ["deck"] (vf K):=by
 refine F.fN mF (λvs H Q E h=>?_) (λf cdv A outer s H vs Q E hr h=>?_)
 ·obtain⟨p,dq,n,rfl,_⟩:=h;rfl
 ·have hu:=ba hr;obtain⟨p,dq,n,rfl,hd,hn,q⟩:=h;refine⟨_,(Z.ag (Z.cN (Z.aR b7 (Z.fc h_law_draw (Z.cons (Z.v 0) (Z.cons Z.int Z.nil))) Z.int) (Z.au (Z.ret (Z.tup (Z.cons (Z.op (Y.lJ K rfl) (Z.tup (Z.cons Z.int Z.nil)) Z.int) (Z.cons (Z.op (Y.lJ K rfl) (Z.tup (Z.cons Z.int Z.nil)) Z.int) (Z.cons (Z.op (Y.lJ K rfl) (Z.tup (Z.cons Z.int Z.nil)) Z.int) Z.nil)))))) Z.bo)
   (Z.au (Z.ret (Z.ct (Z.e9 K rfl) rfl T.cU (by decide +kernel) (Z.cons (Z.DV (osc:=af dA) (ON:=["deck"]) (own:=["many"]) (N:=["many","deck"]) (aG.of rfl (by decide +kernel)) (Z.any K rfl (Z.tup (Z.consts rfl))) (λnd _ _ _ _=>(Z.aT (i:=0) nd rfl (by right))) (λ_ _ _ _=>Z.AQ) (λ_ _ _ _=>(Z.fc h_law_lengths (Z.cons (Z.v 1) (Z.cons (Z.v 0) Z.nil))))) Z.nil))))),?_⟩
  refine aq λN hN=>?_;walk_at "rz";refine⟨p,dq,4,_,rfl,hd,by lia,by decide,by decide,λv H1 hv D1 k1=>?_⟩
  by_cases c:(v:Int)=0
  ·exists Ig c;have rep:∀(G:Hp) (j k:Int) (Q:VK),1<k->k<=20->(∀t u G',KB [] G G'->G t=none->u≠t->G' u=some (.tup (iV (List.replicate k.toNat j)))->Q (.ref u) G')->(0+1<=sizeLine/\∀t,G t=none->Y.Bo K (.ref t) (.int k) (upd G t (.tup [.int j])) Q):=λG j k Q h1 h2 q=>by
    refine⟨by decide,λt ht=>.inr ⟨t,k,_,rfl,rfl,bq.of aa,by simp,(show 1<=1000 by decide),h1,by lia,λu hu=>?_⟩⟩
    have e:(List.replicate k.toNat [V.int j]).flatten=iV (List.replicate k.toNat j):=by
     unfold iV;rw[Mi];generalize k.toNat=m
     induction m with
     |zero=>rfl
     |succ m ih=>rw[IV,Kj,ih];rfl
    rw[e];have ut:u≠t:=λz=>by rw[z,aa] at hu;cases hu
    exact q t u _ ((KB.new ht).trans (KB.new hu)) ht ut aa
   refine rep H1 4 9 _ (by decide) (by decide) λt1 u1 G1 g1 _ _ e1=>?_
   refine rep G1 5 17 _ (by decide) (by decide) λt2 u2 G2 g2 _ _ e2=>?_
   refine rep G2 3 8 _ (by decide) (by decide) λt3 u3 G3 g3 _ _ e3=>⟨by decide,λb hb=>?_⟩
   have kk:KB [] H1 (upd G3 b (.tup [.ref u1,.ref u2,.ref u3])):=((g1.trans g2).trans g3).trans (KB.new hb);have up:∀{x:Addr} {o:HO},G3 x=some o->upd G3 b (.tup [.ref u1,.ref u2,.ref u3]) x=some o:=λe=>by rw[ae (ao e hb)];exact e
   refine q [List.replicate 9 4,List.replicate 17 5,List.replicate 8 3] b _ ((D1.kb kk).mono (by lia)) (k1.trans kk.all) ⟨[u1,u2,u3],aa,rfl,λi a e=>?_⟩ ⟨_,_,_,rfl,rfl,rfl,rfl,λl hl=>?_⟩
   ·have hi:i<3:=(HZ.mp e).1;rcases lp hi with rfl|rfl|rfl
    ·cases e;exact up (g3 _ _ (g2 _ _ e1 (by simp)) (by simp))
    ·cases e;exact up (g3 _ _ e2 (by simp))
    ·cases e;exact up e3
   have rr:∀(n:Nat) (k:Int),0<n->n<=20->1<=k->k<=20->jm (List.replicate n k):=λn k a b c d=>⟨by rw[Iu];exact a,by rw[Iu];exact b,λx hx=>by rw[(JH.mp hx).2];lia⟩
   rcases Ih.mp hl with rfl|hl
   ·exact⟨rr 9 4 (by decide) (by decide) (by decide) (by decide),by decide +kernel⟩
   ·rcases Ih.mp hl with rfl|hl
    ·exact⟨rr 17 5 (by decide) (by decide) (by decide) (by decide),by decide +kernel⟩
    ·rw[Ir.mp hl];exact⟨rr 8 3 (by decide) (by decide) (by decide) (by decide),by decide +kernel⟩
  ·exists H_ c;rw[hN];clear hN N;walk_at "rz";refine⟨by decide,λt ht=>?_⟩
   have k2:KB [] H1 (upd H1 t (.tup [.int 9,.int 17,.int 8])):=KB.new ht;have s2:upd H1 t (.tup [.int 9,.int 17,.int 8]) t=some (.tup (iV [9,17,8])):=aa;generalize upd H1 t (.tup [.int 9,.int 17,.int 8])=H2 at *;have D2:=D1.kb k2;refine fF (xs:=iV [9,17,8]) (by decide) (λD i ys H'=>H2 D=none/\H' D=some (.lst ys)/\bt H' p dq (n+1+60*i)/\KB [p,dq] H2 H'/\∃(as:List Addr) (done:List (List Int)),ys=as.map V.ref/\as.length=i/\done.map List.length=[9,17,8].take i/\(∀l∈done,jm l/\mP l=true)/\∀(j:Nat) (a:Addr),as[j]?=some a->H' a=some (.tup (iV (done.getD j [])))) (λD hD=>⟨hD,aa,D2.kb (KB.new hD),KB.new hD,[],[],rfl,rfl,rfl,(λl h=>nomatch h),λj a e=>nomatch e⟩) (λD i ys H' h=>⟨h.2.1,by obtain⟨_,_,_,_,as,_,rfl,e,_⟩:=h;rw[HY,e]⟩) (λD i ys H' h=>bq.of (h.2.2.2.1 _ _ s2 λz=>D2.nt _ z _ s2)) ?_ ?_
   ·rintro D i ys H' x R hx ⟨g0,g1,gd,gk,as,done,rfl,ga,gl,gok,gat⟩ kk;obtain⟨hi,rfl⟩:=mJ hx;have nD:=D2.new g0;have dl:done.length=i:=by
     have:=IW List.length gl;rw[HY,IF] at this;have h3:([9,17,8]:List Nat).length=3:=rfl;have hi3:i<3:=hi;lia
    have key:∀m:Nat,2<=m->m<=17->([9,17,8]:List Nat).take (i+1)=([9,17,8]:List Nat).take i++[m]->pV K [.ref p,.int (m:Nat)] H' R E0:=λm m2 m17 em=>by
     refine⟨p,dq,m,_,rfl,gd,by have:i<3:=hi;lia,m2,m17,λls a H5 D5 k5 e5 l1 l2 l3=>?_⟩
     have gD:=k5 _ _ g1 nD;have aD:a≠D:=λz=>by rw[z,gD] at e5;cases e5
     have pD:p≠D:=λz=>nD (by simp[z])
     have qD:dq≠D:=λz=>nD (by simp[z])
     refine kk _ _ gD ⟨g0,aa,(D5.keep (KB.set (ex:=[D]) (by simp)) (by simpa using pD) (by simpa using qD)).mono (by lia),λu o e z=>by rw[ae (ao e g0)];exact k5 _ _ (gk _ _ e z) z,as++[a],done++[ls],by rw[IB];rfl,by rw[HX,ga];rfl,by rw[IB,gl,em];rw[IA,l1];rfl,λl hl=>?_,λj b e=>?_⟩
     ·rcases Jk.mp hl with hl|hl
      ·exact gok l hl
      ·rw[Ir.mp hl];exact⟨l2,l3⟩
     ·rcases Jb j as.length with hj|hj
      ·rw[IJ hj] at e;have e6:=gd.tup k5 (gat j b e);rw[ae (λz=>by rw[z,gD] at e6;cases e6),e6,Ic,Ic,IJ (by lia)]
      ·rw[IG hj] at e;obtain⟨hj2,rfl⟩:=HZ.mp e;have hj3:j=as.length:=by simp at hj2;lia
       subst hj3;simp only[JG,Kf];rw[ae aD,e5,Ic,IG (by lia),show as.length-done.length=0 by lia]
       rfl
    walk_at "rz";rcases lp (show i<3 from hi) with rfl|rfl|rfl
    ·exact key 9 (by decide) (by decide) rfl
    ·exact key 17 (by decide) (by decide) rfl
    ·exact key 8 (by decide) (by decide) rfl
   ·rintro D ys H' ⟨g0,g1,gd,gk,as,done,rfl,ga,gl,gok,gat⟩;exists aA g1;intro b hb;have gl':done.map List.length=[9,17,8]:=gl;have h3:done.length=3:=by have:=IW List.length gl';rw[HY] at this;exact this
    obtain⟨x,y,z,rfl⟩:=qB h3;simp only[IA,KD,List.cons.injEq] at gl';refine q [x,y,z] b _ ((gd.kb (KB.new hb)).mono (by show n+1+60*3<=_;lia)) (k1.trans (k2.all.trans (gk.trans (KB.new hb)))) ⟨as,aa,by rw[ga];rfl,λj a e=>?_⟩ ⟨x,y,z,rfl,gl'.1,gl'.2.1,gl'.2.2.1,gok⟩
    have:=gat j a e;rw[ae (ao this hb)];exact this
noncomputable def nX:Sp:=λvs H Q _=>∃(p dq:Addr) (n:Nat),vs=[.ref p]/\bt H p dq n/\n<2^40/\∀(v:Nat) H',bt H' p dq (n+2)->KB [p,dq] H H'->v<65536->Q (.int (v:Nat)) H'
theorem sS(T:Txt K mg)(F:HasFn K mg "_law_number" dE ["deck"])(h_law_draw:ai P w K mg base bf 2 "_law_draw" ["deck","most"] eM):ai P w K mg base bf 3 "_law_number" ["deck"] nX:=by
 refine F.fN dj (λvs H Q E h=>?_) (λf cdv A outer s H vs Q E hr h=>?_)
 ·obtain⟨p,dq,n,rfl,_⟩:=h;rfl
 ·have hu:=ba hr;obtain⟨p,dq,n,rfl,hd,hn,q⟩:=h;refine⟨_,(Z.ag (Z.se (i:=1) dj.nd (Z.fc h_law_draw (Z.cons (Z.v 0) (Z.cons Z.int Z.nil))))
   (Z.ag (Z.cN (Z.aR b7 (Z.v 1) Z.int) (Z.au (Z.ret Z.int)) Z.bo)
   (Z.ag (Z.se (i:=2) dj.nd (Z.op Ca Z.int (Z.op bY (Z.v 1) Z.int)))
   (Z.au (Z.ret (Z.op (Z.aK K rfl) (Z.v 2) (Z.fc h_law_draw (Z.cons (Z.v 0) (Z.cons (Z.v 2) Z.nil))))))))),?_⟩
  refine aq λN hN=>?_;walk_at "rz";refine⟨p,dq,17,n,rfl,hd,by lia,by decide,by decide,λz H1 hz D1 k1=>?_⟩
  rw[hN];clear hN N;refine aq λN hN=>?_;by_cases a0:(z:Int)=0
  ·exists Ig a0;exact q 0 H1 (D1.mono (by lia)) k1 (by decide)
  ·exists H_ a0;rw[hN];clear hN N;refine aq λN hN=>?_;walk_at "rz";refine⟨⟨by lia,by lia,by decide⟩,?_⟩
   rw[hN];clear hN N;obtain⟨j,ej,hj⟩:∃j:Nat,((z:Int)-1).toNat=j/\j<=15:=⟨_,rfl,by lia⟩
   rw[ej,Int.one_mul];have p1:(0:Int)<2^j:=Int.pow_pos (by decide)
   have p2:(2:Int)^j<=2^15:=by
    have:2^j<=2^15:=JX (by decide) hj
    exact_mod_cast this
   generalize (2:Int)^j=t at p1 p2;walk_at "rz";refine⟨p,dq,t,n+1,rfl,D1,by lia,p1,by lia,λv H2 hv D2 k2=>?_⟩
   walk_at "rz";obtain⟨k,ek⟩:∃k:Nat,t+(v:Int)=k:=⟨(t+(v:Int)).toNat,by lia⟩
   rw[ek];exact q k H2 D2 (k1.trans k2) (by lia)
theorem two8{c:Nat}(h1:(c:Int)<2):∃m:Int,cq [V.int 2,.int 8] (c:Int)=some (.int m)/\0<m/\m<=8:=by
 have:c=0\/c=1:=by lia
 rcases this with rfl|rfl
 ·exact⟨2,rfl,by decide,by decide⟩
 ·exact⟨8,rfl,by decide,by decide⟩
theorem mT{p:Addr}{n:Nat}(D:bt H p dq n)(hn:n<2^49)(q:∀b H',b<8->bt H' p dq (n+2)->KB [p,dq] H H'->Q (.str (cX b)) H'):
  0+1+1<=sizeLine/\∀m,H m=none->eM [.ref p,.int 2] (upd H m (.lst [.int 2,.int 8])) (λy H2=>AE K (.ref m) y H2 λx H1=>eM [.ref p,x] H1 (λy H2=>AE K (.str (Str.ofString "abcdefgh")) y H2 Q) E0) E0:=by
 refine⟨by decide,λm hm=>⟨p,dq,2,n,rfl,D.kb (KB.new hm),by lia,by decide,by decide,λd H2 hd D2 k2=>?_⟩⟩
 have s2:=aA (k2 m _ aa (D.new hm));have kk:KB [p,dq] H H2:=(KB.new hm).trans k2;obtain⟨x,ha,x0,x8⟩:=two8 hd;exists s2,ha;refine⟨p,dq,x,n+1,rfl,D2,by lia,x0,by lia,λy H3 hy D3 k3=>?_⟩
 have hb:=wG (show 0<=(y:Int) by lia) (show (y:Int)<8 by lia)
 exists hb;exact⟨by decide +kernel,q y H3 (by lia) D3 (kk.trans k3)⟩
noncomputable def AS(K:W.Frag):Sp:=λvs H Q _=>∃(p dq:Addr) (many n:Nat),vs=[.ref p,.int (many:Nat)]/\bt H p dq n/\n<2^38/\many<1000/\∀(r:Row) (a:Addr) H',r.Ok many->H' a=some (.tup r.vs)->bt H' p dq (n+5)->KB [p,dq] H H'->Q (.ref a) H'
theorem Dr(T:Txt K mg)(F:HasFn K mg "_law_row" gi ["deck","goals"])(h_law_draw:ai P w K mg base bf 2 "_law_draw" ["deck","most"] eM)(h_law_number:ai P w K mg base bf 3 "_law_number" ["deck"] nX):ai P w K mg base bf 4 "_law_row" ["deck","goals"] (AS K):=by
 refine F.fN d9 (λvs H Q E h=>?_) (λf cdv A outer s H vs Q E hr h=>?_)
 ·obtain⟨p,dq,many,n,rfl,_⟩:=h;rfl
 ·have hu:=ba hr;obtain⟨p,dq,many,n,rfl,hd,hn,hmy,q⟩:=h;refine⟨_,(Z.ag (Z.se (i:=2) d9.nd (Z.lst (Z.consts rfl)))
   (Z.ag (Z.se (i:=3) d9.nd (Z.ix (Z.aC K rfl hu) (Z.v 2) (Z.fc h_law_draw (Z.cons (Z.v 0) (Z.cons Z.int Z.nil)))))
   (Z.ag (Z.se (i:=4) d9.nd (Z.ix (Z.aC K rfl hu) Z.str (Z.fc h_law_draw (Z.cons (Z.v 0) (Z.cons (Z.ix (Z.aC K rfl hu) (Z.lst (Z.consts rfl)) (Z.fc h_law_draw (Z.cons (Z.v 0) (Z.cons Z.int Z.nil)))) Z.nil)))))
   (Z.ag (Z.cN (Z.aR b7 (Z.v 3) Z.str) (Z.au (Z.ret (Z.tup (Z.cons (Z.v 3) (Z.cons (Z.v 4) (Z.cons (Z.fc h_law_number (Z.cons (Z.v 0) Z.nil)) Z.nil)))))) Z.bo)
   (Z.ag (Z.cN (Z.aR (Z.yF K rfl hu) (Z.v 3) (Z.tup (Z.consts rfl))) (Z.au (Z.ret (Z.tup (Z.cons (Z.v 3) (Z.cons (Z.v 4) (Z.cons (Z.ix (Z.aC K rfl hu) Z.str (Z.fc h_law_draw (Z.cons (Z.v 0) (Z.cons (Z.ix (Z.aC K rfl hu) (Z.lst (Z.consts rfl)) (Z.fc h_law_draw (Z.cons (Z.v 0) (Z.cons Z.int Z.nil)))) Z.nil)))) Z.nil)))))) Z.bo)
   (Z.ag (Z.cN (Z.aR (Z.yF K rfl hu) (Z.v 3) (Z.tup (Z.consts rfl))) (Z.au (Z.ret (Z.tup (Z.cons (Z.v 3) (Z.cons (Z.v 4) Z.nil))))) Z.bo)
   (Z.ag (Z.cN (Z.aR b7 (Z.v 3) Z.str) (Z.au (Z.ret (Z.tup (Z.cons (Z.v 3) (Z.cons (Z.fc h_law_draw (Z.cons (Z.v 0) (Z.cons (Z.op (Z.aK K rfl) (Z.v 1) Z.int) Z.nil))) Z.nil))))) Z.bo)
   (Z.ag (Z.cN (Z.aR b7 (Z.v 3) Z.str) (Z.au (Z.ret (Z.tup (Z.cons (Z.v 3) (Z.cons (Z.v 4) (Z.cons (Z.fc h_law_draw (Z.cons (Z.v 0) (Z.cons (Z.op (Z.aK K rfl) (Z.v 1) Z.int) Z.nil))) Z.nil)))))) Z.bo)
   (Z.au (Z.ret (Z.tup (Z.cons (Z.v 3) Z.nil)))))))))))),?_⟩
  refine aq λN hN=>?_;walk_at "rz";refine⟨by decide,λl hl=>?_⟩
  have k1:KB [] H (upd H l (.lst [.str (Str.ofString "put"),.str (Str.ofString "put"),.str (Str.ofString "add"),.str (Str.ofString "sub"),.str (Str.ofString "copy"),.str (Str.ofString "tell"),.str (Str.ofString "tell"),.str (Str.ofString "hear"),.str (Str.ofString "jump"),.str (Str.ofString "zero"),.str (Str.ofString "zero"),.str (Str.ofString "halt")])):=KB.new hl;have s1:upd H l (.lst [.str (Str.ofString "put"),.str (Str.ofString "put"),.str (Str.ofString "add"),.str (Str.ofString "sub"),.str (Str.ofString "copy"),.str (Str.ofString "tell"),.str (Str.ofString "tell"),.str (Str.ofString "hear"),.str (Str.ofString "jump"),.str (Str.ofString "zero"),.str (Str.ofString "zero"),.str (Str.ofString "halt")]) l=_:=aa;generalize upd H l _=H1 at *;have D1:=hd.kb k1;have nl:=hd.new hl;rw[hN];clear hN N;refine aq λN hN=>?_;walk_at "rz";refine⟨p,dq,12,n,rfl,D1,by lia,by decide,by decide,λc H2 hc D2 k2=>?_⟩
  have s2:=k2 _ _ s1 nl;obtain⟨v,hv,ha⟩:=C_ (xs:=[V.str (Str.ofString "put"),.str (Str.ofString "put"),.str (Str.ofString "add"),.str (Str.ofString "sub"),.str (Str.ofString "copy"),.str (Str.ofString "tell"),.str (Str.ofString "tell"),.str (Str.ofString "hear"),.str (Str.ofString "jump"),.str (Str.ofString "zero"),.str (Str.ofString "zero"),.str (Str.ofString "halt")]) (i:=c) hc;exists aA s2,ha;have kk2:KB [p,dq] H H2:=k1.all.trans k2;clear ha hc k1 k2 s1 s2 nl hl;rw[hN];clear hN N;refine aq λN hN=>?_;walk_at "rz";refine mT D2 (by lia) λbn H3 hb8 D3 k3=>?_
  have kk3:=kk2.trans k3;clear k3 D2 kk2 D1;rw[hN];clear hN N;have hv6:v=.str "put"\/(∃w,v=.str (w2 w))\/(∃w,v=.str (w1 w))\/v=.str "jump"\/v=.str "zero"\/v=.str "halt":=by
   simp only[Ih,IT,JW] at hv;rcases hv with h|h|h|h|h|h|h|h|h|h|h|h<;>subst h<;>first|exact .inl rfl|exact .inr (.inl ⟨0,rfl⟩)|exact .inr (.inl ⟨1,rfl⟩)|exact .inr (.inl ⟨2,rfl⟩)|exact .inr (.inr (.inl ⟨0,rfl⟩))|exact .inr (.inr (.inl ⟨1,rfl⟩))|exact .inr (.inr (.inr (.inl rfl)))|exact .inr (.inr (.inr (.inr (.inl rfl))))|exact .inr (.inr (.inr (.inr (.inr rfl))))
  clear hv;have tell:∀(r:Row) (G:Hp) (m:Nat),r.Ok many->bt G p dq m->m<=n+5->KB [p,dq] H G->∀t,G t=none->Q (.ref t) (upd G t (.tup r.vs)):=λr G m ok D hm k t ht=>q r t _ ok aa ((D.kb (KB.new ht)).mono hm) (k.trans (KB.new ht));refine aq λN hN=>?_;rcases hv6 with rfl|⟨u,rfl⟩|⟨u,rfl⟩|hv
  ·exists (show (Str.ofString "put"=Str.ofString "put")=True from eq_true rfl),KG;refine⟨p,dq,n+3,rfl,D3,by lia,λk H4 D4 k4 hk=>⟨by decide,λt ht=>?_⟩⟩
   exact tell (.put bn k) H4 _ ⟨hb8,hk⟩ D4 (by lia) (kk3.trans k4) t ht
  ·have n1:∀u,w2 u≠"put":=by decide +kernel
   have i1:∀u,iU (.str (w2 u)) [.str "add",.str "sub",.str "copy"]=true:=by decide +kernel
   exists H_ (n1 u);rw[hN];clear hN N;refine aq λN hN=>?_;exists i1 u;refine⟨by decide,λt0 ht0=>⟨rfl,rfl,?_⟩⟩
   refine mT (D3.kb (KB.new ht0)) (by lia) λb2 H4 hb2 D4 k4=>⟨by decide,λt ht=>?_⟩
   exact tell (.two u bn b2) H4 _ ⟨hb8,hb2⟩ D4 (by lia) ((kk3.trans (KB.new ht0)).trans k4) t ht
  ·have n1:∀u,w1 u≠"put":=by decide +kernel
   have i1:∀u,iU (.str (w1 u)) [.str "add",.str "sub",.str "copy"]=false:=by decide +kernel
   have i2:∀u,iU (.str (w1 u)) [.str "tell",.str "hear"]=true:=by decide +kernel
   exists H_ (n1 u);rw[hN];clear hN N;refine aq λN hN=>?_;exists i1 u;refine⟨by decide,λt0 ht0=>⟨rfl,rfl,?_⟩⟩
   rw[hN];clear hN N;refine aq λN hN=>?_;exists i2 u;refine⟨by decide,λt1 ht1=>⟨rfl,rfl,by decide,λt ht=>?_⟩⟩
   exact tell (.one u bn) _ _ hb8 ((D3.kb (KB.new ht0)).kb (KB.new ht1)) (by lia) ((kk3.trans (KB.new ht0)).trans (KB.new ht1)) t ht
  ·have n1:∀z∈([("jump"),("zero"),("halt")]:List Str),z≠"put"/\iU (.str z) [.str "add",.str "sub",.str "copy"]=false/\iU (.str z) [.str "tell",.str "hear"]=false:=by decide +kernel
   obtain⟨z,hz,rfl⟩:∃z∈([("jump"),("zero"),("halt")]:List Str),v=.str z:=by rcases hv with rfl|rfl|rfl<;>exact⟨_,by simp,rfl⟩
   obtain⟨e1,e2,e3⟩:=n1 z hz;exists H_ e1;rw[hN];clear hN N;refine aq λN hN=>?_;exists e2;refine⟨by decide,λt0 ht0=>⟨rfl,rfl,?_⟩⟩
   rw[hN];clear hN N;refine aq λN hN=>?_;exists e3;refine⟨by decide,λt1 ht1=>⟨rfl,rfl,?_⟩⟩
   have D4:=(D3.kb (KB.new (o:=.tup [.str "add",.str "sub",.str "copy"]) ht0)).kb (KB.new (o:=.tup [.str "tell",.str "hear"]) ht1);have kk4:=(kk3.trans (KB.new (o:=.tup [.str "add",.str "sub",.str "copy"]) ht0)).trans (KB.new (o:=.tup [.str "tell",.str "hear"]) ht1);rw[hN];clear hN N;generalize upd (upd H3 t0 _) t1 _=H4 at *;refine aq λN hN=>?_;rcases hv with hv|hv
   ·cases hv;exists Ig (rfl:Str.ofString "jump"=Str.ofString "jump");refine⟨p,dq,(many:Int)+1,n+3,rfl,D4,by lia,by lia,by lia,λg H5 hg D5 k5=>⟨by decide,λt ht=>?_⟩⟩
    exact tell (.jump g) H5 _ (show g<=many by lia) D5 (by lia) (kk4.trans k5) t ht
   ·have nh:z≠"jump":=by rcases hv with hv|hv<;>cases hv<;>decide +kernel
    exists H_ nh;rw[hN];clear hN N;refine aq λN hN=>?_;rcases hv with hv|hv
    ·cases hv;exists Ig (rfl:Str.ofString "zero"=Str.ofString "zero");refine⟨p,dq,(many:Int)+1,n+3,rfl,D4,by lia,by lia,by lia,λg H5 hg D5 k5=>⟨by decide,λt ht=>?_⟩⟩
     exact tell (.zero bn g) H5 _ ⟨hb8,(show g<=many by lia)⟩ D5 (by lia) (kk4.trans k5) t ht
    ·cases hv;have nz:Str.ofString "halt"≠Str.ofString "zero":=by decide +kernel
     exists H_ nz;rw[hN];clear hN N;walk_at "rz";exact⟨by decide,λt ht=>tell .halt H4 _ trivial D4 (by lia) kk4 t ht⟩
noncomputable def PA(H:Hp)(as:List Addr)(rs:List Row):Prop:=as.length=rs.length/\∀(i:Nat) (q:Addr) (r:Row),as[i]?=some q->rs[i]?=some r->H q=some (.tup r.vs)
theorem PA.snoc{rs:List Row}{q:Addr}{r:Row}(h:PA H as rs)(e:H q=some (.tup r.vs)):PA H (as++[q]) (rs++[r]):=by
 refine⟨by rw[HX,HX,h.1];rfl,λi q' r' e1 e2=>?_⟩
 rcases Jb i as.length with hi|hi
 ·rw[IJ hi] at e1;rw[IJ (by rw[<- h.1];exact hi)] at e2
  exact h.2 i q' r' e1 e2
 ·have h1:=h.1;rw[IG hi] at e1;rw[IG (by lia),<- h1] at e2
  obtain⟨hj,rfl⟩:=HZ.mp e1;obtain⟨hj2,rfl⟩:=HZ.mp e2;have:i-as.length=0:=by simp at hj;lia
  simp only[this,Kf];exact e
theorem PA.keep{rs:List Row}(h:PA H as rs)(k:KB ex H H')(hx:NT ex H):PA H' as rs:=⟨h.1,λi q r e1 e2=>k _ _ (h.2 i q r e1 e2) λz=>hx q z _ (h.2 i q r e1 e2)⟩
theorem gg{D:Addr}(h:H D=some (.lst ys)):NT [D] H:=λb hb xs e=>by
 rw[Ir.mp hb,h] at e;cases e
noncomputable def DS(H:Hp)(a:Addr)(rs:List Row):Prop:=∃as:List Addr,H a=some (.tup (as.map V.ref))/\PA H as rs
theorem DS.keep{rs:List Row}(h:DS H a rs)(k:KB ex H H')(hx:NT ex H):DS H' a rs:=by
 obtain⟨as,h1,h2⟩:=h;exact⟨as,k _ _ h1 λz=>hx a z _ h1,h2.keep k hx⟩
theorem DS.kb{rs:List Row}(h:DS H a rs)(k:KB [] H H'):DS H' a rs:=h.keep k (NT.nil _)
theorem AZ{X:Cx}{tk:Nat}{tp:Pos}{e1 e2:Expr}{ta:TA}{p pos:Pos}(K:W.Frag)(hK:X.K=K)(hg:Gl X "zip")(hm:X.mg "zip"=none)(ha:QA X [e1,e2] ta)(h1:autoParam (cG e1=true) ℜ0)(h2:autoParam (cG e2=true) ℜ0):QI X (.Tuple es tk tp) (.Call (.Name "zip" p) [e1,e2] [] pos) (xr K ta):=by
 subst hK;exact⟨yM hg hm ha.h h1 h2⟩
theorem nR(K:W.Frag)(ta:TA)(σ:L2.St)(H:Hp)(R:It->Hp->Prop):L2.xr K ta σ H R=ta σ H λvs H1=>∃p q:Bool×Addr,vs=[V.ref p.2,V.ref q.2]/\(∃xs,iw K p.1 H1 p.2 xs)/\(∃ys,iw K q.1 H1 q.2 ys)/\∀n,R (yW K (dU n [p,q])) H1:=rfl
theorem n6(hn:xs.length<=sizeLine)(Pv:Addr->Nat->List V->Hp->Prop)(h0:∀D,H D=none->Pv D 0 [] (upd H D (.lst [])))(hD:∀D i ys H',Pv D i ys H'->H' D=some (.lst ys)/\ys.length=i)
  (hl:∀D i ys H',Pv D i ys H'->bz K H' a xs)
  (hs:∀D i ys H' x p (R:VK),xs[i]?=some x->Pv D i ys H'->H' p=none->(∀v H5,H5 D=some (.lst ys)->Pv D (i+1) (ys++[v]) (upd H5 D (.lst (ys++[v])))->R v H5)->te (some (.int i)::some x::σ) (upd H' p (.tup [.int i,x])) R) (hd:∀D ys H',Pv D xs.length ys H'->Q (.ref D) H') :
  jv (yd K a) 2 (pN K 2 (cW (aQ 0) (cW (aQ 1) km))) eQ te Q σ H:=by
 intro D hD0;refine⟨λi m ys σ' H'=>m=xs.length-i/\i<=xs.length/\Pv D i ys H'/\∃o1 o2,σ'=o1::o2::σ,⟨xs.length,by simp,Iv _,h0 D hD0,none,none,rfl⟩,?_⟩
 rintro i m ys σ' H' ⟨rfl,hi,p,o1,o2,rfl⟩;obtain⟨hDi,hly⟩:=hD _ _ _ _ p;have q:=hl _ _ _ _ p;refine⟨hDi,?_⟩;by_cases hlt:i<xs.length
 ·refine .inr ⟨⟨xs[i],xs,q,by simp[hlt]⟩,by lia,λx H2 y=>?_⟩
  obtain⟨c,y,hy,fr,rfl,rfl⟩:=y;refine zZ ?_;unfold eQ;dsimp only;rw[if_pos rfl];exact hs D i ys H' y c _ (hy xs q) p fr λv H5 q1 q2=>⟨q1,xs.length-(i+1),by lia,rfl,hlt,q2,_,_,rfl⟩
 ·have e:i=xs.length:=by lia
  subst e;exact .inl ⟨⟨xs,q,rfl⟩,hd D ys H' p⟩
theorem pJ{b:Addr}{n:Nat}(hn:xs.length<=sizeLine)(hyx:xs.length<=ys.length)(Pv:Addr->Nat->List V->Hp->Prop)(h0:∀D,H D=none->Pv D 0 [] (upd H D (.lst [])))(hD:∀D i ws H',Pv D i ws H'->H' D=some (.lst ws)/\ws.length=i)
  (hl:∀D i ws H',Pv D i ws H'->bz K H' a xs/\bz K H' b ys)
  (hs:∀D i ws H' x y p (R:VK),xs[i]?=some x->ys[i]?=some y->Pv D i ws H'->H' p=none->(∀v H5,H5 D=some (.lst ws)->Pv D (i+1) (ws++[v]) (upd H5 D (.lst (ws++[v])))->R v H5)->te (some x::some y::σ) (upd H' p (.tup [x,y])) R) (hd:∀D ws H',Pv D (xs.length) ws H'->Q (.ref D) H') :
  jv (yW K (dU n [(true,a),(true,b)])) 2 (pN K 2 (cW (aQ 0) (cW (aQ 1) km))) eQ te Q σ H:=by
 intro D hD0;refine⟨λi m ws σ' H'=>m=xs.length-i/\i<=xs.length/\Pv D i ws H'/\∃o1 o2,σ'=o1::o2::σ,⟨xs.length,by simp,Iv _,h0 D hD0,none,none,rfl⟩,?_⟩
 rintro i m ws σ' H' ⟨rfl,hi,p,o1,o2,rfl⟩;obtain⟨hDi,hly⟩:=hD _ _ _ _ p;obtain⟨q1,q2⟩:=hl _ _ _ _ p;have q1':iw K true H' a xs:=q1;have q2':iw K true H' b ys:=q2;refine⟨hDi,?_⟩;by_cases hlt:i<xs.length
 ·have hl1:i<ys.length:=by lia
  refine .inr ⟨⟨[xs[i],ys[i]],.cons ⟨xs,q1',by simp[hlt]⟩ (.cons ⟨ys,q2',by simp[hl1]⟩ .nil)⟩,by lia,λx H2 z=>?_⟩
  obtain⟨c,vs,pr,fr,rfl,rfl⟩:=z;obtain⟨y1,vs,rfl,e1,pr⟩:=Paired.d6 pr;obtain⟨y2,vs,rfl,e2,pr⟩:=Paired.d6 pr;cases pr;refine zZ ?_;unfold eQ;dsimp only;rw[if_pos rfl];exact hs D i ws H' y1 y2 c _ (e1 xs q1') (e2 ys q2') p fr λv H5 q1 q2=>⟨q1,xs.length-(i+1),by lia,rfl,hlt,q2,_,_,rfl⟩
 ·have e:i=xs.length:=by lia
  subst e;exact .inl ⟨⟨[],(true,n,a),_,[],rfl,.nil,xs,q1',rfl⟩,hd D ws H' p⟩
noncomputable def pZ(sp:List Nat):List (Key×V):=(List.range sp.length).map λi=>(.inl (sp.getD i 0:Int),.int (i:Nat))
theorem rd(f:α->Int)(g:α->V):∀(l:List α) (x:α),x∈l->(∀y∈l,f y=f x->y=x)->bS (l.map λy=>((.inl (f y):Key),g y)) (.inl (f x))=some (g x)
 |[],_,h,_=>nomatch h
 |y::l,x,h,u=>by
  by_cases e:f y=f x
  ·have:=u y Ij e;subst this;exact bL rfl
  ·rw[IA,bC (λz=>e (Sum.inl.inj z))];rcases Ih.mp h with rfl|h
   ·exact absurd rfl e
   ·exact rd f g l x h λz hz=>u z (Ik _ hz)
theorem iQ{k:Nat}(h:k<sp.length):sp.take (k+1)=sp.take k++[sp.getD k 0]:=by
 rw[JQ,HV h,Ic,HV h];rfl
theorem iS(l:List Nat)(x:Nat):iV (nZ (l++[x]))=iV (nZ l)++[.int (x:Nat)]:=by
 unfold nZ;rw[IB,pQ];rfl
noncomputable def cY:bp->Option Int
 |.jump g=>some g
 |.zero _ g=>some g
 |_=>none
noncomputable def mG(r:bp):V:=match cY r with
 |some g=>.int g
 |none=>.aJ
noncomputable def lS:Sp:=λvs H Q _=>∃(p:Addr) (r:bp),vs=[.ref p]/\H p=some (.tup r.vs)/\Q (mG r) H
theorem vq(T:Txt K mg)(F:HasFn K mg "goal_of" i6 ["row"]):ai P w K mg base bf 1 "goal_of" ["row"] lS:=by
 obtain⟨dS,hg_SHAPES,hd0⟩:=T.oz;have hd_SHAPES:kx K dS cJ:=hd0;refine F.fN qm (λvs H Q E h=>?_) (λf cdv A outer s H vs Q E hr h=>?_)
 ·obtain⟨p,r,rfl,_⟩:=h;rfl
 ·have hu:=ba hr;obtain⟨p,r,rfl,hp,q⟩:=h;refine⟨_,(Z.au (Z.ret (Z.GJ (Z.aR (Z.DW K rfl) Z.str (Z.Hl K rfl rfl hg_SHAPES hd_SHAPES (Z.ix (Z.aC K rfl hu) (Z.v 0) Z.int))) (Z.ix (Z.aC K rfl hu) (Z.v 0) (Z.un cF Z.int)) Z.aJ))),?_⟩;have sp:=aF hp;have kt1:∀{pk:Addr} {xs:List V},FV K pk xs->bz K H pk xs\/bq K H pk xs:=λh=>.inr (.inr h);obtain⟨w,ws,e0,ed,ef,h⟩:∃(w:Str) (ws:List Str),cq r.vs 0=some (.str w)/\KTD.datumAt w cJ=some ws/\(ws.map V.str).all cA=true/\(iU (.str "goal") (ws.map V.str)=true/\cq r.vs (-1)=some (mG r)\/iU (.str "goal") (ws.map V.str)=false/\mG r=.aJ):=by
   cases r with
   |jump g=>exact⟨_,_,rfl,(by decide +kernel:KTD.datumAt ("jump":Str) cJ=some [("goal":Str)]),rfl,.inl ⟨by decide +kernel,rfl⟩⟩
   |zero b g=>exact⟨_,_,rfl,(by decide +kernel:KTD.datumAt ("zero":Str) cJ=some [("box":Str),"goal"]),rfl,.inl ⟨by decide +kernel,rfl⟩⟩
   |put b n=>exact⟨_,_,rfl,(by decide +kernel:KTD.datumAt ("put":Str) cJ=some [("box":Str),"number"]),rfl,.inr ⟨by decide +kernel,rfl⟩⟩
   |two u b c=>exact⟨_,_,rfl,(by decide +kernel:∀u:_root_.Fin 3,KTD.datumAt (w2 u) cJ=some [("box":Str),"box"]) u,rfl,.inr ⟨by decide +kernel,rfl⟩⟩
   |one u b=>exact⟨_,_,rfl,(by decide +kernel:∀u:_root_.Fin 2,KTD.datumAt (w1 u) cJ=some [("box":Str)]) u,rfl,.inr ⟨by decide +kernel,rfl⟩⟩
   |halt=>exact⟨_,_,rfl,(by decide +kernel:KTD.datumAt ("halt":Str) cJ=some ([]:List Str)),rfl,.inr ⟨by decide +kernel,rfl⟩⟩
  exists sp,e0;refine⟨_,_,rfl,ed,λpk kt=>⟨pk,_,rfl,kt1 kt,rfl,ef,?_⟩⟩;refine⟨_,rfl,?_⟩;rcases h with ⟨h1,h2⟩|⟨h1,h2⟩
  ·rw[H_ Il,h1,Ig rfl];simp only[sp,h2];exact q
  ·rw[H_ Il,h1,H_ Il];rw[h2] at q;exact q
noncomputable def bp.setG:bp->Int->bp
 |.jump _,g=>.jump g
 |.zero b _,g=>.zero b g
 |r,_=>r
theorem bp.gL{r:bp}(h:cY r=some g):∃xs:List V,xs≠[]/\xs.length<=2/\r.vs=xs++[.int g]/\∀g',(r.setG g').vs=xs++[.int g']:=by
 cases r with
 |jump _=>cases h;exact⟨[.str "jump"],by simp,by simp,rfl,λ_=>rfl⟩
 |zero b _=>cases h;exact⟨[.str "zero",.str (cX b)],by simp,by simp,rfl,λ_=>rfl⟩
 |put=>cases h
 |two=>cases h
 |one=>cases h
 |halt=>cases h
section
variable (cd:List (List (List Nat))) (z:List Nat)
noncomputable def kO:Nat->Nat->List (RW×Nat)
 |0,_=>[]
 |n+1,p=>if p<z.length then match wI cd z p with
  |none=>[]
  |some x=>x::kO n x.2 else []
noncomputable def aS:List (RW×Nat):=kO cd z z.length 0
noncomputable def aH:List Nat:=0::(aS cd z).map (·.2)
noncomputable def gm(en:List Nat)(x:RW×Nat):Option bp:=match cY (lI x) with
 |none=>some (lI x)
 |some g=>if g∈en.map λn:Nat=>(n:Int) then some ((lI x).setG (((en.map λn:Nat=>(n:Int)).idxOf g:Nat):Int)) else none
noncomputable def kj(en:List Nat):List (RW×Nat)->List Nat->Nat ⊕ List bp
 |x::l,s::ss=>match gm en x with
  |none=>.inl s
  |some r=>match kj en l ss with
   |.inl p=>.inl p
   |.inr rs=>.inr (r::rs)
 |_,_=>.inr []
noncomputable def DP:Nat ⊕ List bp:=if (aH cd z).getD (aS cd z).length 0<z.length then .inl ((aH cd z).getD (aS cd z).length 0) else kj (aH cd z) (aS cd z) (aH cd z)
end
section
variable {cd:List (List (List Nat))} {z:List Nat}
theorem q5(hR:me cd):∀(n p k:Nat),z.length<=n+p->k<=(kO cd z n p).length->(∀h:k<(kO cd z n p).length,(p::(kO cd z n p).map (·.2)).getD k 0<z.length/\wI cd z ((p::(kO cd z n p).map (·.2)).getD k 0)=some ((kO cd z n p)[k]))/\(k=(kO cd z n p).length->(p::(kO cd z n p).map (·.2)).getD k 0<z.length->wI cd z ((p::(kO cd z n p).map (·.2)).getD k 0)=none)
 |0,p,k,hn,hk=>by
  have hk0:k=0:=by simpa[kO] using hk
  subst hk0;refine⟨λh=>absurd h (by simp[kO]),λ_ h=>?_⟩
  have:(p::(kO cd z 0 p).map (·.2)).getD 0 0=p:=rfl;rw[this] at h;lia
 |n+1,p,k,hn,hk=>by
  by_cases c:p<z.length
  ·cases e:wI cd z p with
   |none =>
    have es:kO cd z (n+1) p=[]:=by rw[kO,Ig c,e]
    rw[es] at hk ⊢;have hk0:k=0:=by simpa using hk
    subst hk0;exact⟨λh=>absurd h (by simp),λ_ _=>e⟩
   |some x =>
    have es:kO cd z (n+1) p=x::kO cd z n x.2:=by rw[kO,Ig c,e]
    rw[es] at hk ⊢;have hp:=(zK hR e).2.2.2
    cases k with
    |zero=>exact⟨λ_=>⟨c,e⟩,λh=>absurd h (by simp)⟩
    |succ k =>
     obtain⟨i1,i2⟩:=q5 hR n x.2 k (by lia) (by simpa using hk)
     refine⟨λh=>?_,λh=>?_⟩
     ·have:=i1 (by simpa using h)
      simpa using this
     ·have:=i2 (by simpa using h)
      simpa using this
  ·have es:kO cd z (n+1) p=[]:=by rw[kO,H_ c]
   rw[es] at hk ⊢;have hk0:k=0:=by simpa using hk
   subst hk0;exact⟨λh=>absurd h (by simp),λ_ h=>absurd h c⟩
theorem mq(hR:me cd){k:Nat}(h:k<(aS cd z).length):(aH cd z).getD k 0<z.length/\wI cd z ((aH cd z).getD k 0)=some ((aS cd z)[k]):=(q5 hR z.length 0 k (by lia) (JU h)).1 h
theorem oP(hR:me cd)(h:(aH cd z).getD (aS cd z).length 0<z.length):wI cd z ((aH cd z).getD (aS cd z).length 0)=none:=(q5 hR z.length 0 _ (by lia) (Ib _)).2 rfl h
theorem eZ:(aH cd z).length=(aS cd z).length+1:=by unfold aH;rw[Iq,HY]
theorem iy{k:Nat}(h:k<(aS cd z).length):(aH cd z).getD (k+1) 0=((aS cd z)[k]).2:=by
 unfold aH;rw[Ic,MI,Ie,HV h];rfl
theorem iX(hR:me cd){k:Nat}(h:k<(aS cd z).length):(aH cd z).getD k 0<(aH cd z).getD (k+1) 0/\(aH cd z).getD (k+1) 0<=z.length:=by
 obtain⟨_,e⟩:=mq hR h;have:=(zK hR e).2.2.2;rw[iy h];exact this
theorem ig(hR:me cd)(i:Nat):∀d,i+d+1<=(aS cd z).length->(aH cd z).getD i 0<(aH cd z).getD (i+d+1) 0
 |0,h=>(iX hR (by lia)).1
 |d+1,h=>Lp (ig hR i d (by lia)) (iX hR (show i+d+1<(aS cd z).length by lia)).1
theorem oV(hR:me cd){j:Nat}(hi:i<=(aS cd z).length)(hj:j<=(aS cd z).length)(h:(aH cd z).getD i 0=(aH cd z).getD j 0):i=j:=by
 rcases Mq i j with c|c|c
 ·have:=ig (z:=z) hR i (j-i-1) (by lia)
  rw[show i+(j-i-1)+1=j by lia] at this
  lia
 ·exact c
 ·have:=ig (z:=z) hR j (i-j-1) (by lia)
  rw[show j+(i-j-1)+1=i by lia] at this
  lia
theorem gX(hR:me cd):∀k,k<=(aS cd z).length->k<=(aH cd z).getD k 0/\(aH cd z).getD k 0<=z.length
 |0,_=>⟨Iv _,by unfold aH;exact Iv _⟩
 |k+1,h=>by
  have h1:=(gX hR k (by lia)).1
  have h2:=iX hR (show k<(aS cd z).length by lia)
  exact⟨by lia,h2.2⟩
theorem zm(hR:me cd)(h:t<=(aS cd z).length):bS (pZ (aH cd z)) (.inl ((aH cd z).getD t 0:Int))=some (.int (t:Nat)):=by
 have sl:=eZ (cd:=cd) (z:=z);refine rd (λi=>(((aH cd z).getD i 0:Nat):Int)) (λi=>V.int (i:Nat)) (List.range (aH cd z).length) t (Jc.mpr (by lia)) λy hy e=>?_
 have:=Jc.mp hy;have e':(((aH cd z).getD y 0:Nat):Int)=(((aH cd z).getD t 0:Nat):Int):=e;exact oV (z:=z) hR (by lia) h (by lia)
theorem rT(h:g∉sp.map λn:Nat=>(n:Int)):bS (pZ sp) (.inl g)=none:=by
 unfold pZ;have key:∀l:List Nat,(∀i∈l,((sp.getD i 0:Nat):Int)≠g)->bS (l.map λi=>((.inl ((sp.getD i 0:Nat):Int):Key),V.int (i:Nat))) (.inl g)=none:=λl=>by
  induction l with
  |nil=>intro _;rfl
  |cons i l ih =>
   intro hl;rw[IA,bC (λz=>hl i Ij (Sum.inl.inj z))];exact ih λj hj=>hl j (Ik _ hj)
 refine key _ λi hi e=>h ?_;have hi':=Jc.mp hi;rw[<- e];refine Jg.mpr ⟨sp.getD i 0,?_,rfl⟩;rw[Ic,HV hi'];exact IH hi'
theorem zd(hR:me cd)(h:g∈(aH cd z).map λn:Nat=>(n:Int)):bS (pZ (aH cd z)) (.inl g)=some (.int ((((aH cd z).map λn:Nat=>(n:Int)).idxOf g:Nat):Int)):=by
 have hl:=List.idxOf_lt_length_of_mem h;have eg:=List.getElem_idxOf hl;have sl:=eZ (cd:=cd) (z:=z);rw[HY] at hl;have:=zm (z:=z) hR (t:=((aH cd z).map λn:Nat=>(n:Int)).idxOf g) (by lia)
 have e2:(((aH cd z).getD (((aH cd z).map λn:Nat=>(n:Int)).idxOf g) 0:Nat):Int)=g:=by
  rw[MB] at eg;rw[Ic,HV hl];exact eg
 rw[e2] at this;exact this
theorem pS(hR:me cd):fh [] (pZ (aH cd z))=pZ (aH cd z):=by
 rw[Y.kQ _ [] ?_,Jt];rw[Jt];unfold pZ;rw[MD];have sl:=eZ (cd:=cd) (z:=z);refine JZ.mpr (Lu (λ{i j} hi hj hne e=>?_) (MF (n:=(aH cd z).length)));have h1:=Jc.mp hi;have h2:=Jc.mp hj;have e':(((aH cd z).getD i 0:Nat):Int)=(((aH cd z).getD j 0:Nat):Int):=Sum.inl.inj e;exact hne (oV (z:=z) hR (by lia) (by lia) (by lia))
end
theorem n9(xs:List V)(v:V):eE (xs++[v]) none (some (-1))=xs:=by
 unfold eE;rw[HT.dh,J5,LO];have:HT.bE (xs++[v]).length (xs++[v]).length (some (-1))=xs.length:=by
  unfold HT.bE;simp only[show ((-1:Int)<0)=True from eq_true (by decide),KG,HX,Iq,Je]
  lia
 rw[this,Nh]
noncomputable def pw:Sp:=λvs H Q _=>∃(a:Addr) (xs:List V) (v:V) (g:Int),vs=[.ref a,.int g]/\H a=some (.tup (xs++[v]))/\xs≠[]/\xs.length<=2/\∀p H',KB [] H H'->H' p=some (.tup (xs++[.int g]))->Q (.ref p) H'
theorem zp(T:Txt K mg)(F:HasFn K mg "with_goal" fk ["row","goal"]):ai P w K mg base bf 1 "with_goal" ["row","goal"] pw:=by
 refine F.fN mw (λvs H Q E h=>?_) (λf cdv A outer s H vs Q E hr h=>?_)
 ·obtain⟨a,xs,v,g,rfl,_⟩:=h;rfl
 ·have hu:=ba hr;obtain⟨a,xs,v,g,rfl,ha,hne,hl,q⟩:=h;refine⟨_,(Z.au (Z.ret (Z.op (Z.aK K rfl) (Z.slice (Z.Am K rfl) (Z.v 0) Z.yo (Z.jZ (Z.un cF Z.int))) (Z.tup (Z.cons (Z.v 1) Z.nil))))),?_⟩;exists aF ha;refine⟨a,_,rfl,bq.of ha,λz=>?_,λp hp=>?_⟩
  ·have h1:=z.2;have:HT.bE (xs++[v]).length (xs++[v]).length (some (-1))=xs.length:=by
    unfold HT.bE;simp only[show ((-1:Int)<0)=True from eq_true (by decide),KG,HX,Iq,Je]
    lia
   rw[this,HX] at h1;simp at h1
  rw[n9];have k1:=KB.new (ex:=[]) (o:=.tup xs) hp;have s1:upd H p (.tup xs) p=_:=aa;generalize upd H p (.tup xs)=H1 at *;refine⟨by decide,λp2 hp2=>?_⟩
  have k2:=KB.new (ex:=[]) (o:=.tup [.int g]) hp2;have s2:upd H1 p2 (.tup [.int g]) p2=_:=aa;have s12:=k2 _ _ s1 (by simp)
  generalize upd H1 p2 (.tup [.int g])=H2 at *;simp only[L2.Ap.addRef,s12,s2];refine⟨hne,by simp,Ia (show _<=3 by simp;lia) (by decide),λp3 hp3=>?_⟩
  exact q _ _ (k1.trans (k2.trans (KB.new hp3))) aa
theorem Aw{C S:Addr}(x:eV K C S f "place")(F:uF K "__init__" "NoBits.__init__" aN f fd)(hS:mg "ShortError"=some (.ref S)):d2 P w K mg base (mM P w) 1 f fd ["self","place"] (DN C "place"):=by
 refine F.Hu fZ (λvs H Q E h=>?_) (λcdv A outer s H vs Q E hr h=>?_)
 ·obtain⟨e,i,rfl,_⟩:=h;rfl
 ·obtain⟨e,i,rfl,hi,he,q⟩:=h;refine⟨_,Z.ag (Z.expr ⟨zY (pl:=?pl) x ?g hS (Z.v 0) (Z.GH (Z.Gm (Z.GD (Z.v 1) Z.Gp))) ?e⟩) (Z.au ⟨DF x (Z.v 0) (Z.v 1)⟩),?_⟩
  case g=>rfl
  case e=>rfl
  refine⟨e,i,rfl,hi,he,λH' sm=>⟨e,i,rfl,sm _ _ he,λH2 d a1 a2 a3 a4=>q H2 d (λb o z n=>a1 b o (sm _ _ z) n) a2 a3 ?_⟩⟩
  cases z:H d with
  |none=>rfl
  |some o=>rw[sm _ _ z] at a4;cases a4
noncomputable def DO(H H':Hp)(N e d:Addr)(i:Int):Prop:=KB [] H H'/\H e=none/\H d=none/\H' e=some (.ext (hV e (.ref N) (some d)))/\H' d=some (.xd [("place",.int i)])
theorem DO.up{H0:Hp}{N e d:Addr}{i:Int}(h:DO H H' N e d i)(k:KB [] H0 H):DO H0 H' N e d i:=⟨k.trans h.1,k.free (by simp) h.2.1,k.free (by simp) h.2.2.1,h.2.2.2⟩
theorem rX(h:jr H H'):KB [] H H':=λb o e _=>h b o e
noncomputable def my(N:Addr):Sp:=λvs H Q E=>∃(a d:Addr) (st:Nat) (r:bp) (kvs:List (Key×V)),vs=[.ref a,.int (st:Nat),.ref d]/\H a=some (.tup r.vs)/\H d=some (.dK kvs)/\st<=1000000 /\
 (cY r=none->∀p H',KB [] H H'->H' p=some (.tup r.vs)->Q (.ref p) H') /\
 (∀g j,cY r=some g->bS kvs (.inl g)=some (.int j)->∀p H',KB [] H H'->H' p=some (.tup (r.setG j).vs)->Q (.ref p) H') /\
 (∀g,cY r=some g->bS kvs (.inl g)=none->∀e dd H',DO H H' N e dd (st:Nat)->E (.ref N) (some e) H') /\
 ∀g v,cY r=some g->bS kvs (.inl g)=some v->∃j,v=.int j
theorem zO{N:Addr}(vs:List V)(H:Hp)(Q:VK)(E E':XK)(hE:∀c d H,E c d H->E' c d H)(h:my N vs H Q E):my N vs H Q E':=by
 obtain⟨a,d,st,r,kvs,h1,h2,h3,h4,h5,h6,h7,h8⟩:=h;exact⟨a,d,st,r,kvs,h1,h2,h3,h4,h5,h6,λg e1 e2 e dd H' x=>hE _ _ _ (h7 g e1 e2 e dd H' x),h8⟩
theorem AD{fI:Addr}(T:Txt K mg)(hC_NoBits:mg "NoBits"=some (.ref C_NoBits))(xI_NoBits:eV K C_NoBits C_ShortError fI "place")(nI_NoBits:d2 P w K mg base (mM P w) 1 fI fdI ["self","place"] (DN C_NoBits "place"))(bI_NoBits:Binds K fdI ["self","place"] [])(F:HasFn K mg "goal_numbered" bZ ["row","start","numbers"])(hgoal_of:ai P w K mg base bf 1 "goal_of" ["row"] lS)(hwith_goal:ai P w K mg base bf 1 "with_goal" ["row","goal"] pw):ai P w K mg base (mM P w) 3 "goal_numbered" ["row","start","numbers"] (my C_NoBits):=by
 refine F.EJ e8 (λvs H Q E h=>?_) (λf cdv A outer s H vs Q E hr h=>?_)
 ·obtain⟨a,d,st,r,kvs,rfl,_⟩:=h;rfl
 ·have hu:=ba hr;obtain⟨a,d,st,r,kvs,rfl,ha,hd,hst,q1,q2,q3,q4⟩:=h;refine⟨_,(Z.ag (Z.se (i:=3) e8.nd (Z.fc hgoal_of (Z.cons (Z.v 0) Z.nil)))
   (Z.ag (Z.cN (Z.aR bQ (Z.v 3) Z.aJ) (Z.au (Z.ret (Z.v 0))) Z.bo)
   (Z.ag (Z.cN (Z.aR (Y.uT hu) (Z.v 3) (Z.v 2)) (Z.au (Z.uK rfl xI_NoBits nI_NoBits bI_NoBits hC_NoBits (Z.v 1))) Z.bo)
   (Z.au (Z.ret (Z.fc hwith_goal (Z.cons (Z.v 0) (Z.cons (Z.Fc hu (Z.v 2) (Z.v 3)) Z.nil)))))))),?_⟩
  refine aq λN hN=>?_;walk_at "rz";refine⟨a,_,rfl,ha,?_⟩;rw[hN];clear hN N;unfold mG
  cases c:cY r with
  |none =>
   refine aq λN hN=>?_;walk_at "rz";exact q1 c _ _ (KB.refl _ _) ha
  |some g =>
   refine aq λN hN=>?_;exists H_ (show ¬ V.int g=V.aJ from V.noConfusion);rw[hN];clear hN N;refine aq λN hN=>?_;refine uG λA B hA hB=>?_;walk_at "rz";refine⟨d,_,rfl,fO.k (k:=.inl g) hd,?_⟩
   cases cv:bS kvs (.inl g) with
   |none =>
    refine⟨true,rfl,?_⟩;rw[Ig rfl,hA];walk_at "rz";refine⟨Ja (show _<=1000000 by lia) (ID (show 1000000<2^20 by decide) (JX (by decide) (by decide))),λe dd H' n1 n2 sm h1 h2=>?_⟩
    exact ji (q3 g c cv e dd H' ⟨rX sm,n1,n2,h1,h2⟩)
   |some v =>
    obtain⟨j,rfl⟩:=q4 g v c cv;refine⟨false,rfl,?_⟩;rw[H_ Il,hB];show N _ _;rw[hN];clear hN N hA hB A B;walk_at "rz";have dg:fO H d (.int g) (some (.int j)):=by
     have:=fO.k (k:=.inl g) hd;rw[cv] at this;exact this
    refine⟨d,_,rfl,dg,?_⟩;obtain⟨xs,x1,x2,x3,x4⟩:=bp.gL c;rw[x3] at ha;exact⟨a,xs,_,_,rfl,ha,x1,x2,λp H' k e=>q2 g j c cv p H' k (by rw[e,x4])⟩
theorem lV:∀{l:List (RW×Nat)} {ss:List Nat} {i:Nat} {ms:List bp} {x:RW×Nat} {s:Nat},(l.take i).map (gm en)=ms.map some->l[i]?=some x->gm en x=none->ss[i]?=some s->kj en l ss=.inl s
 |[],_,_,_,_,_,_,h,_,_=>nomatch h
 |_::_,[],_,_,_,_,_,_,_,h=>nomatch h
 |y::l,t::ss,0,_,x,s,_,h1,h2,h3=>by
  cases h1;cases h3
  rw[kj,h2]
 |y::l,t::ss,i+1,ms,x,s,h0,h1,h2,h3=>by
  cases ms with
  |nil=>cases h0
  |cons m ms =>
   rw[List.take_succ_cons,IA,IA] at h0
   injection h0 with e1 e2
   rw[kj,e1];dsimp only;rw[lV e2 (by simpa using h1) h2 (by simpa using h3)]
theorem qK:∀{l:List (RW×Nat)} {ss:List Nat} {ms:List bp},l.length<=ss.length->l.map (gm en)=ms.map some->kj en l ss=.inr ms
 |[],_,[],_,_=>by rw[kj];intro x l s ss e;cases e
 |[],_,_::_,_,h=>nomatch h
 |_::_,[],_,h,_=>absurd h (by simp)
 |_::_,_::_,[],_,h=>nomatch h
 |y::l,t::ss,m::ms,h1,h2=>by
  rw[IA,IA] at h2
  injection h2 with e1 e2
  rw[kj,e1];dsimp only;rw[qK (by simpa using h1) e2]
noncomputable def MA(H:Hp)(as:List Addr)(rs:List bp):Prop:=as.length=rs.length/\∀(i:Nat) (q:Addr) (r:bp),as[i]?=some q->rs[i]?=some r->H q=some (.tup r.vs)
theorem MA.snoc{rs:List bp}{q:Addr}{r:bp}(h:MA H as rs)(e:H q=some (.tup r.vs)):MA H (as++[q]) (rs++[r]):=by
 refine⟨by rw[HX,HX,h.1];rfl,λi q' r' e1 e2=>?_⟩
 rcases Jb i as.length with hi|hi
 ·rw[IJ hi] at e1;rw[IJ (by rw[<- h.1];exact hi)] at e2
  exact h.2 i q' r' e1 e2
 ·have h1:=h.1;rw[IG hi] at e1;rw[IG (by lia),<- h1] at e2
  obtain⟨hj,rfl⟩:=HZ.mp e1;obtain⟨hj2,rfl⟩:=HZ.mp e2;have:i-as.length=0:=by simp at hj;lia
  simp only[this,Kf];exact e
theorem MA.keep{rs:List bp}(h:MA H as rs)(k:KB ex H H')(hx:NT ex H):MA H' as rs:=⟨h.1,λi q r e1 e2=>k _ _ (h.2 i q r e1 e2) λz=>hx q z _ (h.2 i q r e1 e2)⟩
noncomputable def Em(H:Hp)(a:Addr)(rs:List bp):Prop:=∃as:List Addr,H a=some (.tup (as.map V.ref))/\MA H as rs
theorem Em.kb{rs:List bp}(h:Em H a rs)(k:KB [] H H'):Em H' a rs:=by
 obtain⟨as,h1,h2⟩:=h;exact⟨as,k _ _ h1 (by simp),h2.keep k (NT.nil _)⟩
noncomputable def rD(N:Addr):Sp:=λvs H Q E=>∃(b:Addr) (bk:List (List Int)) (z:List Nat),vs=[.str (wd z),.ref b]/\rj H b bk/\Bk bk/\cQ z/\z.length<=10000 /\
 (∀p,DP (gu bk) z=.inl p->∀e dd H',DO H H' N e dd (p:Nat)->E (.ref N) (some e) H')/\∀ms,DP (gu bk) z=.inr ms->∀t H',KB [] H H'->Em H' t ms->Q (.ref t) H'
theorem vL{fI:Addr}(T:Txt K mg)(hC_NoBits:mg "NoBits"=some (.ref C_NoBits))(xI_NoBits:eV K C_NoBits C_ShortError fI "place")(nI_NoBits:d2 P w K mg base (mM P w) 1 fI fdI ["self","place"] (DN C_NoBits "place"))(bI_NoBits:Binds K fdI ["self","place"] [])(F:HasFn K mg "read_rows" cg ["bits","book"])(hcodes_of:ai P w K mg base bf 6 "codes_of" ["book"] (mI K))(hrow_at:ai P w K mg base bf 5 "row_at" ["codes","bits","place"] (lZ K))(hgoal_numbered:ai P w K mg base (mM P w) 3 "goal_numbered" ["row","start","numbers"] (my C_NoBits)):ai P w K mg base (mM P w) 7 "read_rows" ["bits","book"] (rD C_NoBits):=by
 have hm_goal_numbered:=zO (N:=C_NoBits);refine F.EJ bT (λvs H Q E h=>?_) (λf cdv A outer s H vs Q E hr h=>?_)
 ·obtain⟨b,bk,z,rfl,_⟩:=h;rfl
 ·have hu:=ba hr;obtain⟨b,bk,z,rfl,hb,hB,hz,hzl,qx,q⟩:=h;have hR:=(oU hB).1;refine⟨_,(Z.ag (Z.se (i:=2) bT.nd (Z.fc hcodes_of (Z.cons (Z.v 1) Z.nil)))
   (Z.ag (Z.se (i:=3) bT.nd (Z.lst Z.nil))
   (Z.ag (Z.se (i:=4) bT.nd (Z.lst (Z.cons Z.int Z.nil)))
   (Z.ag (Z.p9 PassesOwn.leaving (Z.aR iK (Z.ix (Z.aC K rfl hu) (Z.v 4) (Z.un cF Z.int)) (Z.cb (Z.bB K rfl) rfl T.b8 (by decide +kernel) (Z.cons (Z.v 0) Z.nil))) (Z.ag (Z.se (i:=5) bT.nd (Z.fc hrow_at (Z.cons (Z.v 2) (Z.cons (Z.v 0) (Z.cons (Z.ix (Z.aC K rfl hu) (Z.v 4) (Z.un cF Z.int)) Z.nil)))))
   (Z.ag (Z.cN (Z.aR bQ (Z.v 5) Z.aJ) (Z.au (Z.uK rfl xI_NoBits nI_NoBits bI_NoBits hC_NoBits (Z.ix (Z.aC K rfl hu) (Z.v 4) (Z.un cF Z.int)))) Z.bo)
   (Z.ag (Z.expr (Z.app K (Z.v 3) (Z.cons (Z.ix (Z.aC K rfl hu) (Z.v 5) Z.int) Z.nil)))
   (Z.au (Z.expr (Z.app K (Z.v 4) (Z.cons (Z.ix (Z.aC K rfl hu) (Z.v 5) Z.int) Z.nil))))))))
   (Z.ag (Z.se (i:=6) bT.nd (Z.ct (mU K rfl) rfl T.BD (by decide +kernel) (Z.cons (Z.DV (osc:=af cg) (ON:=["bits","book","codes","rows","starts","found","numbers"]) (own:=["number","start"]) (N:=["number","start","bits","book","codes","rows","starts","found","numbers"]) (aG.of rfl (by decide +kernel)) (Z.AL K rfl rfl T.d7 (Z.cons (Z.v 4) Z.nil)) (λnd _ _ _ _=>(Z.oy (n:=2) K rfl rfl (Z.bP (Z.aT (i:=0) nd rfl (by right)) (Z.bP (Z.aT (i:=1) nd rfl (by right)) Z.iE)))) (λ_ _ _ _=>Z.AQ) (λ_ _ _ _=>(Z.tup (Z.cons (Z.v 1) (Z.cons (Z.v 0) Z.nil))))) Z.nil)))
   (Z.au (Z.ret (Z.ct (Z.e9 K rfl) rfl T.cU (by decide +kernel) (Z.cons (Z.G5 rfl (osc:=af cg) (ON:=["bits","book","codes","rows","starts","found","numbers"]) (own:=["row","start"]) (N:=["row","start","bits","book","codes","rows","starts","found","numbers"]) (aG.of rfl (by decide +kernel)) (AZ K rfl rfl T.wq (Z.cons (Z.v 3) (Z.cons (Z.v 4) Z.nil))) (λnd _ _ _ _=>(Z.oy (n:=2) K rfl rfl (Z.bP (Z.aT (i:=0) nd rfl (by right)) (Z.bP (Z.aT (i:=1) nd rfl (by right)) Z.iE)))) (λ_ _ _ _=>Z.AQ) (λ_ _ _ _ _=>(Z.fG hgoal_numbered (Z.cons (Z.v 0) (Z.cons (Z.v 1) (Z.cons (Z.v 8) Z.nil))) (iM:=hm_goal_numbered) (hta:=λ_ _ _ _ h q=>by obtain⟨a0,b0,a1,b1,a2,b2,q⟩:=q;exact⟨a0,b0,a1,b1,a2,b2,h _ _ q⟩)))) Z.nil))))))))),?_⟩
  refine aq λN hN=>?_;walk_at "rz";refine⟨b,bk,rfl,hb,hB,λca H1 hca k1 cdl=>?_⟩;rw[hN];clear hN N;generalize gu bk=cd at *;have sl:=eZ (cd:=cd) (z:=z);have rl:(aS cd z).length<=10000:=by
   have:=gX (z:=z) hR (aS cd z).length (Ib _);lia
  have eu:=λk (h:k<(aS cd z).length)=>iX (z:=z) hR h;have e0:(aH cd z).take 1=[0]:=rfl;have ra_:=λk (h:k<(aS cd z).length)=>mq (z:=z) hR h;have rd_:DP cd z=if (aH cd z).getD (aS cd z).length 0<z.length then .inl ((aH cd z).getD (aS cd z).length 0) else kj (aH cd z) (aS cd z) (aH cd z):=rfl
  have re_:=oP (z:=z) hR;have su:=λk (h:k<(aS cd z).length)=>iy (cd:=cd) (z:=z) h;have mg_:=pS (z:=z) hR;have kvS:=λg=>zd (z:=z) hR (g:=g);have eb:=λk (h:k<=(aS cd z).length)=>(gX (z:=z) hR k h).2;generalize aH cd z=en at *;generalize aS cd z=l at *;refine aq λN hN=>?_;walk_at "rz";refine⟨Iv _,λra hra=>?_⟩;have k2:=KB.new (ex:=[]) (o:=.lst []) hra;have s2:upd H1 ra (.lst []) ra=some (.lst []):=aa;generalize upd H1 ra (.lst [])=H2 at *;rw[hN];clear hN N;refine aq λN hN=>?_;walk_at "rz";refine⟨by decide,λsa hsa=>?_⟩
  have k3:=KB.new (ex:=[]) (o:=.lst [.int 0]) hsa;have s3:upd H2 sa (.lst [.int 0]) sa=some (.lst (iV (nZ (en.take (0+1))))):=by rw[aa,Ls,e0];rfl
  have s23:=k3 _ _ s2 (by simp)
  have k13:=k2.trans k3;have hsa1:H1 sa=none:=k2.free (by simp) hsa
  have nrs:ra≠sa:=λz=>by rw[z,hsa] at s2;cases s2
  generalize upd H2 sa (.lst [.int 0])=H3 at *;rw[hN];clear hN N;refine aq λN hN=>?_;refine⟨λm σ H'=>∃(k:Nat) (as:List Addr) (o5:Option V),k<=l.length/\m=l.length-k/\KB [] H1 H'/\H' ra=some (.lst (as.map V.ref))/\MA H' as ((l.take k).map lI)/\H' sa=some (.lst (iV (nZ (en.take (k+1)))))/\σ=[some (.str (wd z)),some (.ref b),some (.ref ca),some (.ref ra),some (.ref sa),o5,none],⟨l.length,0,[],none,Iv _,rfl,k13,s23,⟨rfl,λi q r e=>nomatch e⟩,s3,rfl⟩,?_⟩;rintro m σ H' ⟨k,as,o5,hk,rfl,hkb,gr,pm,gs,rfl⟩;have es:cq (iV (nZ (en.take (k+1)))) (-1)=some (.int ((en.getD k 0:Nat):Int)):=by
   rw[iQ (show k<en.length by lia),iS]
   exact gZ _ _
  exists aA gs,es,av;refine⟨Ia hzl (by decide),?_⟩
  by_cases c:((en.getD k 0:Nat):Int)<(z.length:Int)
  ·rw[Ig c];refine⟨λσ' H'=>∃m',m'<l.length-k/\∃(k:Nat) (as:List Addr) (o5:Option V),k<=l.length/\m'=l.length-k/\KB [] H1 H'/\H' ra=some (.lst (as.map V.ref))/\MA H' as ((l.take k).map lI)/\H' sa=some (.lst (iV (nZ (en.take (k+1)))))/\σ'=[some (.str (wd z)),some (.ref b),some (.ref ca),some (.ref ra),some (.ref sa),o5,none],λ_ _ h=>h,?_⟩;refine⟨ca,cd,z,_,rfl,cdl.kb hkb,hR,hz,by lia,λv H5 k5 o=>?_⟩
   rw[r6] at o;rcases Jb k l.length with hlt|hge
   ·obtain⟨_,x1⟩:=ra_ k hlt;rw[x1] at o;obtain⟨m1,m2,m3,m4,m5⟩:=zK hR x1;obtain⟨t,r,rfl,ht,hr'⟩:=o;rw[m2] at hr';rw[H_ (show ¬ V.ref t=V.aJ from V.noConfusion)];have gr5:=k5 _ _ gr (by simp)
    have gs5:=k5 _ _ gs (by simp)
    have pm5:=pm.keep k5 (NT.nil _);have pl:=pm.1;rw[HY,IF] at pl;refine⟨.inl ⟨rfl,_,bz.of gr5⟩,?_⟩;show AE K (V.ref t) (.int 0) H5 _;exists aF ht;refine⟨ra,_,_,rfl,rfl,gr5,Ja (show _<=10000 by rw[HY];lia) (by decide),?_⟩
    have er:as.map V.ref++[V.ref r]=(as++[r]).map V.ref:=by rw[IB];rfl
    rw[er];have gr6:upd H5 ra (.lst ((as++[r]).map V.ref)) ra=_:=aa;have k56:KB [ra] H5 (upd H5 ra (.lst ((as++[r]).map V.ref))):=KB.set (by simp)
    generalize upd H5 ra (.lst ((as++[r]).map V.ref))=H6 at *;have ntr:=gg gr5;have hr6:=k56 _ _ hr' λz=>ntr _ z _ hr';have pm6:=(pm5.keep k56 ntr).snoc hr6;have ht6:=k56 _ _ ht λz=>ntr _ z _ ht;have gs6:=k56 _ _ gs5 (by simpa using nrs.symm)
    have kf:KB [] H1 H6:=λu o e _=>k56 _ _ (k5 _ _ (hkb _ _ e (by simp)) (by simp)) (by simpa using ao e hra)
    refine⟨.inl ⟨rfl,_,bz.of gs6⟩,?_⟩;exists aF ht6;refine⟨sa,_,_,rfl,rfl,gs6,Ja (show _<=10001 by rw[cu,IF];lia) (by decide),?_⟩
    rw[<- su k hlt,<- iS,<- iQ (show k+1<en.length by lia)]
    refine⟨l.length-(k+1),by lia,k+1,as++[r],_,hlt,rfl,λu o e _=>?_,?_,?_,aa,rfl⟩
    ·rw[ae (ao e hsa1)];exact kf _ _ e (by simp)
    ·rw[ae nrs];exact gr6
    ·rw[show l.take (k+1)=l.take k++[l[k]] by rw[JQ,HV hlt];rfl,IB]
     exact pm6.keep (KB.set (ex:=[sa]) (by simp)) (gg gs6)
   ·have hkn:k=l.length:=by lia
    subst hkn;have c':en.getD l.length 0<z.length:=by lia
    rw[re_ c'] at o;obtain rfl:v=.aJ:=o;rw[Ig rfl];exists aA (k5 _ _ gs (by simp)),es
    refine⟨Ja (show _<=10000 by lia) (ID (show 10000<2^20 by decide) (JX (by decide) (by decide))),λe dd H' n1 n2 sm h1 h2=>?_⟩
    have X0:DO H5 H' C_NoBits e dd ((en.getD l.length 0:Nat):Int):=⟨rX sm,n1,n2,h1,h2⟩;exact ji (qx _ (by rw[rd_,Ig c']) e dd H' (X0.up (k1.trans (hkb.trans k5))))
  ·have hkn:k=l.length:=by
    rcases Jb k l.length with h|h
    ·exact absurd (by have:=(ra_ k h).1;lia) c
    ·lia
   subst hkn;rw[H_ c];show N _ _;rw[hN];clear hN N;rw[Jy] at pm;rw[Ji (show en.length<=l.length+1 by lia)] at gs
   rw[H_ (by lia)] at rd_
   clear es s3 s23 k13 c;have szl:(iV (nZ en)).length=l.length+1:=by rw[cu,sl]
   refine aq λN hN=>?_;exists aA gs;refine⟨⟨_,bz.of gs⟩,?_⟩;refine n6 (xs:=iV (nZ en)) (Ia (show _<=10001 by rw[szl];lia) (by decide)) (λD i ys H5=>H' D=none/\H5 D=some (.lst ys)/\KB [] H' H5/\i<=en.length/\∃ps:List Addr,ys=ps.map V.ref/\ps.length=i/\∀(j:Nat) (p:Addr),ps[j]?=some p->H5 p=some (.tup [.int ((en.getD j 0:Nat):Int),.int (j:Nat)])) (λD hD=>⟨hD,aa,KB.new hD,Iv _,[],rfl,rfl,λj p e=>nomatch e⟩) (λD i ys H5 h=>⟨h.2.1,by obtain⟨_,_,_,_,ps,rfl,e,_⟩:=h;rw[HY,e]⟩) (λD i ys H5 h=>bz.of (h.2.2.1 _ _ gs (by simp))) ?_ ?_
   ·rintro D i ys H5 x p R hx ⟨g0,g1,gk,hi,ps,rfl,e1,e2⟩ hp kk;have hlt:i<en.length:=by have:=(HZ.mp hx).1;lia
    have ex:x=.int ((en.getD i 0:Nat):Int):=by
     unfold iV nZ at hx;rw[Ie,Ie,HV hlt] at hx;rw[Ic,HV hlt];exact (Option.some.inj hx).symm
    subst ex;have kz:=KB.new (ex:=[]) (o:=.tup [.int i,.int ((en.getD i 0:Nat):Int)]) hp;have g1':=kz _ _ g1 (by simp)
    generalize upd H5 p (.tup [.int i,.int ((en.getD i 0:Nat):Int)])=G at *;walk_at "rz";refine⟨by decide,λc hc=>?_⟩
    have kc:=KB.new (ex:=[]) (o:=.tup [.int ((en.getD i 0:Nat):Int),.int i]) hc;have sc:upd G c (.tup [.int ((en.getD i 0:Nat):Int),.int i]) c=_:=aa;have g1'':=kc _ _ g1' (by simp)
    generalize upd G c (.tup [.int ((en.getD i 0:Nat):Int),.int i])=G2 at *;have kzc:=kz.trans kc;have ntD:=gg g1'';refine kk _ _ g1'' ⟨g0,aa,λu o e _=>by rw[ae (ao e g0)];exact kzc _ _ (gk _ _ e (by simp)) (by simp),hlt,ps++[c],by rw[IB];rfl,by rw[HX,e1];rfl,λj p e=>?_⟩
    have key:G2 p=some (.tup [.int ((en.getD j 0:Nat):Int),.int (j:Nat)]):=by
     rcases Jb j ps.length with hj|hj
     ·rw[IJ hj] at e;exact kzc _ _ (e2 j p e) (by simp)
     ·rw[IG hj] at e;have hj0:j-ps.length=0:=by have:=(HZ.mp e).1;simp at this;lia
      rw[hj0] at e;cases e;rw[show j=i by lia]
      exact sc
    exact KB.set (ex:=[D]) (by simp) _ _ key λz=>ntD _ z _ key
   ·rintro pl ys H5 ⟨g0,g1,gk,_,ps,rfl,e1,e2⟩;have kvl:(pZ en).length=en.length:=by unfold pZ;rw[HY,IP]
    rw[szl] at e1;refine⟨pl,_,pZ en,rfl,g1,⟨by rw[HY,kvl];lia,λj k x e=>?_⟩,by rw[kvl];lia,λd hd=>?_⟩
    ·unfold pZ at e;rw[Ie] at e;obtain⟨i,ei,e⟩:=IC.mp e;obtain⟨hj,ej⟩:=HZ.mp ei;rw[Mf] at ej;subst ej;rw[IP] at hj;cases e;have ep:=HV (show j<ps.length by lia)
     exact⟨ps[j],by rw[Ie,ep];rfl,e2 j _ ep⟩
    rw[mg_];have kd:=KB.new (ex:=[]) (o:=.dK (pZ en)) hd;have sd:upd H5 d (.dK (pZ en)) d=_:=aa;generalize upd H5 d (.dK (pZ en))=H6 at *;have kk6:=gk.trans kd;have gr6:=kk6 _ _ gr (by simp)
    have gs6:=kk6 _ _ gs (by simp)
    have pm6:=pm.keep kk6 (NT.nil _);show N _ _;rw[hN];clear hN N;clear gr gs pm g1 gk e2 kd g0;have al:=pm6.1;rw[HY] at al;walk_at "rz";rw[nR];exists aA gr6;refine⟨(true,ra),(true,sa),⟨rfl,rfl⟩,⟨_,bz.of gr6⟩,⟨_,bz.of gs6⟩,λn=>?_⟩;have k06:=k1.trans (hkb.trans kk6);refine pJ (xs:=as.map V.ref) (ys:=iV (nZ en)) (Ia (show _<=10000 by rw[HY];lia) (by decide)) (by rw[HY,szl];lia) (λD i ys G=>H6 D=none/\G D=some (.lst ys)/\KB [] H6 G/\i<=l.length/\∃(ps:List Addr) (ms:List bp),ys=ps.map V.ref/\(l.take i).map (gm en)=ms.map some/\MA G ps ms) (λD hD=>⟨hD,aa,KB.new hD,Iv _,[],[],rfl,rfl,rfl,λj p r e=>nomatch e⟩) (λD i ys G h=>⟨h.2.1,by obtain⟨_,_,_,hi,ps,ms,rfl,e3,e,_⟩:=h;have:=IW List.length e3;rw[HY,HY,IF] at this;rw[HY,e];lia⟩) (λD i ys G h=>⟨bz.of (h.2.2.1 _ _ gr6 (by simp)),bz.of (h.2.2.1 _ _ gs6 (by simp))⟩) ?_ ?_
    ·rintro D i ys G x y p R hx hy ⟨g0,g1,gk,hi,ps',ms,rfl,e3,pa⟩ hp kk;obtain⟨u,eu,rfl⟩:∃u,as[i]?=some u/\x=.ref u:=by
      rw[Ie] at hx;obtain⟨u,e,rfl⟩:=IC.mp hx;exact⟨u,e,rfl⟩
     have hlt:i<l.length:=by have:=(HZ.mp eu).1;lia
     have er:=HV hlt;have een:=HV (show i<en.length by lia)
     have ey:y=.int ((en[i]:Nat):Int):=by
      unfold iV nZ at hy;rw[Ie,Ie,een] at hy;exact (Option.some.inj hy).symm
     subst ey;have enb:en[i]<=10000:=by
      have:=eb i hi;rw[Ic,een] at this;have:en[i]<=z.length:=this;lia
     have ta:l.take (i+1)=l.take i++[l[i]]:=by rw[JQ,er];rfl
     have hu6:=pm6.2 i u _ eu (by rw[Ie,er];rfl)
     have kz:=KB.new (ex:=[]) (o:=.tup [.ref u,.int ((en[i]:Nat):Int)]) hp;have g1':=kz _ _ g1 (by simp)
     generalize upd G p (.tup [.ref u,.int ((en[i]:Nat):Int)])=G1 at *;have gk1:=gk.trans kz;have fin:∀(r':bp),gm en l[i]=some r'->∀c G2,KB [] G1 G2->G2 c=some (.tup r'.vs)->R (.ref c) G2:=λr' e c G2 kc hc=>by
      have g2:=kc _ _ g1' (by simp)
      refine kk _ _ g2 ⟨g0,aa,λu o e _=>by rw[ae (ao e g0)];exact kc _ _ (gk1 _ _ e (by simp)) (by simp),hlt,ps'++[c],ms++[r'],by rw[IB];rfl,by rw[ta,IB,IB,e3,IA,e];rfl,?_⟩
      exact (((pa.keep kz (NT.nil _)).keep kc (NT.nil _)).snoc hc).keep (KB.set (ex:=[D]) (by simp)) (gg g2)
     walk_at "rz";refine⟨u,d,en[i],lI l[i],pZ en,rfl,gk1 _ _ hu6 (by simp),gk1 _ _ sd (by simp),by lia,λhg=>fin _ (by unfold gm;rw[hg]),λg j hg hv=>?_,λg hg hv e dd H'' hX=>?_,λg v hg hv=>?_⟩
     ·by_cases cm:g∈en.map λn:Nat=>(n:Int)
      ·have hv2:=kvS g cm;rw[hv] at hv2;have ej:j=(((en.map λn:Nat=>(n:Int)).idxOf g:Nat):Int):=V.int.inj (Option.some.inj hv2);exact fin _ (by unfold gm;rw[hg];dsimp only;rw[if_pos cm,ej])
      ·rw[rT cm] at hv;cases hv
     ·refine⟨e,some dd,rfl,hX.2.2.2.1,λ_ _=>?_⟩;have cm:g∉en.map λn:Nat=>(n:Int):=λcm=>by rw[kvS g cm] at hv;cases hv
      have hn:gm en l[i]=none:=by unfold gm;rw[hg];dsimp only;rw[if_neg cm]
      exact ji (qx _ (by rw[rd_];exact lV e3 er hn een) e dd H'' (hX.up (k06.trans gk1)))
     ·by_cases cm:g∈en.map λn:Nat=>(n:Int)
      ·have hv2:=kvS g cm;rw[hv] at hv2;exact⟨_,Option.some.inj hv2⟩
      ·rw[rT cm] at hv;cases hv
    ·rintro D ys G ⟨g0,g1,gk,_,ps',ms,rfl,e3,pa⟩;rw[HY,al,Jy] at e3;exists aA g1;intro t ht;have kt:=KB.new (ex:=[]) (o:=.tup (ps'.map V.ref)) ht;exact q ms (by rw[rd_];exact qK (by lia) e3) t _ (k06.trans (gk.trans kt)) ⟨ps',aa,pa.keep kt (NT.nil _)⟩
theorem E4{X:Cx}{tk:Nat}{tp:Pos}{e1 e2 e3:Expr}{ta:TA}{p pos:Pos}(K:W.Frag)(hK:X.K=K)(hg:Gl X "zip")(hm:X.mg "zip"=none)(ha:QA X [e1,e2,e3] ta)(h1:autoParam (cG e1=true) ℜ0)(h2:autoParam (cG e2=true) ℜ0)(h3:autoParam (cG e3=true) ℜ0):QI X (.Tuple es tk tp) (.Call (.Name "zip" p) [e1,e2,e3] [] pos) (wx K ta):=by
 subst hK;exact⟨yI hg hm ha.h h1 h2 h3⟩
theorem wB(K:W.Frag)(ta:TA)(σ:L2.St)(H:Hp)(R:It->Hp->Prop):L2.wx K ta σ H R=ta σ H λvs H1=>∃p q r:Bool×Addr,vs=[V.ref p.2,V.ref q.2,V.ref r.2]/\(∃xs,iw K p.1 H1 p.2 xs)/\(∃ys,iw K q.1 H1 q.2 ys)/\(∃zs,iw K r.1 H1 r.2 zs)/\∀n,R (yW K (dU n [p,q,r])) H1:=rfl
noncomputable def mC:Sp:=λvs H Q _=>vs=[]/\∀l,H l=none->Q (.ref l) (upd H l (.lst (aZ.map V.str)))
theorem sy(F:HasFn K mg "_law_words" eB []):ai P w K mg base bf 1 "_law_words" [] mC:=by
 refine F.fN ko (λvs H Q E h=>?_) (λf cdv A outer s H vs Q E hr h=>?_)
 ·obtain⟨rfl,_⟩:=h;rfl
 ·obtain⟨rfl,q⟩:=h;refine⟨_,(Z.au (Z.ret (Z.lst (Z.consts rfl)))),?_⟩;walk_at "rz";exact⟨by decide,λp hp=>q p hp⟩
noncomputable def iY:Sp:=λvs H Q _=>∃(n:Int) (k:Nat),vs=[.int n,.int (k:Nat)]/\k<=40/\Q (.str (wd (cO n k []))) H
theorem xt(T:Txt K mg)(F:HasFn K mg "_law_bits" ff ["number","many"]):ai P w K mg base bf 1 "_law_bits" ["number","many"] iY:=by
 refine F.fN cz (λvs H Q E h=>?_) (λf cdv A outer s H vs Q E hr h=>?_)
 ·obtain⟨n,k,rfl,_⟩:=h;rfl
 ·have hu:=ba hr;obtain⟨n,k,rfl,hk,q⟩:=h;refine⟨_,(Z.ag (Z.se (i:=2) cz.nd Z.str)
   (Z.ag (Z.eW IK rfl (Z.tV rfl T.d4 (Z.cons (Z.v 1) Z.nil)) (Z.aT (i:=3) cz.nd rfl (by right)) (Z.ag (Z.se (i:=2) cz.nd (Z.op (Z.aK K rfl) (Z.ix (Z.aC K rfl hu) Z.str (Z.op dy (Z.v 0) Z.int)) (Z.v 2)))
   (Z.au (Z.se (i:=0) cz.nd (Z.op lT (Z.v 0) Z.int)))))
   (Z.au (Z.ret (Z.v 2))))),?_⟩
  refine aq λN hN=>?_;walk_at "rz";rw[hN];clear hN N;refine aq λN hN=>?_;walk_at "rz";refine⟨by lia,by lia,?_⟩
  rw[IY];refine cf (λi σ H'=>∃(m:Int) (acc:List Nat) (o:Option V),H'=H/\i<=k/\cO m (k-i) acc=cO n k []/\acc.length=i/\σ=[some (.int m),some (.int (k:Nat)),some (.str (wd acc)),o]) ⟨n,[],none,rfl,Iv _,rfl,rfl,by rw[pU]⟩ ?_ ?_
  ·rintro i σ H' hi ⟨m,acc,o,rfl,_,e,hl,rfl⟩;unfold aQ;refine aq λM hM=>?_;exists EF;refine⟨by decide,by decide +kernel,?_⟩
   rw[show (⟨#[dg m]⟩:Str)=wd [dg m] from rfl,av,av,fe];refine⟨Ia (show _<=50 by simp;lia) (by decide),?_⟩
   rw[hM];clear hM M;refine mL λM hM=>?_;walk_at "rz";refine⟨⟨by decide,by decide⟩,?_⟩
   rw[hM];refine⟨m / 2,dg m::acc,some _,rfl,hi,?_,by rw[Iq,hl],rfl⟩
   rw[<- e,show k-i=(k-(i+1))+1 by lia]
   rfl
  ·rintro σ H' ⟨m,acc,o,rfl,_,e,_,rfl⟩;rw[JG] at e;show N _ _;rw[hN];clear hN N;walk_at "rz";rw[<- e] at q;exact q
theorem nW{n:Nat}(h:n<3):cq [V.str (Str.ofString "0"),.str (Str.ofString "10"),.str (Str.ofString "11")] (n:Int)=some (.str (wd (b6 n))):=by
 rcases lp h with rfl|rfl|rfl
 ·exact IW (λz=>some (V.str z)) (by decide +kernel)
 ·exact IW (λz=>some (V.str z)) (by decide +kernel)
 ·exact IW (λz=>some (V.str z)) (by decide +kernel)
theorem tJ{β:Type}{R:α->β->Prop}{d:α}{e:β}{vs:List α}{ps:List β}(h:Paired R vs ps):∀i,i<ps.length->R (vs.getD i d) (ps.getD i e):=by
 induction h with
 |nil=>exactλi hi=>nomatch hi
 |cons h _ ih =>
  intro i hi
  cases i with
  |zero=>exact h
  |succ i=>exact ih i (MY hi)
theorem map_getD:(List.range ((List.range ls.length).map (mR ls)).length).map (λi=>((List.range ls.length).map (mR ls)).getD i (0,0))=(List.range ls.length).map (mR ls):=by
 refine Kk λi=>?_;rw[Ie];rcases Jb i ls.length with c|c
 ·rw[Ks (by simpa using c),Ie,Ks c];simp[c]
 ·rw[Jr.mpr (by simpa using c),Jr.mpr (by simpa using c)];rfl
noncomputable def l_(K:W.Frag):Sp:=λvs H Q _=>∃(a:Addr) (ls:List Int),vs=[.ref a]/\H a=some (.tup (iV ls))/\jm ls/\mP ls=true/\∀b H',H b=none->KB [] H H'->H' b=some (.lst (wV (wordsOf Cw.dm ls)))->Q (.ref b) H'
theorem wm(T:Txt K mg)(F:HasFn K mg "_law_code" dC ["lengths"])(h_law_bits:ai P w K mg base bf 1 "_law_bits" ["number","many"] iY):ai P w K mg base bf 2 "_law_code" ["lengths"] (l_ K):=by
 refine F.fN aU (λvs H Q E h=>?_) (λf cdv A outer s H vs Q E hr h=>?_)
 ·obtain⟨a,ls,rfl,_⟩:=h;rfl
 ·have hu:=ba hr;obtain⟨a,ls,rfl,ha,hL,ho,q⟩:=h;refine⟨_,(Z.ag (Z.se (i:=1) aU.nd (Z.op bO (Z.lst (Z.cons Z.str Z.nil)) (Z.cb (Z.bB K rfl) rfl T.b8 (by decide +kernel) (Z.cons (Z.v 0) Z.nil))))
   (Z.ag (Z.se (i:=2) aU.nd Z.int)
   (Z.ag (Z.se (i:=3) aU.nd Z.int)
   (Z.ag (Z.eW IK rfl (Z.any K rfl (Z.cb (Y.qp K rfl) rfl T.jq (by decide +kernel) (Z.cons (Z.DV (osc:=af dC) (ON:=["lengths","found","number","size","length","thing","k"]) (own:=["thing","length"]) (N:=["thing","length","lengths","found","number","size",".length",".thing","k"]) (aG.of rfl (by decide +kernel)) (Z.enum K rfl rfl T.d7 (Z.cons (Z.v 0) Z.nil)) (λnd _ _ _ _=>(Z.oy (n:=2) K rfl rfl (Z.bP (Z.aT (i:=0) nd rfl (by right)) (Z.bP (Z.aT (i:=1) nd rfl (by right)) Z.iE)))) (λ_ _ _ _=>Z.AQ) (λ_ _ _ _=>(Z.tup (Z.cons (Z.v 1) (Z.cons (Z.v 0) Z.nil))))) Z.nil))) (Z.oy (n:=2) K rfl rfl (Z.bP (Z.aT (i:=4) aU.nd rfl (by right)) (Z.bP (Z.aT (i:=5) aU.nd rfl (by right)) Z.iE))) (Z.ag (Z.eW IK rfl (Z.tV rfl T.d4 (Z.cons (Z.op bY (Z.v 4) (Z.v 3)) Z.nil)) (Z.aT (i:=6) aU.nd rfl (by right)) (Z.au (Z.se (i:=2) aU.nd (Z.op bO (Z.v 2) Z.int))))
   (Z.ag (Z.se (i:=3) aU.nd (Z.v 4))
   (Z.ag (Z.asg (Z.fc h_law_bits (Z.cons (Z.v 2) (Z.cons (Z.v 4) Z.nil))) (Z.tm (Z.v 1) (Z.v 5)))
   (Z.au (Z.se (i:=2) aU.nd (Z.op (Z.aK K rfl) (Z.v 2) Z.int)))))))
   (Z.au (Z.ret (Z.v 1))))))),?_⟩
  have hl20:=hL.2.1;refine aq λN hN=>?_;walk_at "rz";refine⟨by decide,λp0 hp0=>?_⟩
  have k1:KB [] H (upd H p0 (.lst [.str (Str.ofString "")])):=KB.new hp0;have s1:upd H p0 (.lst [.str (Str.ofString "")]) p0=_:=aa;generalize upd H p0 (.lst [.str (Str.ofString "")])=H1 at *;have ha1:=k1 _ _ ha (by simp)
  exists aF ha1,bX;refine⟨p0,_,_,rfl,rfl,s1,by lia,by lia,Ia (show _<=20 by simp;lia) (by decide),λfd hfd=>?_⟩
  have er:(List.replicate ls.length [V.str (Str.ofString "")]).flatten=wV (List.replicate ls.length []):=by
   rw[pU];unfold wV;rw[Mi];generalize ls.length=n
   induction n with
   |zero=>rfl
   |succ n ih=>rw[IV,Kj,ih];rfl
  rw[IY,er];have k2:KB [] H1 (upd H1 fd (.lst (wV (List.replicate ls.length [])))):=KB.new hfd;have s2:upd H1 fd (.lst (wV (List.replicate ls.length []))) fd=_:=aa;generalize upd H1 fd (.lst (wV (List.replicate ls.length [])))=H2 at *;have fd0:H fd=none:=k1.free (by simp) hfd
  have h02:=k1.trans k2;clear k1 s1 hp0 ha1 er k2 hfd;rw[hN];clear hN N H1;refine aq λN hN=>?_;walk_at "rz";rw[hN];clear hN N;refine aq λN hN=>?_;walk_at "rz";rw[hN];clear hN N;refine aq λN hN=>?_;walk_at "rz";have ha2:=h02 _ _ ha (by simp)
  refine⟨⟨_,bq.of ha2⟩,?_⟩;refine oM (xs:=iV ls) (Ia (show _<=20 by rw[bX];exact hl20) (by decide)) (λD i ys H'=>H2 D=none/\H' D=some (.lst ys)/\KB [] H2 H'/\i<=ls.length/\ys.length=i/\Paired (Y.FJ H') ys ((List.range i).map (mR ls))) (λD hD=>⟨hD,aa,KB.new hD,Iv _,rfl,.nil⟩) (λD i ys H' h=>⟨h.2.1,h.2.2.2.2.1⟩) (λD i ys H' h=>bq.of (h.2.2.1 _ _ ha2 (by simp))) ?_ ?_
  ·rintro D i ys H' x p R hx ⟨g0,g1,g2,g3,g4,g5⟩ hp kk;obtain⟨hi,rfl⟩:=mJ hx;have k3:KB [] H' (upd H' p (.tup [.int (i:Nat),.int ls[i]])):=KB.new hp;generalize upd H' p (.tup [.int (i:Nat),.int ls[i]])=H3 at *;walk_at "rz";refine⟨by decide,λt ht=>?_⟩
   have k4:KB [] H3 (upd H3 t (.tup [.int ls[i],.int (i:Nat)])):=KB.new ht;have s4:upd H3 t (.tup [.int ls[i],.int (i:Nat)]) t=_:=aa;generalize upd H3 t (.tup [.int ls[i],.int (i:Nat)])=H4 at *;have k34:=k3.trans k4;have gD:=k34 _ _ g1 (by simp)
   have tD:t≠D:=λz=>by rw[z,gD] at s4;cases s4
   have up:∀{v:V} {q:Int×Int},Y.FJ H4 v q->Y.FJ (upd H4 D (.lst (ys++[.ref t]))) v q:=λ{v q} h=>by
    obtain⟨r,e1,e2⟩:=h;exact⟨r,e1,by rw[ae (λz=>by rw[z,gD] at e2;cases e2)];exact e2⟩
   refine kk _ _ gD ⟨g0,aa,λb o e _=>by rw[ae (ao e g0)];exact k34 _ _ (g2 _ _ e (by simp)) (by simp),hi,by rw[HX,g4];rfl,?_⟩
   rw[LN,IB];refine Paired.snoc (Paired.uU g5 λ_ _ h=>up ?_) (up ⟨t,rfl,?_⟩)
   ·obtain⟨r,e1,e2⟩:=h;exact⟨r,e1,k34 _ _ e2 (by simp)⟩
   ·rw[s4];unfold mR;simp[hi]
  rintro D ys H3 ⟨g0,g1,g2,_,g4,g5⟩;rw[bX] at g4 g5;have hpl:((List.range ls.length).map (mR ls)).length=ls.length:=by rw[HY,IP]
  refine⟨D,ys,_,rfl,bz.of g1,g5,by rw[hpl];lia,λix hix hup l hl=>?_⟩
  have hpm:=hix.map λi=>((List.range ls.length).map (mR ls)).getD i (0,0);rw[map_getD] at hpm;obtain⟨eo,hR⟩:=sH hpm hup;have hup2:=BZ hR;have k4:KB [] H3 (upd H3 l (.lst (ix.map λi=>ys.getD i .aJ))):=KB.new hl;have s4:upd H3 l (.lst (ix.map λi=>ys.getD i .aJ)) l=_:=aa;have hit:∀(j:Nat) (x:V),(ix.map λi=>ys.getD i .aJ)[j]?=some x->∃(hj:j<(ax ls).length) (r:Addr),x=.ref r/\H3 r=some (.tup [.int (ls.getD (ax ls)[j] 0),.int ((ax ls)[j]:Nat)]):=λj x hx=>by
   rw[Ie] at hx;obtain⟨i,ei,rfl⟩:=IC.mp hx;have hi:i<((List.range ls.length).map (mR ls)).length:=Jc.mp (hix.mem_iff.mp (Jw ei));obtain⟨r,e1,e2⟩:=tJ (d:=V.aJ) (e:=(0,0)) g5 i hi;have e3:(ix.map λi=>((List.range ls.length).map (mR ls)).getD i (0,0))[j]?=some (((List.range ls.length).map (mR ls)).getD i (0,0)):=by rw[Ie,ei];rfl
   rw[eo,Ie] at e3;obtain⟨t,et,e4⟩:=IC.mp e3;obtain⟨hj,rfl⟩:=HZ.mp et;exact⟨hj,r,e1,by rw[e2,<- e4];rfl⟩
  have hxl:(ix.map λi=>ys.getD i .aJ).length=(ax ls).length:=by
   have:=IW List.length eo;rw[HY,HY] at this;rw[HY,this]
  generalize (ix.map λi=>ys.getD i .aJ)=xs at *;generalize upd H3 l (.lst xs)=H4 at *;have gF:=k4 _ _ (g2 _ _ s2 (by simp)) (by simp)
  have lF:l≠fd:=λz=>by
   have:=g2 _ _ s2 (by simp)
   rw[<- z,hl] at this;cases this
  have h04:KB [] H H4:=h02.trans (g2.trans k4);have hit4:∀(j:Nat) (x:V),xs[j]?=some x->∃(hj:j<(ax ls).length) (r:Addr),x=.ref r/\H4 r=some (.tup [.int (ls.getD (ax ls)[j] 0),.int ((ax ls)[j]:Nat)]):=λj x hx=>by
   obtain⟨hj,r,e1,e2⟩:=hit j x hx;exact⟨hj,r,e1,k4 _ _ e2 (by simp)⟩
  clear hit g0 g1 g2 g4 g5 hpl hix hup hl k4 hpm eo hR h02 ha2 s2;have h40:∀t∈ax ls,ls.getD t 0=(aL ls t:Int)/\aL ls t<=40/\t<ls.length:=λt ht=>by
   have h:=hJ ht;have:=hL.2.2 _ (IH h);unfold aL;rw[Ic,HV h];show ls[t]=((ls[t].toNat:Nat):Int)/\ls[t].toNat<=40/\_;exact⟨by lia,by lia,h⟩
  exists aA s4;refine ij (xs:=xs) (λi σ H'=>∃(a':Option (List Nat)) (ws:List (List Nat)) (n h:Int) (o4 o5 o6:Option V),At ls ((ax ls).take i) ((ax ls).drop i) a' n h/\Cw.along Cw.ee (aL ls) ((ax ls).take i) (none,List.replicate ls.length [])=(a',ws)/\ws.length=ls.length/\KB [fd] H4 H'/\KB [] H H'/\H' fd=some (.lst (wV ws))/\σ=[some (.ref a),some (.ref fd),some (.int (n+1)),some (.int h),o4,o5,o6]) ⟨none,_,-1,0,none,none,none,⟨rfl,.inl ⟨rfl,rfl,rfl,rfl⟩⟩,rfl,Iu ..,KB.refl _ _,h04,gF,rfl⟩ (λi σ H' _ h=>by obtain⟨_,_,_,_,_,_,_,_,_,_,kF,_⟩:=h;exact bz.of (kF _ _ s4 (by simpa using lF))) ?_ ?_
  ·rintro i x σ H' hx ⟨a',ws,n,h,o4,o5,o6,hA,hal,hwl,kF,h0',gF',rfl⟩;obtain⟨hj,r,rfl,er⟩:=hit4 i x hx;have rF:r≠fd:=λz=>by rw[z,gF] at er;cases er
   have er':=kF _ _ er (by simpa using rF)
   have ed:(ax ls).drop i=(ax ls)[i]::(ax ls).drop (i+1):=J9 hj;have eT:(ax ls).take (i+1)=(ax ls).take i++[(ax ls)[i]]:=by rw[JQ,HV hj];rfl
   rw[ed] at hA;rw[eT];obtain⟨hx1,hx2,hx3⟩:=h40 _ (IH hj);obtain⟨d,e1,e0,e2,e3,e4,hA2⟩:=hA.next hL ho hup2;have hal2:Cw.along Cw.ee (aL ls) ((ax ls).take i++[(ax ls)[i]]) (none,List.replicate ls.length [])=(some (ka a' (aL ls (ax ls)[i])),ws.set (ax ls)[i] (ka a' (aL ls (ax ls)[i]))):=by
    rw[Cw.eA,hal]
    cases a'<;>rfl
   rw[hx1] at er';generalize (ax ls)[i]=t at *;generalize aL ls t=l at *;generalize hw':ka a' l=w' at *;refine⟨r,_,rfl,bq.of er',rfl,_,_,rfl,_,_,rfl,rfl,?_⟩;refine aq λM hM=>?_;exists e1;refine⟨by lia,by lia,?_⟩
   rw[IY];refine cf (λj σ G=>G=H'/\∃o6:Option V,σ=[some (.ref a),some (.ref fd),some (.int ((n+1)*2^j)),some (.int h),some (.int (l:Nat)),some (.int (t:Nat)),o6]) ⟨rfl,o6,by rw[Int.pow_zero,Int.mul_one]⟩ ?_ ?_
   ·rintro j σ G hj ⟨rfl,o6,rfl⟩;unfold aQ;refine mL λM hM=>?_;walk_at "rz";refine⟨.inr (by decide),?_⟩
    rw[hM];exact⟨rfl,some _,by rw[show (n+1)*2^j*2=(n+1)*2^(j+1) from by rw[Int.pow_succ,<- Int.mul_assoc]]⟩
   ·rintro σ G ⟨rfl,o6,rfl⟩;rw[e2];show M _ _;rw[hM];clear hM M;refine aq λM hM=>?_;walk_at "rz";rw[hM];clear hM M;refine aq λM hM=>?_;walk_at "rz";refine⟨_,l,rfl,hx2,?_⟩;rw[sJ l w' [] e3 e4,Jd];have ixw:ke (wV ws).length (t:Int)=some t:=by rw[mB (by lia) (by rw[mf,hwl];lia)];simp
    have sw:(wV ws).set t (.str (wd w'))=wV (ws.set t w'):=by unfold wV;rw[LS]
    exists gF',ixw,sw;rw[hM];clear hM M;dsimp only;refine mL λM hM=>?_;walk_at "rz";rw[hM];refine⟨some w',ws.set t w',_,_,some _,some _,o6,hA2,hal2,by rw[List.length_set,hwl],λb o e z=>?_,λb o e _=>?_,aa,rfl⟩
    ·rw[ae (by simpa using z)];exact kF _ _ e z
    ·rw[ae (ao e fd0)];exact h0' _ _ e (by simp)
  ·rintro σ H' ⟨a',ws,n,h,o4,o5,o6,hA,hal,_,_,h0',gF',rfl⟩;rw[hxl,Jy] at hal;have ew:wordsOf Cw.dm ls=ws:=by
    unfold wordsOf;rw[Cw.fU (ax ls) [] none _ hup2 (λt ht=>(h40 t ht).2.1) (λv z=>by cases z) (λ_=>rfl) (by rw[Jt,vT];exact Jh ho),hal]
   show N _ _;rw[hN];clear hN N;walk_at "rz";rw[ew] at q;exact q fd H' fd0 h0' gF'
theorem Bm{a:List Nat}(h:a≠b):(Sum.inr (wd a):Key)≠.inr (wd b):=λe=>h (wY (Sum.inr.inj e))
structure Tb (kvs:List (Key×V)) (ws:List (List Nat)) (n:Nat):Prop where
 len:kvs.length=n
 yes:∀(t:Nat) (h:t<ws.length),t<n->bS kvs (.inr (wd ws[t]))=some (.int (t:Nat))
 no:∀x,x∉ws.take n->bS kvs (.inr (wd x))=none
theorem Tb.put{kvs:List (Key×V)}{n:Nat}(h:Tb kvs ws n)(hn:n<ws.length)(nd:ws.Nodup):Tb (putK kvs (.inr (wd ws[n])) (.int (n:Nat))) ws (n+1):=by
 have apart:∀t (ht:t<ws.length),t<n->ws[t]≠ws[n]:=λt ht h=>JS.mp nd t n ht hn h;have hno:ws[n]∉ws.take n:=λhm=>by
  obtain⟨i,hi,e⟩:=K_.mp hm;rw[List.getElem_take] at e;have hi':i<n:=by rw[IF] at hi;lia
  exact apart i (by lia) hi' e
 refine⟨by rw[nr _ (h.no _ hno),HX,h.len];rfl,λt ht htn=>?_,λx hx=>?_⟩
 ·rw[oA];rcases Jb t n with c|c
  ·rw[H_ (Bm (apart t ht c))];exact h.yes t ht c
  ·have:t=n:=by lia
   subst this;rw[Ig rfl]
 ·have e2:ws.take (n+1)=ws.take n++[ws[n]]:=by rw[JQ,HV hn];rfl
  rw[e2] at hx;rw[oA,H_ (Bm λe=>hx (Iy _ (by rw[e];exact List.mem_singleton_self _)))]
  exact h.no x λz=>hx (Jv _ z)
noncomputable def tI(H:Hp)(a:Addr)(ws:List (List Nat)):Prop:=∃kvs,H a=some (.dK kvs)/\Tb kvs ws ws.length
noncomputable def Ao(H:Hp)(a:Addr)(cd:List (List (List Nat))):Prop:=∃t0 t1 t2,H a=some (.lst [.ref t0,.ref t1,.ref t2])/\tI H t0 (cd.getD 0 [])/\tI H t1 (cd.getD 1 [])/\tI H t2 (cd.getD 2 [])
theorem tI.keep(h:tI H a ws)(k:KB ex H H')(hx:∀b∈ex,∀kvs,H b≠some (.dK kvs)):tI H' a ws:=by
 obtain⟨kvs,e,h⟩:=h;exact⟨kvs,k _ _ e λz=>hx _ z _ e,h⟩
theorem Ao.keep{cd:List (List (List Nat))}(h:Ao H a cd)(k:KB ex H H')(n:a∉ex)(hx:∀b∈ex,∀kvs,H b≠some (.dK kvs)):Ao H' a cd:=by
 obtain⟨t0,t1,t2,e,h0,h1,h2⟩:=h;exact⟨t0,t1,t2,k _ _ e n,h0.keep k hx,h1.keep k hx,h2.keep k hx⟩
noncomputable def nO(K:W.Frag):Sp:=λvs H Q _=>∃(b:Addr) (bk:List (List Int)),vs=[.ref b]/\rj H b bk/\Bk bk/\(∀ws∈gu bk,Pf ws)/\∀a H',H a=none->KB [] H H'->Ao H' a (gu bk)->Q (.ref a) H'
theorem sP(T:Txt K mg)(F:HasFn K mg "_law_tables" dJ ["book"])(h_law_code:ai P w K mg base bf 2 "_law_code" ["lengths"] (l_ K)):ai P w K mg base bf 3 "_law_tables" ["book"] (nO K):=by
 refine F.fN bA (λvs H Q E h=>?_) (λf cdv A outer s H vs Q E hr h=>?_)
 ·obtain⟨b,bk,rfl,_⟩:=h;rfl
 ·have hu:=ba hr;obtain⟨b,bk,rfl,hb,hB,hP,q⟩:=h;obtain⟨as,hb1,hb2,hb3⟩:=hb;obtain⟨l0,l1,l2,rfl,_,_,_,hl⟩:=hB;refine⟨_,(Z.ag (Z.se (i:=1) bA.nd (Z.lst Z.nil))
   (Z.ag (Z.eW IK rfl (Z.any K rfl (Z.v 0)) (Z.aT (i:=2) bA.nd rfl (by right)) (Z.ag (Z.se (i:=3) bA.nd Z.EO)
   (Z.ag (Z.eW IK rfl (Z.AL K rfl rfl T.d7 (Z.cons (Z.fc h_law_code (Z.cons (Z.v 2) Z.nil)) Z.nil)) (Z.oy (n:=2) K rfl rfl (Z.bP (Z.aT (i:=4) bA.nd rfl (by right)) (Z.bP (Z.aT (i:=5) bA.nd rfl (by right)) Z.iE))) (Z.au (Z.dput hu (Z.v 3) (Z.v 5) (Z.v 4))))
   (Z.au (Z.expr (Z.app K (Z.v 1) (Z.cons (Z.v 3) Z.nil)))))))
   (Z.au (Z.ret (Z.v 1))))),?_⟩
  refine aq λN hN=>?_;walk_at "rz";refine⟨by decide,λfd hfd=>?_⟩
  have k1:KB [] H (upd H fd (.lst [])):=KB.new hfd;have s1:upd H fd (.lst []) fd=_:=aa;generalize upd H fd (.lst [])=H1 at *;rw[hN];clear hN N;have hb1':=k1 _ _ hb1 (by simp)
  refine aq λN hN=>?_;exists aF hb1';have kF:∀{G:Hp} {o:HO},KB [] H G->KB [] H (upd G fd o):=λa b o e _=>by rw[ae (ao e hfd)];exact a b o e (by simp)
  refine jI (xs:=as.map V.ref) (λi σ H'=>∃(cs:List Addr) (o2 o3 o4 o5:Option V),i<=3/\KB [] H H'/\H' fd=some (.lst (cs.map V.ref))/\cs.length=i/\(∀(j:Nat) (c:Addr),cs[j]?=some c->tI H' c (wordsOf Cw.dm (List.getD [l0,l1,l2] j [])))/\σ=[some (.ref b),some (.ref fd),o2,o3,o4,o5]) ⟨[],none,none,none,none,by decide,k1,s1,rfl,(λj c e=>nomatch e),rfl⟩ (λi σ H' _ h=>by obtain⟨_,_,_,_,_,_,kk,_⟩:=h;exact bq.of (kk _ _ hb1 (by simp))) ?_ ?_
  ·rintro i x σ H' hx ⟨cs,o2,o3,o4,o5,hi3,h0,gf,gl,gt,rfl⟩;obtain⟨a,ea,rfl⟩:∃a,as[i]?=some a/\x=.ref a:=by
    rw[Ie] at hx;obtain⟨a,e,rfl⟩:=IC.mp hx;exact⟨a,e,rfl⟩
   have hi:i<3:=by have:=(HZ.mp ea).1;rw[hb2] at this;exact this
   have hm:List.getD [l0,l1,l2] i []∈[l0,l1,l2]:=by rcases lp hi with rfl|rfl|rfl<;>simp
   have hpf:Pf (wordsOf Cw.dm (List.getD [l0,l1,l2] i [])):=hP _ (JL (f:=wordsOf Cw.dm) hm);have hlm:=hl _ hm;have hwl:(wordsOf Cw.dm (List.getD [l0,l1,l2] i [])).length<=40:=by rw[fJ];have:=hlm.1.2.1;lia
   have hai:=hb3 i a ea;unfold aQ;refine aq λM hM=>?_;walk_at "rz";intro tb htb;have k2:KB [] H' (upd H' tb (.dK [])):=KB.new htb;have s2:upd H' tb (.dK []) tb=_:=aa;generalize upd H' tb (.dK [])=H2 at *;have tb0:H tb=none:=h0.free (by simp) htb
   rw[hM];clear hM M;refine aq λM hM=>?_;walk_at "rz";refine⟨a,_,rfl,k2 _ _ (h0 _ _ hai (by simp)) (by simp),hlm.1,hlm.2,λwl H3 hwl0 k3 s3=>?_⟩
   generalize hws:wordsOf Cw.dm (List.getD [l0,l1,l2] i [])=ws at *;refine⟨wl,rfl,⟨_,bz.of s3⟩,?_⟩;have s23:=k3 _ _ s2 (by simp)
   have h03:=h0.trans (k2.trans k3);have gf3:=(k2.trans k3) _ _ gf (by simp)
   have tf:tb≠fd:=λz=>by rw[z,gf3] at s23;cases s23
   have wt:wl≠tb:=λz=>by rw[z,s2] at hwl0;cases hwl0
   refine qF (xs:=wV ws) (λn σ G=>∃(kvs:List (Key×V)) (o4 o5:Option V),n<=ws.length/\KB [tb] H3 G/\G tb=some (.dK kvs)/\Tb kvs ws n/\σ=[some (.ref b),some (.ref fd),some (.ref a),some (.ref tb),o4,o5]) ⟨[],o4,o5,Iv _,KB.refl _ _,s23,⟨rfl,λt h z=>(nomatch z),λx _=>rfl⟩,rfl⟩ (λn σ G _ h=>by obtain⟨_,_,_,_,kk,_⟩:=h;exact bz.of (kk _ _ s3 (by simpa using wt))) ?_ ?_
   ·rintro n x σ G p hx ⟨kvs,o4,o5,hn,kG,gG,hT,rfl⟩ hp;have hlt:n<ws.length:=by have:=(HZ.mp hx).1;unfold wV at this;rw[HY] at this;exact this
    obtain rfl:x=.str (wd ws[n]):=by
     unfold wV at hx;rw[Ie,HV hlt] at hx;exact (Option.some.inj hx).symm
    refine⟨p,_,rfl,bq.of aa,rfl,_,_,rfl,_,_,rfl,rfl,?_⟩;have k5:KB [] G (upd G p (.tup [.int n,.str (wd ws[n])])):=KB.new hp;generalize upd G p (.tup [.int n,.str (wd ws[n])])=G1 at *;have gG1:=k5 _ _ gG (by simp)
    dsimp only;refine mL λM2 hM2=>?_;walk_at "rz";refine⟨tb,_,rfl,t7.k (k:=.inr (wd ws[n])) gG1 (Nat.lt_of_le_of_lt (show _<=40 by rw[hT.len];lia) (by decide)),?_⟩
    rw[hM2];exact⟨_,some _,some _,hlt,λc o e z=>by rw[ae (by simpa using z)];exact k5 _ _ (kG _ _ e z) (by simp),aa,hT.put hlt hpf.nd,rfl⟩
   ·rintro σ G ⟨kvs,o4,o5,_,kG,gG,hT,rfl⟩;have ewl:(wV ws).length=ws.length:=List.length_map ..;rw[ewl] at hT;show M _ _;rw[hM];clear hM M;dsimp only;refine mL λM hM=>?_;have gfG:=kG _ _ gf3 (by simpa using tf.symm)
    walk_at "rz";refine⟨.inl ⟨rfl,_,bz.of gfG⟩,fd,_,_,rfl,rfl,gfG,Ja (show _<=3 by rw[HY];lia) (by decide),?_⟩
    rw[hM];have h0G:KB [] H G:=λc o e _=>kG _ _ (h03 _ _ e (by simp)) (by simpa using ao e tb0)
    have upT:∀{c:Addr} {ws:List (List Nat)},tI G c ws->tI (upd G fd (.lst (cs.map V.ref++[.ref tb]))) c ws:=λh=>h.keep (KB.set (ex:=[fd]) (by simp)) (λb hb kvs e=>by rw[Ir.mp hb,gfG] at e;cases e)
    refine⟨cs++[tb],some _,some _,o4,o5,hi,kF h0G,by rw[aa,IB];rfl,by rw[HX,gl];rfl,λj c e=>upT ?_,rfl⟩
    rcases Jb j cs.length with hj|hj
    ·rw[IJ hj] at e;obtain⟨kv,e1,e2⟩:=gt j c e;have e3:=(k2.trans k3) _ _ e1 (by simp)
     refine⟨kv,kG _ _ e3 (by simp;rintro rfl;rw[e1] at htb;cases htb),e2⟩
    ·rw[IG hj] at e;obtain⟨hj2,rfl⟩:=HZ.mp e;have:j=i:=by simp at hj2;lia
     subst this;simp only[gl,JG,Kf];rw[hws];exact⟨kvs,gG,hT⟩
  ·rintro σ H' ⟨cs,o2,o3,o4,o5,_,h0,gf,gl,gt,rfl⟩;rw[HY,hb2] at gl;obtain⟨t0,t1,t2,rfl⟩:=qB gl;show N _ _;rw[hN];clear hN N;walk_at "rz";exact q fd H' hfd h0 ⟨t0,t1,t2,gf,gt 0 t0 rfl,gt 1 t1 rfl,gt 2 t2 rfl⟩
noncomputable def lR:Sp:=λvs H Q _=>∃z:List Nat,vs=[.str (wd z)]/\cQ z/\z.length<=40/\Q (.int (dX z:Nat)) H
theorem uN(T:Txt K mg)(F:HasFn K mg "_law_value" eO ["text"]):ai P w K mg base bf 1 "_law_value" ["text"] lR:=by
 refine F.fN cM (λvs H Q E h=>?_) (λf cdv A outer s H vs Q E hr h=>?_)
 ·obtain⟨z,rfl,_⟩:=h;rfl
 ·have hu:=ba hr;obtain⟨z,rfl,hb,hz,q⟩:=h;refine⟨_,(Z.ag (Z.se (i:=1) cM.nd Z.int)
   (Z.ag (Z.eW IK rfl (Z.Hq (Z.v 0)) (Z.aT (i:=2) cM.nd rfl (by right)) (Z.au (Z.se (i:=1) cM.nd (Z.op (Z.aK K rfl) (Z.op bO Z.int (Z.v 1)) (Z.bm K rfl PySem.F.plainAttrs_str PySem.F.slot_str_index PySem.F.type_str_index Y.nL Z.str (Z.cons (Z.v 2) Z.nil))))))
   (Z.au (Z.ret (Z.v 1))))),?_⟩
  refine aq λN hN=>?_;walk_at "rz";rw[hN];clear hN N;refine aq λN hN=>?_;walk_at "rz";refine ng (z:=wd z) (λi σ H'=>H=H'/\∃o:Option V,i<=z.length/\σ=[some (.str (wd z)),some (.int (dX (z.take i):Nat)),o]) ⟨rfl,none,Iv _,rfl⟩ ?_ ?_
  ·rintro i c σ H' hc ⟨rfl,o,hi,rfl⟩;have hlt:i<z.length:=by have:=(Iw.mp hc).1;simpa[wd] using this
   obtain rfl:c=z[i]:=by
    have:(wd z).cps[i]?=some z[i]:=by unfold wd;rw[Jf,HV hlt]
    rw[this] at hc;exact (Option.some.inj hc).symm
   have hc2:=hb _ (List.getElem_mem hlt);unfold aQ;dsimp only;refine mL λM hM=>?_;walk_at "rz";refine⟨.inl ⟨by decide,by decide⟩,rfl,_,_,z[i]-48,[],rfl,rfl,ED hc2,?_⟩
   walk_at "rz";have e4:(2:Int)*(dX (z.take i):Nat)+((z[i]-48:Nat):Int)=(dX (z.take (i+1)):Nat):=by
    rw[JQ,HV hlt];show _=((dX (z.take i++[z[i]]):Nat):Int);rw[u6];lia
   rw[e4,hM];exact⟨rfl,some _,hlt,rfl⟩
  ·rintro σ H' ⟨rfl,o,_,rfl⟩;have e:(wd z).cps.size=z.length:=Im ..;rw[e,Jy];show N _ _;rw[hN];clear hN N;walk_at "rz";exact q
noncomputable def jO(K:W.Frag):Sp:=λvs H Q _=>∃(a:Addr) (ws:List (List Nat)) (z:List Nat) (p:Nat),vs=[.ref a,.str (wd z),.int (p:Nat)]/\tI H a ws/\Pf ws/\(∀w∈ws,w.length<=20)/\z.length<=1000000/\p<=1000000/\∀v H',KB [] H H'->DM H' v (hZ ws z p)->Q v H'
theorem so(T:Txt K mg)(F:HasFn K mg "_law_thing_at" cS ["table","bits","at"]):ai P w K mg base bf 1 "_law_thing_at" ["table","bits","at"] (jO K):=by
 refine F.fN cB (λvs H Q E h=>?_) (λf cdv A outer s H vs Q E hr h=>?_)
 ·obtain⟨a,ws,z,p,rfl,_⟩:=h;rfl
 ·have hu:=ba hr;obtain⟨a,ws,z,p,rfl,⟨kvs,ha,hT⟩,hP,h20,hz,hp,q⟩:=h;refine⟨_,(Z.ag (Z.eW IK rfl (Z.G_ rfl T.d4 (Z.consts rfl)) (Z.aT (i:=3) cB.nd rfl (by right)) (Z.ag (Z.se (i:=4) cB.nd (Z.slice Y.dG (Z.v 1) (Z.jZ (Z.v 2)) (Z.jZ (Z.op (Z.aK K rfl) (Z.v 2) (Z.v 3)))))
   (Z.au (Z.cN (Z.tw (Z.y4 (Z.aR b7 (Z.cb (Z.bB K rfl) rfl T.b8 (by decide +kernel) (Z.cons (Z.v 4) Z.nil)) (Z.v 3)) (Z.rP (Z.aR (Y.yH hu) (Z.v 4) (Z.v 0))))) (Z.au (Z.ret (Z.tup (Z.cons (Z.Fc hu (Z.v 0) (Z.v 4)) (Z.cons (Z.op (Z.aK K rfl) (Z.v 2) (Z.v 3)) Z.nil))))) Z.bo))))
   (Z.au (Z.ret Z.aJ))),?_⟩
  refine aq λN hN=>?_;walk_at "rz";refine⟨1,21,⟨rfl,rfl⟩,by decide,?_⟩
  refine cf (n:=20) (λn σ H'=>H=H'/\∃o3 o4:Option V,n<=20/\(∀t,m9 ws z p=some t->n<(ws.getD t []).length)/\σ=[some (.ref a),some (.str (wd z)),some (.int (p:Nat)),o3,o4]) ⟨rfl,none,none,Iv _,λt ht=>?_,rfl⟩ ?_ ?_
  ·obtain⟨h1,_⟩:=dY ht;rw[Ic,HV h1];exact Lh.mpr (hP.ne _ (IH h1))
  ·rintro n σ H' hlt ⟨rfl,o3,o4,hn,hno,rfl⟩;rw[show (1:Int)+((n:Nat):Int)=((n+1:Nat):Int) by lia]
   have ec:(p:Int)+((n+1:Nat):Int)=((p+(n+1):Nat):Int):=by lia
   unfold aQ;refine aq λM hM=>?_;exists ec;refine⟨_,rfl,by rw[av];exact Ia hz (by decide),?_⟩
   rw[i_ z p _ (by lia),JJ]
   have next:(¬ (((z.drop p).take (n+1)).length=n+1/\(z.drop p).take (n+1)∈ws))->∀t,m9 ws z p=some t->n+1<(ws.getD t []).length:=λhc t ht=>by
    have h1:=hno t ht;obtain⟨h2,h3⟩:=dY ht;rcases Nat.lt_or_eq_of_le (show n+1<=(ws.getD t []).length from h1) with h|h
    ·exact h
    ·have e4:(z.drop p).take (n+1)=ws.getD t []:=by rw[h];exact (Ly.mp h3).symm
     exact absurd ⟨by rw[e4];exact h.symm,by rw[e4,Ic,HV h2];exact IH h2⟩ hc
   have hxl:((z.drop p).take (n+1)).length<=20:=by rw[IF];lia
   have hpre:((z.drop p).take (n+1)) <+: z.drop p:=List.take_prefix _ _;rw[hM];clear hM M;generalize (z.drop p).take (n+1)=x at *;dsimp only;refine mL λM hM=>?_;have cont':(¬ (x.length=n+1/\x∈ws))->M [some (.ref a),some (.str (wd z)),some (.int (p:Nat)),some (.int ((n+1:Nat):Int)),some (.str (wd x))] H:=λhc=>by
    rw[hM];exact⟨rfl,some _,some _,hlt,next hc,rfl⟩
   have hxs:(wd x).length<=sizeLine:=by rw[av];exact Ia hxl (by decide)
   by_cases c1:x.length=n+1
   ·have c1':(((wd x).length:Nat):Int)=((n+1:Nat):Int):=by rw[av,c1]
    by_cases c2:x∈ws
    ·obtain⟨t,ht,et⟩:=K_.mp c2;have eg:ws.getD t []=x:=by rw[Ic,HV ht];exact et
     have th:m9 ws z p=some t:=hP.th ht (by rw[eg];exact hpre)
     have hlk:fO H a (.str (wd x)) (some (.int (t:Nat))):=by
      have:=fO.k (k:=.inr (wd x)) ha;rw[<- et] at this ⊢;rw[hT.yes t ht ht] at this;exact this
     exists Ig c1';refine⟨hxs,a,_,rfl,hlk,?_⟩;walk_at "rz";refine⟨a,_,rfl,hlk,by decide,λb hb=>?_⟩
     unfold hZ at q;rw[th] at q;refine q _ _ (KB.new hb) ⟨b,rfl,?_⟩;rw[aa,ec];show _=some (HO.tup [V.int (t:Nat),V.int ((p+(ws.getD t []).length:Nat):Int)]);rw[eg,c1]
    ·have hlk:fO H a (.str (wd x)) none:=by
      have:=fO.k (k:=.inr (wd x)) ha;rw[hT.no x (by rw[Jy];exact c2)] at this
      exact this
     exists Ig c1';refine⟨hxs,a,_,rfl,hlk,?_⟩;walk_at "rz";exact cont' λh=>c2 h.2
   ·have c1':¬ (((wd x).length:Nat):Int)=((n+1:Nat):Int):=by rw[av];lia
    exists H_ c1';exact⟨hxs,cont' λh=>c1 h.1⟩
  ·rintro σ H' ⟨rfl,o3,o4,_,hno,rfl⟩;have hnone:m9 ws z p=none:=by
    cases c:m9 ws z p with
    |none=>rfl
    |some t =>
     have h1:=hno t c;obtain⟨h2,_⟩:=dY c;rw[Ic,HV h2] at h1;have:=h20 _ (IH h2);exact absurd h1 (by show ¬ 20<(ws[t]).length;lia)
   unfold hZ at q;rw[hnone] at q;show N _ _;rw[hN];clear hN N;walk_at "rz";exact q _ _ (KB.refl _ _) rfl
noncomputable def HE(H:Hp)(v:V):Option (Int×Nat)->Prop
 |none=>v=.aJ
 |some x=>∃t,v=.ref t/\H t=some (.tup [.int x.1,.int (x.2:Nat)])
noncomputable def vv(K:W.Frag):Sp:=λvs H Q _=>∃(a:Addr) (ws:List (List Nat)) (z:List Nat) (p:Nat),vs=[.ref a,.str (wd z),.int (p:Nat)]/\tI H a ws/\Pf ws/\(∀w∈ws,w.length<=20)/\ws.length<=20/\cQ z/\z.length<=1000000/\p<=1000000/\∀v H',KB [] H H'->DM H' v (xA ws z p)->Q v H'
theorem zW(T:Txt K mg)(F:HasFn K mg "_law_number_at" cE ["table","bits","at"])(h_law_thing_at:ai P w K mg base bf 1 "_law_thing_at" ["table","bits","at"] (jO K))(h_law_value:ai P w K mg base bf 1 "_law_value" ["text"] lR):ai P w K mg base bf 2 "_law_number_at" ["table","bits","at"] (vv K):=by
 refine F.fN cx (λvs H Q E h=>?_) (λf cdv A outer s H vs Q E hr h=>?_)
 ·obtain⟨a,ws,z,p,rfl,_⟩:=h;rfl
 ·have hu:=ba hr;obtain⟨a,ws,z,p,rfl,hT,hP,h20,hw20,hb,hz,hp,q⟩:=h;refine⟨_,(Z.ag (Z.se (i:=3) cx.nd (Z.fc h_law_thing_at (Z.cons (Z.v 0) (Z.cons (Z.v 1) (Z.cons (Z.v 2) Z.nil)))))
   (Z.ag (Z.cN (Z.tw (Z.GG (Z.aR bQ (Z.v 3) Z.aJ) (Z.BH (Z.aR b7 (Z.ix (Z.aC K rfl hu) (Z.v 3) Z.int) Z.int)))) (Z.au (Z.ret (Z.v 3))) Z.bo)
   (Z.ag (Z.se (i:=4) cx.nd (Z.slice Y.dG (Z.v 1) (Z.jZ (Z.ix (Z.aC K rfl hu) (Z.v 3) Z.int)) (Z.jZ (Z.op bY (Z.op (Z.aK K rfl) (Z.ix (Z.aC K rfl hu) (Z.v 3) Z.int) (Z.ix (Z.aC K rfl hu) (Z.v 3) Z.int)) Z.int))))
   (Z.ag (Z.cN (Z.aR iK (Z.cb (Z.bB K rfl) rfl T.b8 (by decide +kernel) (Z.cons (Z.v 4) Z.nil)) (Z.op bY (Z.ix (Z.aC K rfl hu) (Z.v 3) Z.int) Z.int)) (Z.au (Z.ret Z.aJ)) Z.bo)
   (Z.au (Z.ret (Z.tup (Z.cons (Z.fc h_law_value (Z.cons (Z.op (Z.aK K rfl) Z.str (Z.v 4)) Z.nil)) (Z.cons (Z.op (Z.aK K rfl) (Z.ix (Z.aC K rfl hu) (Z.v 3) Z.int) (Z.cb (Z.bB K rfl) rfl T.b8 (by decide +kernel) (Z.cons (Z.v 4) Z.nil))) Z.nil))))))))),?_⟩
  refine aq λN hN=>?_;walk_at "rz";refine⟨a,ws,z,p,rfl,hT,hP,h20,hz,hp,λv H1 k1 o1=>?_⟩;rw[hN];clear hN N;refine aq λN hN=>?_;unfold xA at q
  cases c:hZ ws z p with
  |none =>
   rw[c] at q o1;obtain rfl:v=.aJ:=o1;walk_at "rz";exact q _ _ k1 rfl
  |some x =>
   rw[c] at q o1;obtain⟨t,e⟩:=x;obtain⟨h1,_,h3,h4⟩:=dP hP.ne c;obtain⟨b,rfl,hb1⟩:=o1;dsimp only at q h1 h3 h4 hb1;have sb:=aF hb1;exists if_neg (show ¬ V.ref b=V.aJ from V.noConfusion),sb;by_cases c0:t=0
   ·subst c0;rw[Ig rfl] at q;rw[Ig (by rfl)]
    exact q _ _ k1 ⟨b,rfl,hb1⟩
   ·rw[H_ c0] at q;rw[H_ (show ¬ ((t:Nat):Int)=0 by lia),hN];clear hN N
    have eb:(e:Int)+(t:Int)-1=((e+(t-1):Nat):Int):=by lia
    have et:(t:Int)-1=((t-1:Nat):Int):=by lia
    have hb2:=hb.cut e (t-1);have hl2:((z.drop e).take (t-1)).length=min (t-1) (z.length-e):=by rw[IF,IQ]
    refine aq λN hN=>?_;exists sb,eb;refine⟨_,rfl,by rw[av];exact Ia hz (by decide),?_⟩
    rw[i_ z e _ (by lia),JJ,hN];clear hN N
    have hx16:((z.drop e).take (t-1)).length<=20:=by lia
    have hxs:(wd ((z.drop e).take (t-1))).length<=sizeLine:=by rw[av];exact Ia hx16 (by decide)
    refine aq λN hN=>?_;by_cases cl:e+(t-1)<=z.length
    ·rw[Ig cl] at q;have hls:((z.drop e).take (t-1)).length=t-1:=by lia
     exists sb,et;refine⟨hxs,?_⟩;rw[av,H_ (show ¬ (((z.drop e).take (t-1)).length:Int)<((t-1:Nat):Int) by lia),hN];clear hN N
     generalize (z.drop e).take (t-1)=x at *;walk_at "rz";rw[show Str.ofString "1"=wd [49] from by decide +kernel,fe,av,av]
     refine⟨Ia (show _<=21 by simp;lia) (by decide),[49]++x,rfl,λc hc=>?_,by rw[HX];simp;lia,?_⟩
     ·rcases Jk.mp hc with hc|hc
      ·exact .inr (Ir.mp hc)
      ·exact hb2 c hc
     exists sb;rw[av] at hxs;refine⟨hxs,by decide,λb2 hb2'=>q _ _ (k1.trans (KB.new hb2')) ⟨b2,rfl,?_⟩⟩
     rw[aa,hls];rfl
    ·rw[H_ cl] at q;exists sb,et;refine⟨hxs,?_⟩;rw[av,Ig (show (((z.drop e).take (t-1)).length:Int)<((t-1:Nat):Int) by lia)]
     exact q _ _ k1 rfl
noncomputable def vD:Sp:=λvs H Q _=>∃(z:List Nat) (p:Nat),vs=[.str (wd z),.int (p:Nat)]/\cQ z/\z.length<=1000000/\p<=1000000/\∀v H',KB [] H H'->HE H' v (gA z p)->Q v H'
theorem A9(T:Txt K mg)(F:HasFn K mg "_law_way_at" dM ["bits","at"])(h_law_value:ai P w K mg base bf 1 "_law_value" ["text"] lR):ai P w K mg base bf 2 "_law_way_at" ["bits","at"] vD:=by
 refine F.fN b9 (λvs H Q E h=>?_) (λf cdv A outer s H vs Q E hr h=>?_)
 ·obtain⟨z,p,rfl,_⟩:=h;rfl
 ·have hu:=ba hr;obtain⟨z,p,rfl,hb,hz,hp,q⟩:=h;refine⟨_,(Z.ag (Z.eW IK rfl (Z.tV rfl T.d4 (Z.cons Z.int Z.nil)) (Z.aT (i:=2) b9.nd rfl (by right)) (Z.ag (Z.se (i:=3) b9.nd (Z.ix (Z.aC K rfl hu) (Z.lst (Z.consts rfl)) (Z.v 2)))
   (Z.au (Z.cN (Z.aR b7 (Z.slice Y.dG (Z.v 0) (Z.jZ (Z.v 1)) (Z.jZ (Z.op (Z.aK K rfl) (Z.v 1) (Z.cb (Z.bB K rfl) rfl T.b8 (by decide +kernel) (Z.cons (Z.v 3) Z.nil))))) (Z.v 3)) (Z.ag (Z.se (i:=4) b9.nd (Z.slice Y.dG (Z.v 0) (Z.jZ (Z.op (Z.aK K rfl) (Z.v 1) (Z.cb (Z.bB K rfl) rfl T.b8 (by decide +kernel) (Z.cons (Z.v 3) Z.nil)))) (Z.jZ (Z.op (Z.aK K rfl) (Z.op (Z.aK K rfl) (Z.v 1) (Z.cb (Z.bB K rfl) rfl T.b8 (by decide +kernel) (Z.cons (Z.v 3) Z.nil))) (Z.ix (Z.aC K rfl hu) (Z.lst (Z.consts rfl)) (Z.v 2))))))
   (Z.ag (Z.cN (Z.aR iK (Z.cb (Z.bB K rfl) rfl T.b8 (by decide +kernel) (Z.cons (Z.v 4) Z.nil)) (Z.ix (Z.aC K rfl hu) (Z.lst (Z.consts rfl)) (Z.v 2))) (Z.au (Z.ret Z.aJ)) Z.bo)
   (Z.ag (Z.se (i:=5) b9.nd (Z.fc h_law_value (Z.cons (Z.v 4) Z.nil)))
   (Z.ag (Z.cN (Z.aR u_ (Z.v 5) (Z.ix (Z.aC K rfl hu) (Z.lst (Z.consts rfl)) (Z.v 2))) (Z.au (Z.se (i:=5) b9.nd (Z.op bY (Z.v 5) (Z.ix (Z.aC K rfl hu) (Z.lst (Z.consts rfl)) (Z.v 2))))) Z.bo)
   (Z.au (Z.ret (Z.tup (Z.cons (Z.v 5) (Z.cons (Z.op (Z.aK K rfl) (Z.op (Z.aK K rfl) (Z.v 1) (Z.cb (Z.bB K rfl) rfl T.b8 (by decide +kernel) (Z.cons (Z.v 3) Z.nil))) (Z.cb (Z.bB K rfl) rfl T.b8 (by decide +kernel) (Z.cons (Z.v 4) Z.nil))) Z.nil))))))))) Z.bo))))
   (Z.au (Z.ret Z.aJ))),?_⟩
  refine aq λN hN=>?_;walk_at "rz";refine⟨by decide,by decide,?_⟩
  refine cf (n:=3) (λn σ H'=>∃o2 o3 o4 o5:Option V,KB [] H H'/\n<=3/\(List.range' n (3-n)).find? (λi=>decide (mK.getD i [] <+: z.drop p))=m9 mK z p/\σ=[some (.str (wd z)),some (.int (p:Nat)),o2,o3,o4,o5]) ⟨none,none,none,none,KB.refl _ _,Iv _,by unfold m9;rw[KY];rfl,rfl⟩ ?_ ?_
  ·rintro n σ H' hlt ⟨o2,o3,o4,o5,k0,hn,ef,rfl⟩;rw[find3 hlt] at ef;rw[show (0:Int)+((n:Nat):Int)=(n:Int) from Int.zero_add _];have p2:=nW hlt;have p3:cq [V.int 4,.int 8,.int 16] (n:Int)=some (.int (aP n:Nat)):=by rcases lp hlt with rfl|rfl|rfl<;>rfl
   have p4:0<aP n/\aP n<=16/\(b6 n).length<=2:=by rcases lp hlt with rfl|rfl|rfl<;>decide
   have p5:cq [V.int 8,.int 128,.int 32768] (n:Int)=some (.int (cy n)):=by rcases lp hlt with rfl|rfl|rfl<;>rfl
   have p6:cq [V.int 16,.int 256,.int 65536] (n:Int)=some (.int (2*cy n)):=by rcases lp hlt with rfl|rfl|rfl<;>rfl
   have zs:(wd z).length<=sizeLine:=by rw[av];exact Ia hz (by decide)
   have h2l:(wd (b6 n)).length<=sizeLine:=by rw[av];exact Ia p4.2.2 (by decide)
   unfold aQ;refine aq λM hM=>?_;exists p2;refine⟨by decide,λl1 hl1=>?_⟩
   have k1:=k0.trans (KB.new (o:=.lst [.str (Str.ofString "0"),.str (Str.ofString "10"),.str (Str.ofString "11")]) hl1);generalize upd H' l1 _=H1 at *;rw[hM];clear hM M;dsimp only;refine mL λM hM=>?_;refine uG λA B hA hB=>?_;have ec1:(p:Int)+((wd (b6 n)).length:Nat)=((p+(b6 n).length:Nat):Int):=by rw[av];lia
   exists ec1;refine⟨h2l,_,rfl,zs,?_⟩;rw[i_ z p _ (by lia),JJ]
   walk_at "rz";by_cases c:b6 n <+: z.drop p
   ·rw[Ig c] at ef;rw[Ig (IW wd (pre_take.mp c)),hA];clear hA hB A B;have hc:hZ mK z p=some (n,p+(b6 n).length):=by unfold hZ;rw[<- ef,<- w6 hlt];rfl
    unfold gA at q;rw[hc] at q;dsimp only at q;generalize he:p+(b6 n).length=e at *;have ec2:(e:Int)+(aP n:Nat)=((e+aP n:Nat):Int):=by lia
    have hb2:=hb.cut e (aP n);have hl2:((z.drop e).take (aP n)).length=min (aP n) (z.length-e):=by rw[IF,IQ]
    refine aq λM' hM'=>?_;exists ec1,p3,ec2;refine⟨h2l,h2l,by decide,λl2 hl2'=>⟨_,rfl,zs,?_⟩⟩
    have k2:=k1.trans (KB.new (o:=.lst [.int 4,.int 8,.int 16]) hl2');generalize upd H1 l2 _=H2 at *;rw[i_ z e _ (by lia),JJ,hM'];clear hM' M'
    have hx16:((z.drop e).take (aP n)).length<=16:=by lia
    generalize hx:(z.drop e).take (aP n)=x at *;have hxs:(wd x).length<=sizeLine:=by rw[av];exact Ia hx16 (by decide)
    refine aq λM' hM'=>?_;refine uG λA B hA hB=>?_;exists p3;refine⟨hxs,by decide,λl3 hl3=>?_⟩
    have k3:=k2.trans (KB.new (o:=.lst [.int 4,.int 8,.int 16]) hl3);generalize upd H2 l3 _=H3 at *;rw[av];by_cases cl:e+aP n<=z.length
    ·rw[Ig cl] at q;have hls:x.length=aP n:=by lia
     rw[H_ (show ¬ (x.length:Int)<(aP n:Nat) by lia),hB]
     show M' _ _;rw[hM'];clear hM' M' hA hB A B;refine aq λM' hM'=>?_;walk_at "rz";refine⟨x,rfl,hb2,by lia,?_⟩
     rw[hM'];clear hM' M';unfold BV at q;have fin:∀(d:Int) (G:Hp),KB [] H G->d=(if cy n<=((dX x:Nat):Int) then ((dX x:Nat):Int)-2*cy n else ((dX x:Nat):Int))->(wd (b6 n)).length<=sizeLine/\(wd x).length<=sizeLine/\0+1+1<=sizeLine/\∀b,G b=none->Q (.ref b) (upd G b (.tup [.int d,.int ((e:Int)+((wd x).length:Nat))])):=λd G kG ed=>by
      refine⟨h2l,hxs,by decide,λb hb'=>q _ _ (kG.trans (KB.new hb')) ⟨b,rfl,?_⟩⟩
      rw[aa,ed,av,hls];rfl
     refine aq λM' hM'=>?_;refine uG λA B hA hB=>?_;exists p5;refine⟨by decide,λl4 hl4=>?_⟩
     have k4:=k3.trans (KB.new (o:=.lst [.int 8,.int 128,.int 32768]) hl4);generalize upd H3 l4 _=H4 at *;by_cases c2:cy n<=(dX x:Nat)
     ·rw[Ig c2,hA];exists p6;refine⟨by decide,λl5 hl5=>?_⟩
      have k5:=k4.trans (KB.new (o:=.lst [.int 16,.int 256,.int 65536]) hl5);generalize upd H4 l5 _=H5 at *;rw[hM'];exists ec1;exact fin _ H5 k5 (by rw[Ig c2])
     ·rw[H_ c2,hB];show M' _ _;rw[hM'];exists ec1;exact fin _ H4 k4 (by rw[H_ c2])
    ·rw[H_ cl] at q;rw[Ig (show (x.length:Int)<(aP n:Nat) by lia),hA]
     walk_at "rz";exact q _ _ k3 rfl
   ·rw[H_ c] at ef;rw[H_ (λh=>c (pre_take.mpr (wY h))),hB];show M _ _;rw[hM];exact⟨some _,some _,o4,o5,k1,hlt,ef,rfl⟩
  ·rintro σ H' ⟨o2,o3,o4,o5,k0,_,ef,rfl⟩;have ef':m9 mK z p=none:=ef.symm;unfold gA hZ at q;rw[ef'] at q;show N _ _;rw[hN];clear hN N;walk_at "rz";exact q _ _ k0 rfl
noncomputable def FZ(H:Hp)(v:V):Option (PV×Nat)->Prop
 |none=>v=.aJ
 |some x=>∃t,v=.ref t/\H t=some (.tup [.int x.1.n,.int (x.2:Nat)])
theorem Ar{v:V}(h:DM H v o):FZ H v (o.map λx=>(PV.box x.1,x.2)):=by cases o<;>exact h
theorem Ay{v:V}(h:DM H v o):FZ H v (o.map λx=>(PV.num x.1,x.2)):=by cases o<;>exact h
theorem CY{v:V}{o:Option (Int×Nat)}(h:HE H v o):FZ H v (o.map λx=>(PV.go x.1,x.2)):=by cases o<;>exact h
theorem Cz(h:i<9):cq [V.str (Str.ofString "bn"),.str (Str.ofString "bb"),.str (Str.ofString "bb"),.str (Str.ofString "bb"),.str (Str.ofString "b"),.str (Str.ofString "b"),.str (Str.ofString "g"),.str (Str.ofString "bg"),.str (Str.ofString "")] (i:Int)=some (.str (wd ((xG i).map Kd.c))):=by
 have:i=0\/i=1\/i=2\/i=3\/i=4\/i=5\/i=6\/i=7\/i=8:=by lia
 rcases this with rfl|rfl|rfl|rfl|rfl|rfl|rfl|rfl|rfl<;>exact IW (λz=>some (V.str z)) (by decide +kernel)
theorem En{cd:List (List (List Nat))}{k:Kd}{x:PV×Nat}(hR:me cd)(h:uj cd z p k=some x):cq [V.str ⟨#[97+(x.1.n % 8).toNat]⟩,.int x.1.n] (if ¬ (⟨#[k.c]⟩:Str)=Str.ofString "b" then 1 else 0)=some x.1.l:=by
 have h8:=(mE hR h).2.2
 cases k with
 |box =>
  rw[H_ (by decide +kernel:¬ ¬ (⟨#[Kd.c .box]⟩:Str)=Str.ofString "b")]
  replace h:(hZ (cd.getD 2 []) z p).map (λx=>(PV.box x.1,x.2))=some x:=h
  obtain⟨y,_,e⟩:=IC.mp h;subst e;have h9:=h8 _ rfl;show some (V.str ⟨#[97+(((y.1:Nat):Int) % 8).toNat]⟩)=some (V.str (cX y.1));rw[show (((y.1:Nat):Int) % 8).toNat=y.1 by lia]
  rfl
 |num =>
  rw[Ig (by decide +kernel:¬ (⟨#[Kd.c .num]⟩:Str)=Str.ofString "b")]
  obtain⟨y,_,e⟩:=IC.mp h;subst e;rfl
 |go =>
  rw[Ig (by decide +kernel:¬ (⟨#[Kd.c .go]⟩:Str)=Str.ofString "b")]
  obtain⟨y,_,e⟩:=IC.mp h;subst e;rfl
noncomputable def CB(H:Hp)(v:V):Option (RW×Nat)->Prop
 |none=>v=.aJ
 |some x=>∃t r,v=.ref t/\H t=some (.tup [.ref r,.int (x.2:Nat)])/\H r=some (.tup x.1.l)
noncomputable def vM(K:W.Frag):Sp:=λvs H Q _=>∃(a:Addr) (cd:List (List (List Nat))) (z:List Nat) (p:Nat),vs=[.ref a,.str (wd z),.int (p:Nat)]/\Ao H a cd/\Hy cd/\cQ z/\z.length<=1000000/\p<=1000000/\∀v H',KB [] H H'->CB H' v (wI cd z p)->Q v H'
theorem zk(T:Txt K mg)(F:HasFn K mg "_law_row_at" dF ["tables","bits","at"])(h_law_thing_at:ai P w K mg base bf 1 "_law_thing_at" ["table","bits","at"] (jO K))(h_law_number_at:ai P w K mg base bf 2 "_law_number_at" ["table","bits","at"] (vv K))(h_law_way_at:ai P w K mg base bf 2 "_law_way_at" ["bits","at"] vD)(h_law_words:ai P w K mg base bf 1 "_law_words" [] mC):ai P w K mg base bf 3 "_law_row_at" ["tables","bits","at"] (vM K):=by
 refine F.fN aY (λvs H Q E h=>?_) (λf cdv A outer s H vs Q E hr h=>?_)
 ·obtain⟨a,cd,z,p,rfl,_⟩:=h;rfl
 ·have hu:=ba hr;obtain⟨a,cd,z,p,rfl,hT,hR,hb,hz,hp,q⟩:=h;obtain⟨t0,t1,t2,gT,T0,T1,T2⟩:=hT;refine⟨_,(Z.ag (Z.se (i:=3) aY.nd (Z.fc h_law_thing_at (Z.cons (Z.ix (Z.aC K rfl hu) (Z.v 0) Z.int) (Z.cons (Z.v 1) (Z.cons (Z.v 2) Z.nil)))))
   (Z.ag (Z.cN (Z.aR bQ (Z.v 3) Z.aJ) (Z.au (Z.ret Z.aJ)) Z.bo)
   (Z.ag (Z.se (i:=4) aY.nd (Z.lst (Z.cons (Z.ix (Z.aC K rfl hu) (Z.HA h_law_words (hr.mono (by decide)) rfl xZ) (Z.ix (Z.aC K rfl hu) (Z.v 3) Z.int)) Z.nil)))
   (Z.ag (Z.eW IK rfl (Z.Hq (Z.ix (Z.aC K rfl hu) (Z.lst (Z.consts rfl)) (Z.ix (Z.aC K rfl hu) (Z.v 3) Z.int))) (Z.aT (i:=5) aY.nd rfl (by right)) (Z.ag (Z.se (i:=6) aY.nd (Z.ix (Z.aC K rfl hu) (Z.v 3) Z.int))
   (Z.ag (Z.cN (Z.aR b7 (Z.v 5) Z.str) (Z.au (Z.se (i:=3) aY.nd (Z.fc h_law_thing_at (Z.cons (Z.ix (Z.aC K rfl hu) (Z.v 0) Z.int) (Z.cons (Z.v 1) (Z.cons (Z.v 6) Z.nil)))))) (Z.au (Z.cN (Z.aR b7 (Z.v 5) Z.str) (Z.au (Z.se (i:=3) aY.nd (Z.fc h_law_number_at (Z.cons (Z.ix (Z.aC K rfl hu) (Z.v 0) Z.int) (Z.cons (Z.v 1) (Z.cons (Z.v 6) Z.nil)))))) (Z.au (Z.se (i:=3) aY.nd (Z.fc h_law_way_at (Z.cons (Z.v 1) (Z.cons (Z.v 6) Z.nil))))))))
   (Z.ag (Z.cN (Z.aR bQ (Z.v 3) Z.aJ) (Z.au (Z.ret Z.aJ)) Z.bo)
   (Z.au (Z.expr (Z.app K (Z.v 4) (Z.cons (Z.ix (Z.aC K rfl hu) (Z.lst (Z.cons (Z.ix (Z.aC K rfl hu) Z.str (Z.op dy (Z.ix (Z.aC K rfl hu) (Z.v 3) Z.int) Z.int)) (Z.cons (Z.ix (Z.aC K rfl hu) (Z.v 3) Z.int) Z.nil))) (Z.ct ud rfl T.rm (by decide +kernel) (Z.cons (Z.cmp pI (Z.v 5) Z.str) Z.nil))) Z.nil))))))))
   (Z.au (Z.ret (Z.tup (Z.cons (Z.ct (Z.e9 K rfl) rfl T.cU (by decide +kernel) (Z.cons (Z.v 4) Z.nil)) (Z.cons (Z.ix (Z.aC K rfl hu) (Z.v 3) Z.int) Z.nil))))))))),?_⟩
  obtain⟨c0,c1,c2,rfl,l0,l1,l2⟩:=hR.fM.ex;have f0:=hR.pf c0 (by simp)
  have f1:=hR.pf c1 (by simp)
  have f2:=hR.pf c2 (by simp)
  have m0:=hR.BW c0 (by simp)
  have m1:=hR.BW c1 (by simp)
  have m2:=hR.BW c2 (by simp)
  refine aq λN hN=>?_;exists aA gT;refine⟨t0,c0,z,p,rfl,T0,f0,m0,hz,hp,λv H1 k1 o1=>?_⟩;rw[hN];clear hN N;refine aq λN hN=>?_
  replace q:∀v H',KB [] H H'->CB H' v ((hZ c0 z p).bind λx=>(iD [c0,c1,c2] z (xG x.1) x.2).map λy=>(⟨x.1,y.1⟩,y.2))->Q v H':=q
  cases c:hZ c0 z p with
  |none =>
   rw[c] at q o1;obtain rfl:v=.aJ:=o1;walk_at "rz";exact q _ _ k1 rfl
  |some x =>
   rw[c] at q o1;obtain⟨wi,e⟩:=x;obtain⟨w1,_,_,w4⟩:=dP f0.ne c;dsimp only at w1 w4;have h9:wi<9:=by lia
   replace q:∀v H',KB [] H H'->CB H' v ((iD [c0,c1,c2] z (xG wi) e).map λy=>(⟨wi,y.1⟩,y.2))->Q v H':=q
   obtain⟨t,rfl,ht⟩:=o1;dsimp only at ht;exists if_neg (show ¬ V.ref t=V.aJ from V.noConfusion);rw[hN];clear hN N;refine aq λN hN=>?_;have ak:cq (aZ.map V.str) (wi:Int)=some (.str (aZ.getD wi (Str.ofString ""))):=bI (by
    rw[Ie,Ic,HV (show wi<aZ.length from h9)];rfl)
   walk_at "rz";refine⟨rfl,λl hl=>?_⟩;have k2:KB [] H1 (upd H1 l (.lst (aZ.map V.str))):=KB.new hl;have s2:upd H1 l (.lst (aZ.map V.str)) l=_:=aa;generalize upd H1 l (.lst (aZ.map V.str))=H2 at *;have ht2:=k2 _ _ ht (by simp)
   exists aF ht2,aA s2,ak;have h02:KB [] H H2:=k1.trans k2;have hlen:(xG wi).length<=2:=by
    have:wi=0\/wi=1\/wi=2\/wi=3\/wi=4\/wi=5\/wi=6\/wi=7\/wi=8:=by lia
    rcases this with rfl|rfl|rfl|rfl|rfl|rfl|rfl|rfl|rfl<;>decide
   have k9:=Cz h9;generalize hps:xG wi=ks0 at *;generalize hw9:aZ.getD wi (Str.ofString "")=W at *;refine⟨by decide,λrl hrl=>?_⟩
   have k3:KB [] H2 (upd H2 rl (.lst [.str W])):=KB.new hrl;have s3:upd H2 rl (.lst [.str W]) rl=some (.lst [.str W]):=aa;generalize upd H2 rl (.lst [.str W])=H3 at *;have hrl0:H rl=none:=h02.free (by simp) hrl
   have h03:KB [] H H3:=h02.trans k3;have ht3:=k3 _ _ ht2 (by simp)
   clear k1 k2 k3 hl s2 ht ht2 ak h02 hrl;rw[hN];clear hN N;refine aq λN hN=>?_;walk_at "rz";refine⟨by decide,λl hl=>?_⟩
   have k4:=h03.trans (KB.new (o:=.lst [.str (Str.ofString "bn"),.str (Str.ofString "bb"),.str (Str.ofString "bb"),.str (Str.ofString "bb"),.str (Str.ofString "b"),.str (Str.ofString "b"),.str (Str.ofString "g"),.str (Str.ofString "bg"),.str (Str.ofString "")]) hl);have ht4:=KB.new (ex:=[]) (o:=.lst [.str (Str.ofString "bn"),.str (Str.ofString "bb"),.str (Str.ofString "bb"),.str (Str.ofString "bb"),.str (Str.ofString "b"),.str (Str.ofString "b"),.str (Str.ofString "g"),.str (Str.ofString "bg"),.str (Str.ofString "")]) hl _ _ ht3 (by simp)
   have s4:=KB.new (ex:=[]) (o:=.lst [.str (Str.ofString "bn"),.str (Str.ofString "bb"),.str (Str.ofString "bb"),.str (Str.ofString "bb"),.str (Str.ofString "b"),.str (Str.ofString "b"),.str (Str.ofString "g"),.str (Str.ofString "bg"),.str (Str.ofString "")]) hl _ _ s3 (by simp)
   exists aF ht4,k9;generalize upd H3 l _=H4 at *;clear ht3 s3 h03 hl;have q':∀v H',KB [] H H'->(match iD [c0,c1,c2] z ks0 e with|none=>v=V.aJ|some y=>∃t r,v=.ref t/\H' t=some (.tup [.ref r,.int (y.2:Nat)])/\H' r=some (.tup (.str W::y.1.map λx=>x.1.l)))->Q v H':=λv H' k o=>by
    refine q v H' k ?_
    cases c2':iD [c0,c1,c2] z ks0 e with
    |none=>rw[c2'] at o;exact o
    |some y =>
     rw[c2'] at o;obtain⟨t,r,e1,e2,e3⟩:=o;refine⟨t,r,e1,e2,?_⟩;rw[e3];show _=some (HO.tup (RW.l ⟨wi,y.1⟩));unfold RW.l;rw[hw9]
   clear q k9;have KF:∀{G:Hp} {o:HO},KB [] H G->KB [] H (upd G rl o):=λa b o e _=>by rw[ae (ao e hrl0)];exact a b o e (by simp)
   refine ng (z:=wd (ks0.map Kd.c)) (λi σ H'=>∃(acc:List (PV×Nat)) (b:Nat) (x0:Int) (t:Addr) (o5 o6:Option V),i<=ks0.length/\(iD [c0,c1,c2] z ks0 e=(iD [c0,c1,c2] z (ks0.drop i) b).map λy=>(acc++y.1,y.2))/\acc.length=i/\b<=z.length/\H' t=some (.tup [.int x0,.int (b:Nat)])/\H' rl=some (.lst (.str W::acc.map λx=>x.1.l))/\KB [] H H'/\σ=[some (.ref a),some (.str (wd z)),some (.int (p:Nat)),some (.ref t),some (.ref rl),o5,o6]) ⟨[],e,(wi:Int),t,none,none,Iv _,by rw[J5];cases iD [c0,c1,c2] z ks0 e<;>rfl,rfl,w4,ht4,s4,k4,rfl⟩ ?_ ?_
   ·rintro i cc σ H' hcc ⟨acc,b,x0,t,o5,o6,hi,ep,hacc,hbz,ht',hrl',h0',rfl⟩;have hi2:i<ks0.length:=by have:=(Iw.mp hcc).1;simpa[wd] using this
    obtain rfl:cc=(ks0[i]).c:=by
     have:(wd (ks0.map Kd.c)).cps[i]?=some (ks0[i]).c:=by unfold wd;rw[Jf,Ie,HV hi2];rfl
     rw[this] at hcc;exact (Option.some.inj hcc).symm
    rw[J9 hi2,iD] at ep;generalize ks0[i]=k at *;have hR':=hR.1;unfold aQ;refine aq λM hM=>?_;exists aF ht';rw[hM];clear hM M;refine aq λM hM=>?_;have go:∀v G,KB [] H' G->FZ G v (uj [c0,c1,c2] z b k)->M [some (.ref a),some (.str (wd z)),some (.int (p:Nat)),some v,some (.ref rl),some (.str ⟨#[k.c]⟩),some (.int (b:Nat))] G:=λv G kG o=>by
     rw[hM];clear hM M;refine aq λM hM=>?_
     cases c3:uj [c0,c1,c2] z b k with
     |none =>
      rw[c3] at ep o;obtain rfl:v=.aJ:=o;have ep':iD [c0,c1,c2] z ks0 e=none:=ep;walk_at "rz";exact q' _ _ (h0'.trans kG) (by rw[ep'])
     |some x =>
      rw[c3] at ep o;obtain⟨t5,rfl,ht5⟩:=o;exists if_neg (show ¬ V.ref t5=V.aJ from V.noConfusion);rw[hM];clear hM M;dsimp only;refine mL λM hM=>?_;have at8:cq (Str.ofString "abcdefgh").cps.toList (x.1.n % 8)=some (97+(x.1.n % 8).toNat):=wG (by lia) (by lia)
      have hk:=En hR' c3;have hr5:=kG _ _ hrl' (by simp)
      exists aF ht5,at8;refine⟨.inl ⟨rfl,_,bz.of hr5⟩,by decide,by decide +kernel,by decide,λl7 hl7=>?_⟩
      have k7:KB [] G (upd G l7 (.lst [.str ⟨#[97+(x.1.n % 8).toNat]⟩,.int x.1.n])):=KB.new hl7;generalize upd G l7 (.lst [.str ⟨#[97+(x.1.n % 8).toNat]⟩,.int x.1.n])=G7 at *;rw[hk];have hr7:=k7 _ _ hr5 (by simp)
      refine⟨rl,_,_,rfl,rfl,hr7,ID (show _<4 by rw[Iq,HY];lia) (by decide),?_⟩
      rw[hM];have ht7:=k7 _ _ ht5 (by simp)
      have nt:t5≠rl:=λz=>by rw[z,hr7] at ht7;cases ht7
      refine⟨acc++[x],x.2,x.1.n,t5,some _,some _,hi2,?_,by rw[HX,hacc];rfl,(mE hR' c3).2.1,by rw[ae nt];exact ht7,by rw[aa,IB];rfl,KF ((h0'.trans kG).trans k7),rfl⟩
      rw[ep,M5]
      cases iD [c0,c1,c2] z (ks0.drop (i+1)) x.2 with
      |none=>rfl
      |some y=>show some (acc++(x::y.1),y.2)=some ((acc++[x])++y.1,y.2);rw[II];rfl
    have gT':=h0' _ _ gT (by simp)
    have nd:∀{t:Addr} {ws:List (List Nat)},tI H t ws->tI H' t ws:=λh=>h.keep h0' (by simp)
    cases k with
    |box =>
     exists Ig (by decide +kernel:(⟨#[Kd.c .box]⟩:Str)=Str.ofString "b"),aA gT'
     exact⟨t2,c2,z,b,rfl,nd T2,f2,m2,hz,by lia,λv G kG o=>go v G kG (Ar o)⟩
    |num =>
     exists H_ (by decide +kernel:¬ (⟨#[Kd.c .num]⟩:Str)=Str.ofString "b"),Ig (by decide +kernel:(⟨#[Kd.c .num]⟩:Str)=Str.ofString "n"),aA gT'
     exact⟨t1,c1,z,b,rfl,nd T1,f1,m1,by lia,hb,hz,by lia,λv G kG o=>go v G kG (Ay o)⟩
    |go =>
     exists H_ (by decide +kernel:¬ (⟨#[Kd.c .go]⟩:Str)=Str.ofString "b"),H_ (by decide +kernel:¬ (⟨#[Kd.c .go]⟩:Str)=Str.ofString "n")
     exact⟨z,b,rfl,hb,hz,by lia,λv G kG o=>go v G kG (CY o)⟩
   ·rintro σ H' ⟨acc,b,x0,t,o5,o6,_,ep,_,_,ht',hrl',h0',rfl⟩;have e0:(wd (ks0.map Kd.c)).cps.size=ks0.length:=by unfold wd;simp
    rw[e0,Kc] at ep;have ep':iD [c0,c1,c2] z ks0 e=some (acc,b):=by rw[ep];show some (acc++[],b)=_;rw[Jd]
    rw[ep'] at q';show N _ _;rw[hN];clear hN N;exists aA hrl';intro rt hrt;have k7:KB [] H' (upd H' rt (.tup (.str W::acc.map λx=>x.1.l))):=KB.new hrt;have s7:upd H' rt (.tup (.str W::acc.map λx=>x.1.l)) rt=_:=aa;generalize upd H' rt (.tup (.str W::acc.map λx=>x.1.l))=H7 at *;exists aF (k7 _ _ ht' (by simp))
    refine⟨by decide,λtt htt=>q' _ _ ((h0'.trans k7).trans (KB.new htt)) ⟨tt,rt,rfl,aa,?_⟩⟩
    rw[ae (ao s7 htt),s7]
theorem qH{g:TG}{tb:TS}{D:Ends}{b c:Addr}{zs:List V}{n:Nat}(hxy:xs.length<=ys.length)(hxz:xs.length<=zs.length)(Pv:Nat->L2.St->Hp->Prop)(h0:Pv 0 σ H)(hl:∀i σ H,Pv i σ H->bz K H a xs/\bz K H b ys/\bz K H c zs)
  (hs:∀i x y z σ H p,xs[i]?=some x->ys[i]?=some y->zs[i]?=some z->Pv i σ H->H p=none->g (.ref p) σ (upd H p (.tup [x,y,z])) λσ2 H2=>tb {D with nx:=Pv (i+1),ct:=Pv (i+1),bk:=D.nx} σ2 H2) (hd:∀σ H,Pv xs.length σ H->D.nx σ H):oh (yW K (dU n [(true,a),(true,b),(true,c)])) g tb D σ H:=by
 refine⟨λi m σ H=>m=xs.length-i/\i<=xs.length/\Pv i σ H,⟨xs.length,by simp,Iv _,h0⟩,?_⟩
 rintro i m σ H ⟨rfl,hi,p⟩;obtain⟨q1,q2,q3⟩:=hl i σ H p;have q1':iw K true H a xs:=q1;have q2':iw K true H b ys:=q2;have q3':iw K true H c zs:=q3;by_cases hlt:i<xs.length
 ·have hl2:i<ys.length:=by lia
  have hl3:i<zs.length:=by lia
  refine .inr ⟨⟨[xs[i],ys[i],zs[i]],.cons ⟨xs,q1',by simp[hlt]⟩ (.cons ⟨ys,q2',by simp[hl2]⟩ (.cons ⟨zs,q3',by simp[hl3]⟩ .nil))⟩,Pv (i+1),λσ' H' p'=>⟨xs.length-(i+1),by lia,rfl,hlt,p'⟩,λx H' z=>?_⟩
  obtain⟨c',vs,pr,fr,rfl,rfl⟩:=z;obtain⟨v1,vs,rfl,e1,pr⟩:=Paired.d6 pr;obtain⟨v2,vs,rfl,e2,pr⟩:=Paired.d6 pr;obtain⟨v3,vs,rfl,e3,pr⟩:=Paired.d6 pr;cases pr;exact hs i v1 v2 v3 σ H c' (e1 xs q1') (e2 ys q2') (e3 zs q3') p fr
 ·have e:i=xs.length:=by lia
  subst e;exact .inl ⟨⟨[],(true,n,a),_,[],rfl,.nil,xs,q1',rfl⟩,hd σ H p⟩
theorem Fy(k:Int)(l:List Nat):iU (.int k) (iV (nZ l))=decide (k∈l.map λj:Nat=>(j:Int)):=by
 unfold iU iV nZ
 induction l with
 |nil=>rfl
 |cons a l ih =>
  rw[IA,IA,Lb,ih];show (decide (((a:Nat):Int)=k) || _)=_;by_cases c:((a:Nat):Int)=k
  ·rw[IM c,Bool.true_or,<- c];exact (IM Ij).symm
  ·rw[IE c,Bool.false_or];exact JP.mpr ⟨Ik _,λh=>(Ih.mp h).resolve_left λe=>c e.symm⟩
theorem Ae(l:List Nat):(iV (nZ l)).all cA=true:=by
 unfold iV nZ
 induction l with
 |nil=>rfl
 |cons a l ih=>rw[IA,IA,JO,ih];rfl
theorem uC{k:Int}{E:List Int}(h:k∈E):E[E.idxOf k]?=some k/\∀m,m<E.idxOf k->E[m]?≠some k:=by
 induction E with
 |nil=>cases h
 |cons a E ih =>
  rw[List.idxOf_cons];by_cases c:a=k
  ·subst c;rw[Ka,cond_true];exact⟨rfl,λm hm=>absurd hm (LQ _)⟩
  ·rw[Jn.mpr c,cond_false];obtain⟨i1,i2⟩:=ih ((Ih.mp h).resolve_left λe=>c e.symm);refine⟨i1,λm hm=>?_⟩
   cases m with
   |zero=>intro z;exact c (Option.some.inj z)
   |succ m=>exact i2 m (by lia)
noncomputable def BU(H:Hp)(t:Addr):Nat ⊕ List bp->Prop
 |.inl p=>H t=some (.tup [.str "bad",.int (p:Nat)])
 |.inr ms=>∃u,H t=some (.tup [.str "rows",.ref u])/\Em H u ms
theorem BU.kb{t:Addr}{o:Nat ⊕ List bp}(h:BU H t o)(k:KB [] H H'):BU H' t o:=by
 cases o with
 |inl p=>exact k _ _ h (by simp)
 |inr ms=>obtain⟨u,h1,h2⟩:=h;exact⟨u,k _ _ h1 (by simp),h2.kb k⟩
theorem xw(r:bp)(e:Int):cY (r.rel e)=(cY r).map (· - e):=by cases r<;>rfl
theorem yq{r:bp}{e:Int}(h:cY r=some g)(j:Int):(r.rel e).setG j=r.setG j:=by cases r<;>first|rfl|cases h
theorem C6{r:bp}(e:Int)(h:cY r=none):r.rel e=r:=by cases r<;>first|rfl|cases h
theorem Ao.kb{cd:List (List (List Nat))}(h:Ao H a cd)(k:KB [] H H'):Ao H' a cd:=by
 obtain⟨t0,t1,t2,e,h0,h1,h2⟩:=h;have n:∀b∈([]:List Addr),∀kvs,H b≠some (.dK kvs):=λb hb=>absurd hb IT;exact⟨t0,t1,t2,k _ _ e (by simp),h0.keep k n,h1.keep k n,h2.keep k n⟩
noncomputable def q_:Sp:=λvs H Q _=>∃(b:Addr) (bk:List (List Int)) (z:List Nat),vs=[.str (wd z),.ref b]/\rj H b bk/\Bk bk/\cQ z/\z.length<=10000/\∀t H',KB [] H H'->BU H' t (DP (gu bk) z)->Q (.ref t) H'
theorem wu(T:Txt K mg)(F:HasFn K mg "_law_read" fz ["bits","book"])(h_law_tables:ai P w K mg base bf 3 "_law_tables" ["book"] (nO K))(h_law_row_at:ai P w K mg base bf 3 "_law_row_at" ["tables","bits","at"] (vM K)):ai P w K mg base bf 4 "_law_read" ["bits","book"] q_:=by
 refine F.fN aX (λvs H Q E h=>?_) (λf cdv A outer s H vs Q E hr h=>?_)
 ·obtain⟨b,bk,z,rfl,_⟩:=h;rfl
 ·have hu:=ba hr;obtain⟨b,bk,z,rfl,hb,hB,hz,hzl,q⟩:=h;have hRl:=oU hB;have hR:=hRl.1;refine⟨_,(Z.ag (Z.se (i:=2) aX.nd (Z.fc h_law_tables (Z.cons (Z.v 1) Z.nil)))
   (Z.ag (Z.se (i:=3) aX.nd (Z.lst Z.nil))
   (Z.ag (Z.se (i:=4) aX.nd (Z.lst (Z.cons Z.int Z.nil)))
   (Z.ag (Z.p9 IK (Z.aR iK (Z.ix (Z.aC K rfl hu) (Z.v 4) (Z.un cF Z.int)) (Z.cb (Z.bB K rfl) rfl T.b8 (by decide +kernel) (Z.cons (Z.v 0) Z.nil))) (Z.ag (Z.se (i:=5) aX.nd (Z.fc h_law_row_at (Z.cons (Z.v 2) (Z.cons (Z.v 0) (Z.cons (Z.ix (Z.aC K rfl hu) (Z.v 4) (Z.un cF Z.int)) Z.nil)))))
   (Z.ag (Z.cN (Z.aR bQ (Z.v 5) Z.aJ) (Z.au (Z.ret (Z.tup (Z.cons Z.str (Z.cons (Z.ix (Z.aC K rfl hu) (Z.v 4) (Z.un cF Z.int)) Z.nil))))) Z.bo)
   (Z.ag (Z.expr (Z.app K (Z.v 3) (Z.cons (Z.ix (Z.aC K rfl hu) (Z.v 5) Z.int) Z.nil)))
   (Z.au (Z.expr (Z.app K (Z.v 4) (Z.cons (Z.ix (Z.aC K rfl hu) (Z.v 5) Z.int) Z.nil))))))))
   (Z.ag (Z.se (i:=6) aX.nd (Z.lst Z.nil))
   (Z.ag (Z.eW IK rfl (E4 K rfl rfl T.wq (Z.cons (Z.v 3) (Z.cons (Z.v 4) (Z.cons (Z.slice (Z.Am K rfl) (Z.v 4) (Z.jZ Z.int) Z.yo) Z.nil)))) (Z.oy (n:=3) K rfl rfl (Z.bP (Z.aT (i:=7) aX.nd rfl (by right)) (Z.bP (Z.aT (i:=8) aX.nd rfl (by right)) (Z.bP (Z.aT (i:=9) aX.nd rfl (by right)) Z.iE)))) (Z.ag (Z.cN (Z.aR (Z.yF K rfl hu) (Z.ix (Z.aC K rfl hu) (Z.v 7) Z.int) (Z.tup (Z.consts rfl))) (Z.ag (Z.cN (Z.aR (Z.Ab K rfl hu) (Z.op (Z.aK K rfl) (Z.v 9) (Z.ix (Z.aC K rfl hu) (Z.v 7) (Z.un cF Z.int))) (Z.v 4)) (Z.au (Z.ret (Z.tup (Z.cons Z.str (Z.cons (Z.v 8) Z.nil))))) Z.bo)
   (Z.au (Z.se (i:=7) aX.nd (Z.op (Z.aK K rfl) (Z.slice (Z.Am K rfl) (Z.v 7) Z.yo (Z.jZ (Z.un cF Z.int))) (Z.tup (Z.cons (Z.bm K rfl PySem.F.plainAttrs_list PySem.F.slot_list_index PySem.F.type_list_index Y.y6 (Z.v 4) (Z.cons (Z.op (Z.aK K rfl) (Z.v 9) (Z.ix (Z.aC K rfl hu) (Z.v 7) (Z.un cF Z.int))) Z.nil)) Z.nil)))))) Z.bo)
   (Z.au (Z.expr (Z.app K (Z.v 6) (Z.cons (Z.v 7) Z.nil))))))
   (Z.au (Z.ret (Z.tup (Z.cons Z.str (Z.cons (Z.ct (Z.e9 K rfl) rfl T.cU (by decide +kernel) (Z.cons (Z.v 6) Z.nil)) Z.nil))))))))))),?_⟩
  refine aq λN hN=>?_;walk_at "rz";refine⟨b,bk,rfl,hb,hB,hR.pf,λca H1 hca k1 cdl=>?_⟩;rw[hN];clear hN N;generalize gu bk=cd at *;have sl:=eZ (cd:=cd) (z:=z);have rl:(aS cd z).length<=10000:=by
   have:=gX (z:=z) hR (aS cd z).length (Ib _);lia
  have e0:(aH cd z).take 1=[0]:=rfl;have ra_:=λk (h:k<(aS cd z).length)=>mq (z:=z) hR h;have rd_:DP cd z=if (aH cd z).getD (aS cd z).length 0<z.length then .inl ((aH cd z).getD (aS cd z).length 0) else kj (aH cd z) (aS cd z) (aH cd z):=rfl
  have re_:=oP (z:=z) hR;have su:=λk (h:k<(aS cd z).length)=>iy (cd:=cd) (z:=z) h;have eb:=λk (h:k<=(aS cd z).length)=>(gX (z:=z) hR k h).2;generalize aH cd z=en at *;generalize aS cd z=l at *;refine aq λN hN=>?_;walk_at "rz";refine⟨Iv _,λra hra=>?_⟩;have k2:=KB.new (ex:=[]) (o:=.lst []) hra;have s2:upd H1 ra (.lst []) ra=some (.lst []):=aa;generalize upd H1 ra (.lst [])=H2 at *;rw[hN];clear hN N;refine aq λN hN=>?_;walk_at "rz";refine⟨by decide,λsa hsa=>?_⟩
  have k3:=KB.new (ex:=[]) (o:=.lst [.int 0]) hsa;have s3:upd H2 sa (.lst [.int 0]) sa=some (.lst (iV (nZ (en.take (0+1))))):=by rw[aa,Ls,e0];rfl
  have s23:=k3 _ _ s2 (by simp)
  have k13:=k2.trans k3;have hsa1:H1 sa=none:=k2.free (by simp) hsa
  have nrs:ra≠sa:=λz=>by rw[z,hsa] at s2;cases s2
  generalize upd H2 sa (.lst [.int 0])=H3 at *;rw[hN];clear hN N;refine aq λN hN=>?_;refine⟨λm σ H'=>∃(k:Nat) (as:List Addr) (o5:Option V),k<=l.length/\m=l.length-k/\KB [] H1 H'/\H' ra=some (.lst (as.map V.ref))/\MA H' as ((l.take k).map λx=>(lI x).rel x.2)/\H' sa=some (.lst (iV (nZ (en.take (k+1)))))/\σ=[some (.str (wd z)),some (.ref b),some (.ref ca),some (.ref ra),some (.ref sa),o5,none,none,none,none],⟨l.length,0,[],none,Iv _,rfl,k13,s23,⟨rfl,λi q r e=>nomatch e⟩,s3,rfl⟩,?_⟩;rintro m σ H' ⟨k,as,o5,hk,rfl,hkb,gr,pm,gs,rfl⟩;have es:cq (iV (nZ (en.take (k+1)))) (-1)=some (.int ((en.getD k 0:Nat):Int)):=by
   rw[iQ (show k<en.length by lia),iS]
   exact gZ _ _
  exists aA gs,es,av;refine⟨Ia hzl (by decide),?_⟩
  by_cases c:((en.getD k 0:Nat):Int)<(z.length:Int)
  ·rw[Ig c];refine⟨λσ' H'=>∃m',m'<l.length-k/\∃(k:Nat) (as:List Addr) (o5:Option V),k<=l.length/\m'=l.length-k/\KB [] H1 H'/\H' ra=some (.lst (as.map V.ref))/\MA H' as ((l.take k).map λx=>(lI x).rel x.2)/\H' sa=some (.lst (iV (nZ (en.take (k+1)))))/\σ'=[some (.str (wd z)),some (.ref b),some (.ref ca),some (.ref ra),some (.ref sa),o5,none,none,none,none],λ_ _ h=>h,?_⟩;refine⟨ca,cd,z,_,rfl,Ao.kb cdl hkb,hRl,hz,by lia,by lia,λv H5 k5 o=>?_⟩
   rcases Jb k l.length with hlt|hge
   ·obtain⟨_,x1⟩:=ra_ k hlt;rw[x1] at o;obtain⟨m1,m2,m3,m4,m5⟩:=zK hR x1;obtain⟨t,r,rfl,ht,hr'⟩:=o;rw[m3] at hr';rw[H_ (show ¬ V.ref t=V.aJ from V.noConfusion)];have gr5:=k5 _ _ gr (by simp)
    have gs5:=k5 _ _ gs (by simp)
    have pm5:=pm.keep k5 (NT.nil _);have pl:=pm.1;rw[HY,IF] at pl;refine⟨.inl ⟨rfl,_,bz.of gr5⟩,?_⟩;show AE K (V.ref t) (.int 0) H5 _;exists aF ht;refine⟨ra,_,_,rfl,rfl,gr5,Ja (show _<=10000 by rw[HY];lia) (by decide),?_⟩
    have er:as.map V.ref++[V.ref r]=(as++[r]).map V.ref:=by rw[IB];rfl
    rw[er];have gr6:upd H5 ra (.lst ((as++[r]).map V.ref)) ra=_:=aa;have k56:KB [ra] H5 (upd H5 ra (.lst ((as++[r]).map V.ref))):=KB.set (by simp)
    generalize upd H5 ra (.lst ((as++[r]).map V.ref))=H6 at *;have ntr:=gg gr5;have hr6:=k56 _ _ hr' λz=>ntr _ z _ hr';have pm6:=(pm5.keep k56 ntr).snoc hr6;have ht6:=k56 _ _ ht λz=>ntr _ z _ ht;have gs6:=k56 _ _ gs5 (by simpa using nrs.symm)
    have kf:KB [] H1 H6:=λu o e _=>k56 _ _ (k5 _ _ (hkb _ _ e (by simp)) (by simp)) (by simpa using ao e hra)
    refine⟨.inl ⟨rfl,_,bz.of gs6⟩,?_⟩;exists aF ht6;refine⟨sa,_,_,rfl,rfl,gs6,Ja (show _<=10001 by rw[cu,IF];lia) (by decide),?_⟩
    rw[<- su k hlt,<- iS,<- iQ (show k+1<en.length by lia)]
    refine⟨l.length-(k+1),by lia,k+1,as++[r],_,hlt,rfl,λu o e _=>?_,?_,?_,aa,rfl⟩
    ·rw[ae (ao e hsa1)];exact kf _ _ e (by simp)
    ·rw[ae nrs];exact gr6
    ·rw[show l.take (k+1)=l.take k++[l[k]] by rw[JQ,HV hlt];rfl,IB]
     exact pm6.keep (KB.set (ex:=[sa]) (by simp)) (gg gs6)
   ·have hkn:k=l.length:=by lia
    subst hkn;have c':en.getD l.length 0<z.length:=by lia
    rw[re_ c'] at o;obtain rfl:v=.aJ:=o;rw[Ig rfl];exists aA (k5 _ _ gs (by simp)),es
    refine⟨by decide,λt ht=>q t _ (k1.trans (hkb.trans (k5.trans (KB.new ht)))) ?_⟩
    rw[rd_,Ig c'];exact aa
  ·have hkn:k=l.length:=by
    rcases Jb k l.length with h|h
    ·exact absurd (by have:=(ra_ k h).1;lia) c
    ·lia
   subst hkn;rw[H_ c];show N _ _;rw[hN];clear hN N;rw[Jy] at pm;rw[Ji (show en.length<=l.length+1 by lia)] at gs
   rw[H_ (by lia)] at rd_
   clear es s3 s23 k13 c;have al:=pm.1;rw[HY] at al;have k0':=k1.trans hkb;refine aq λN hN=>?_;walk_at "rz";refine⟨Iv _,λpr hpr=>?_⟩;have k4:=KB.new (ex:=[]) (o:=.lst []) hpr;have s4:upd H' pr (.lst []) pr=some (.lst []):=aa;have gr4:=k4 _ _ gr (by simp)
   have gs4:=k4 _ _ gs (by simp)
   have pm4:=pm.keep k4 (NT.nil _);generalize upd H' pr (.lst [])=H4 at *;rw[hN];clear hN N;refine aq λN hN=>?_;walk_at "rz";rw[wB];exists aA gs4;intro ta hta;have k5:=KB.new (ex:=[]) (o:=.lst (eE (iV (nZ en)) (some 1) none)) hta;have s5:upd H4 ta (.lst (eE (iV (nZ en)) (some 1) none)) ta=_:=aa;have gr5:=k5 _ _ gr4 (by simp)
   have gs5:=k5 _ _ gs4 (by simp)
   have pm5:=pm4.keep k5 (NT.nil _);have s45:=k5 _ _ s4 (by simp)
   generalize upd H4 ta (.lst (eE (iV (nZ en)) (some 1) none))=H5 at *;rw[show (some (1:Int))=some ((1:Nat):Int) from rfl,vp] at s5;have hpr5:H' pr=none:=hpr;have nrp:ra≠pr:=λz=>by rw[z,hpr] at gr;cases gr
   have nsp:sa≠pr:=λz=>by rw[z,hpr] at gs;cases gs
   have ntp:ta≠pr:=λz=>by rw[z,s4] at hta;cases hta
   refine⟨(true,ra),(true,sa),(true,ta),⟨rfl,rfl,rfl⟩,⟨_,bz.of gr5⟩,⟨_,bz.of gs5⟩,⟨_,bz.of s5⟩,λn=>?_⟩;refine qH (xs:=as.map V.ref) (ys:=iV (nZ en)) (zs:=(iV (nZ en)).drop 1) (by rw[HY,cu];lia) (by rw[HY,IQ,cu];lia) (λi σ G=>∃(ps:List Addr) (ms:List bp) (o7 o8 o9:Option V),i<=l.length/\KB [pr] H5 G/\KB [] H' G/\G pr=some (.lst (ps.map V.ref))/\(l.take i).map (gm en)=ms.map some/\MA G ps ms/\σ=[some (.str (wd z)),some (.ref b),some (.ref ca),some (.ref ra),some (.ref sa),o5,some (.ref pr),o7,o8,o9]) ⟨[],[],none,none,none,Iv _,KB.refl _ _,k4.trans k5,s45,rfl,⟨rfl,λj p r e=>nomatch e⟩,rfl⟩ (λi σ G h=>by
    obtain⟨_,_,_,_,_,_,kG,_⟩:=h;exact⟨bz.of (kG _ _ gr5 (by simpa using nrp)),bz.of (kG _ _ gs5 (by simpa using nsp)),bz.of (kG _ _ s5 (by simpa using ntp))⟩) ?_ ?_
   ·rintro i x y w σ G p hx hy hw ⟨ps,ms,o7,o8,o9,hi,kG,kG',gp,e3,pa,rfl⟩ hp;obtain⟨u,eu,rfl⟩:∃u,as[i]?=some u/\x=.ref u:=by
     rw[Ie] at hx;obtain⟨u,e,rfl⟩:=IC.mp hx;exact⟨u,e,rfl⟩
    have hlt:i<l.length:=by have:=(HZ.mp eu).1;lia
    have er:=HV hlt;have een:=HV (show i<en.length by lia)
    have ey:y=.int ((en[i]:Nat):Int):=by
     unfold iV nZ at hy;rw[Ie,Ie,een] at hy;exact (Option.some.inj hy).symm
    have ew:w=.int ((l[i].2:Nat):Int):=by
     have e2:=su i hlt;rw[Ic,HV (show i+1<en.length by lia)] at e2
     have e2':en[i+1]=l[i].2:=e2;unfold iV nZ at hw;rw[JF,Ie,Ie,Nat.add_comm 1 i,HV (show i+1<en.length by lia),e2'] at hw
     exact (Option.some.inj hw).symm
    subst ey;subst ew;have ta_:l.take (i+1)=l.take i++[l[i]]:=by rw[JQ,er];rfl
    have hu5:=pm5.2 i u _ eu (by rw[Ie,er];rfl)
    have nup:u≠pr:=λz=>by rw[z,s45] at hu5;cases hu5
    have hu6:=kG _ _ hu5 (by simpa using nup)
    generalize hx0:l[i]=x0 at *;unfold aQ;refine⟨p,_,rfl,bq.of aa,rfl,_,_,rfl,_,_,rfl,_,_,rfl,rfl,?_⟩;have kz:=KB.new (ex:=[]) (o:=.tup [.ref u,.int ((en[i]:Nat):Int),.int ((x0.2:Nat):Int)]) hp;have hu7:=kz _ _ hu6 (by simp)
    have gp7:=kz _ _ gp (by simp)
    have gs7:=kz _ _ (kG _ _ gs5 (by simpa using nsp)) (by simp)
    have pa7:=pa.keep kz (NT.nil _);generalize upd G p (.tup [.ref u,.int ((en[i]:Nat):Int),.int ((x0.2:Nat):Int)])=G7 at *;have kG7:KB [pr] H5 G7:=kG.trans kz.all;have kG7':=kG'.trans kz;dsimp only;refine aq λM hM=>?_;have pl:=pa.1;have ml:=congrArg List.length e3;rw[List.length_map,List.length_map,List.length_take] at ml;have fin:∀(r':bp),gm en x0=some r'->∀c G8,KB [] G7 G8->G8 c=some (.tup r'.vs)->∀o8,M [some (.str (wd z)),some (.ref b),some (.ref ca),some (.ref ra),some (.ref sa),o5,some (.ref pr),some (.ref c),some (.int ((en[i]:Nat):Int)),o8] G8:=λr' e c G8 k8 hc o8=>by
     rw[hM];clear hM M;have gp8:=k8 _ _ gp7 (by simp)
     have nc:c≠pr:=λz=>by rw[z,gp8] at hc;cases hc
     refine mL λM hM=>?_;walk_at "rz";refine⟨.inl ⟨rfl,_,bz.of gp8⟩,pr,_,_,rfl,rfl,gp8,Ja (show _<=10000 by rw[HY];lia) (by decide),?_⟩
     rw[hM,show ps.map V.ref++[V.ref c]=(ps++[c]).map V.ref by rw[IB];rfl]
     refine⟨ps++[c],ms++[r'],_,_,_,hlt,λu o e z=>?_,λu o e _=>?_,aa,by rw[ta_,IB,IB,e3,IA,e];rfl,((pa7.keep k8 (NT.nil _)).snoc hc).keep (KB.set (ex:=[pr]) (by simp)) (gg gp8),rfl⟩
     ·rw[ae (by simpa using z)];exact k8 _ _ (kG7 _ _ e z) (by simp)
     ·rw[ae (ao e hpr5)];exact k8 _ _ (kG7' _ _ e (by simp)) (by simp)
    refine uG λA B hA hB=>?_;obtain⟨zz,ea0,hcase⟩:∃zz:Str,cq ((lI x0).rel x0.2).vs 0=some (.str zz)/\((iU (.str zz) [.str "jump",.str "zero"]=true/\∃g,cY (lI x0)=some g)\/iU (.str zz) [.str "jump",.str "zero"]=false/\cY (lI x0)=none):=by
     cases lI x0 with
     |jump g=>exact⟨_,rfl,.inl ⟨by decide +kernel,g,rfl⟩⟩
     |zero b g=>exact⟨_,rfl,.inl ⟨by decide +kernel,g,rfl⟩⟩
     |put b n=>exact⟨_,rfl,.inr ⟨by decide +kernel,rfl⟩⟩
     |two u b c=>exact⟨_,rfl,.inr ⟨(show ∀u,iU (.str (w2 u)) [.str "jump",.str "zero"]=false by decide +kernel) u,rfl⟩⟩
     |one u b=>exact⟨_,rfl,.inr ⟨(show ∀u,iU (.str (w1 u)) [.str "jump",.str "zero"]=false by decide +kernel) u,rfl⟩⟩
     |halt=>exact⟨_,rfl,.inr ⟨by decide +kernel,rfl⟩⟩
    exists aF hu7,ea0;refine⟨by decide,λtj htj=>⟨rfl,rfl,?_⟩⟩
    have k8:=KB.new (ex:=[]) (o:=.tup [.str "jump",.str "zero"]) htj;have hu8:=k8 _ _ hu7 (by simp)
    have gs8:=k8 _ _ gs7 (by simp)
    generalize upd G7 tj (.tup [.str "jump",.str "zero"])=G8 at *;rcases hcase with ⟨h1,g,hg⟩|⟨h1,hg⟩
    ·have egr:cY ((lI x0).rel x0.2)=some (g-x0.2):=by rw[xw,hg];rfl
     obtain⟨xs,x1,x2,x3,x4⟩:=bp.gL egr;have eal:cq ((lI x0).rel x0.2).vs (-1)=some (.int (g-x0.2)):=by rw[x3];exact gZ _ _
     exists h1;show A _ _;rw[hA];clear hA hB;refine aq λM2 hM2=>?_;refine uG λA B hA hB=>?_;exists aF hu8,eal,aA gs8;rw[show ((x0.2:Nat):Int)+(g-((x0.2:Nat):Int))=g by lia]
     refine⟨rfl,Ae _,?_⟩;rw[Fy];by_cases cm:g∈en.map λn:Nat=>(n:Int)
     ·rw[decide_eq_true cm];show B _ _;rw[hB];show M2 _ _;rw[hM2];clear hM2 M2 hA hB A B;exists aF hu8,eal;have hv8:G8 u=some (.tup (xs++[.int (g-x0.2)])):=by rw[hu8];dsimp only;rw[x3]
      refine⟨u,_,rfl,bq.of hv8,λy=>?_,λp1 hp1=>⟨.inl ⟨rfl,iV (nZ en),bz.of ?_⟩,?_⟩⟩
      ·have h1:=y.2;have e0:HT.bE (xs++[V.int (g-x0.2)]).length (xs++[V.int (g-x0.2)]).length (some (-1))=xs.length:=by
        unfold HT.bE;simp only[show ((-1:Int)<0)=True from eq_true (by decide),KG,HX,Iq,Je]
        lia
       rw[e0,HX] at h1;simp at h1
      ·rw[ae (ao gs8 hp1)];exact gs8
      rw[n9];have k9:=KB.new (ex:=[]) (o:=.tup xs) hp1;have s9:upd G8 p1 (.tup xs) p1=_:=aa;have hu9:=k9 _ _ hu8 (by simp)
      have gs9:=k9 _ _ gs8 (by simp)
      generalize upd G8 p1 (.tup xs)=G9 at *;have cm':=uC cm;have ec:((x0.2:Nat):Int)+(g-((x0.2:Nat):Int))=g:=by lia
      exists aF hu9,eal,ec;refine⟨sa,en.map (λn:Nat=>(n:Int)),g,(en.map λn:Nat=>(n:Int)).idxOf g,rfl,gs9,rfl,cm'.1,cm'.2,by decide,λp2 hp2=>?_⟩
      have k10:=KB.new (ex:=[]) (o:=.tup [.int (((en.map λn:Nat=>(n:Int)).idxOf g:Nat):Int)]) hp2;have s10:upd G9 p2 (.tup [.int (((en.map λn:Nat=>(n:Int)).idxOf g:Nat):Int)]) p2=_:=aa;have s910:=k10 _ _ s9 (by simp)
      generalize upd G9 p2 (.tup [.int (((en.map λn:Nat=>(n:Int)).idxOf g:Nat):Int)])=G10 at *;simp only[L2.Ap.addRef,s910,s10];refine⟨x1,by simp,Ia (show _<=3 by simp;lia) (by decide),λp3 hp3=>?_⟩
      refine fin ((lI x0).setG (((en.map λn:Nat=>(n:Int)).idxOf g:Nat):Int)) (by unfold gm;rw[hg];dsimp only;rw[if_pos cm]) p3 _ (k8.trans (k9.trans (k10.trans (KB.new hp3)))) ?_ _
      rw[aa,<- yq hg,x4]
     ·rw[IE cm];show A _ _;rw[hA];walk_at "rz";refine⟨by decide,λt ht=>q t _ (k0'.trans (kG7'.trans (k8.trans (KB.new ht)))) ?_⟩
      rw[rd_,lV (x:=x0) e3 er (by unfold gm;rw[hg];dsimp only;rw[if_neg cm]) een]
      exact aa
    ·exists h1;show B _ _;rw[hB];show M _ _;exact fin (lI x0) (by unfold gm;rw[hg]) u G8 k8 (by rw[hu8];dsimp only;rw[C6 _ hg]) _
   ·rintro σ G ⟨ps,ms,o7,o8,o9,_,kG,kG',gp,e3,pa,rfl⟩;rw[HY,al,Jy] at e3;show N _ _;rw[hN];clear hN N;exists aA gp;intro u hu';have k6:=KB.new (ex:=[]) (o:=.tup (ps.map V.ref)) hu';have s6:upd G u (.tup (ps.map V.ref)) u=_:=aa;have pa6:=pa.keep k6 (NT.nil _);generalize upd G u (.tup (ps.map V.ref))=G6 at *;refine⟨by decide,λt ht=>q t _ (k0'.trans (kG'.trans (k6.trans (KB.new ht)))) ?_⟩
    rw[rd_,qK (by lia) e3]
    exact⟨u,aa,ps,by rw[ae (ao s6 ht)];exact s6,pa6.keep (KB.new ht) (NT.nil _)⟩
noncomputable def Ec(K:W.Frag)(mg:Str->Option Value)(P:Program)(w:World)(base:Heap):Prop:=∀N,mg "NoBits"=some (.ref N)->ai P w K mg base (mM P w) 7 "read_rows" ["bits","book"] (rD N)
noncomputable def qT:Sp:=λvs H Q _=>∃(b:Addr) (bk:List (List Int)) (z:List Nat),vs=[.str (wd z),.ref b]/\rj H b bk/\Bk bk/\cQ z/\z.length<=10000/\∀t H',KB [] H H'->BU H' t (DP (gu bk) z)->Q (.ref t) H'
theorem xC(T:Txt K mg)(F:HasFn K mg "_law_found" eN ["bits","book"])(hR:Ec K mg P w base):ai P w K mg base bf 8 "_law_found" ["bits","book"] qT:=by
 obtain⟨C_ShortError,C_NoBits,hC_ShortError,hC_NoBits,kC_ShortError,xC_NoBits,p0,fI,fdI,xI_NoBits,FI,bI_NoBits,hd⟩:=T.xs;have hread_rows:=hR _ hC_NoBits;refine F.fN bN (λvs H Q E h=>?_) (λf cdv A outer s H vs Q E hr h=>?_)
 ·obtain⟨b,bk,z,rfl,_⟩:=h;rfl
 ·have hu:=ba hr;obtain⟨b,bk,z,rfl,hb,hB,hz,hl,q⟩:=h;refine⟨_,(Z.ag (Z.se (i:=2) bN.nd Z.aJ)
   (Z.ag (Z.se (i:=3) bN.nd Z.aJ)
   (Z.ag (Z.Hk (i:=4) K hC_NoBits xI_NoBits.Az bN.nd (λ_ _ _ hD=>(Z.au (Z.se (i:=2) bN.nd (Z.fX hD hread_rows (Z.cons (Z.v 0) (Z.cons (Z.v 1) Z.nil)))))) (λ_=>(Z.au (Z.se (i:=3) bN.nd (Z.HH K (Z.v 4))))))
   (Z.ag (Z.cN (Z.aR bQ (Z.v 2) Z.aJ) (Z.au (Z.ret (Z.tup (Z.cons Z.str (Z.cons (Z.v 3) Z.nil))))) Z.bo)
   (Z.au (Z.ret (Z.tup (Z.cons Z.str (Z.cons (Z.v 2) Z.nil))))))))),?_⟩
  refine aq λN hN=>?_;walk_at "rz";rw[hN];clear hN N;refine aq λN hN=>?_;walk_at "rz";rw[hN];clear hN N;refine aq λN hN=>?_;intro Dx hW;walk_at "rz";refine⟨b,bk,z,rfl,hb,hB,hz,hl,λp hp e dd H' hX=>⟨e,some dd,rfl,hX.2.2.2.1,λ_ _=>hW _ _ _ _ _ ⟨⟨C_NoBits,rfl,xI_NoBits.toAny,p0⟩,hX.2.2.2.1,?_⟩⟩,λms hm t H' k h=>?_⟩
  ·walk_at "rz";refine⟨e,dd,C_NoBits,_,rfl,hX.2.2.2.1,hX.2.2.2.2,xC_NoBits,hd,xI_NoBits.ha,?_⟩;show N _ _;rw[hN];clear hN N hW;walk_at "rz";refine⟨by decide,λt ht=>q t _ (hX.1.trans (KB.new ht)) ?_⟩
   rw[hp];exact aa
  ·rw[hN];clear hN N hW;refine aq λN hN=>?_;exists H_ (show ¬ V.ref t=V.aJ from V.noConfusion);rw[hN];clear hN N;walk_at "rz";refine⟨by decide,λt2 ht2=>q t2 _ (k.trans (KB.new ht2)) ?_⟩
   rw[hm];exact⟨t,aa,h.kb (KB.new ht2)⟩
noncomputable def Hm(H:Hp)(ca:Addr)(cd:List (List (List Nat))):Prop:=∃a0 a1 a2,H ca=some (.lst [.ref a0,.ref a1,.ref a2])/\H a0=some (.lst (wV (cd.getD 0 [])))/\H a1=some (.lst (wV (cd.getD 1 [])))/\H a2=some (.lst (wV (cd.getD 2 [])))
noncomputable def n5(cd:List (List (List Nat))):Pk->List Nat
 |.box b=>fV cd (2,b)
 |.num n=>fV cd (1,eR n)++(jD n).tail
 |.goal _=>[]
noncomputable def Pk.of(w:Str):Pk->Prop
 |.box _=>True
 |.num _=>w=Str.ofString "put"
 |.goal _=>w≠Str.ofString "put"
theorem BG(r:Row):∀p∈r.gv,p.of r.wd:=by
 cases r with
 |put b n=>intro p hp;simp only[Row.gv,Ih,IT,JW] at hp;rcases hp with rfl|rfl;exact trivial;exact rfl
 |two u a b=>intro p hp;simp only[Row.gv,Ih,IT,JW] at hp;rcases hp with rfl|rfl<;>exact trivial
 |one u b=>intro p hp;simp only[Row.gv,Ih,IT,JW] at hp;subst hp;exact trivial
 |jump g=>intro p hp;simp only[Row.gv,Ih,IT,JW] at hp;subst hp;show Str.ofString "jump"≠Str.ofString "put";decide +kernel
 |zero b g=>intro p hp;simp only[Row.gv,Ih,IT,JW] at hp;rcases hp with rfl|rfl;exact trivial;show Str.ofString "zero"≠Str.ofString "put";decide +kernel
 |halt=>intro p hp;cases hp
theorem qi(cd:List (List (List Nat)))(r:Row):dB cd r=fV cd (0,r.wi)++r.gv.flatMap (n5 cd):=by
 cases r<;>simp[dB,lK,Row.gv,Pk.Gr,n5,vx]
theorem Af(l:List Nat):Y.eY (wd l) (some 1) none=wd l.tail:=by
 unfold Y.eY wd;congr 2;show Y.gL l (some 1) none=l.tail;unfold Y.gL;rw[HT.dh,show (some (1:Int))=some ((1:Nat):Int) from rfl,HT.cK]
 cases l with
 |nil=>rfl
 |cons x l=>simp
theorem um(x:V)(xs:List V):eE (x::xs) (some 1) none=xs:=by
 unfold eE;rw[HT.dh,show (some (1:Int))=some ((1:Nat):Int) from rfl,HT.cK];simp
theorem xo{x:List Nat}(h:ws[i]?=some x):cq (wV ws) (i:Int)=some (.str (wd x)):=bI (by unfold wV;rw[Ie,h];rfl)
noncomputable def qY(K:W.Frag):Sp:=λvs H Q _=>∃(ra ca:Addr) (r:Row) (k:Nat) (cd:List (List (List Nat))),vs=[.ref ra,.ref ca]/\H ra=some (.tup r.vs)/\Hm H ca cd/\r.Ok k/\Cd cd/\∀H',KB [] H H'->Q (.str (wd (dB cd r))) H'
theorem uS(T:Txt K mg)(F:HasFn K mg "_law_plain" eI ["row","codes"])(h_law_words:ai P w K mg base bf 1 "_law_words" [] mC)(h_law_bits:ai P w K mg base bf 1 "_law_bits" ["number","many"] iY):ai P w K mg base bf 2 "_law_plain" ["row","codes"] (qY K):=by
 refine F.fN bM (λvs H Q E h=>?_) (λf cdv A outer s H vs Q E hr h=>?_)
 ·obtain⟨ra,ca,r,k,cd,rfl,_⟩:=h;rfl
 ·have hu:=ba hr;obtain⟨ra,ca,r,k,cd,rfl,hra,hca,aI,hC,q⟩:=h;obtain⟨a0,a1,a2,g,g0,g1,g2⟩:=hca;rw[Row.Be] at hra;rw[qi] at q;refine⟨_,(Z.ag (Z.se (i:=2) bM.nd (Z.ix (Z.aC K rfl hu) (Z.ix (Z.aC K rfl hu) (Z.v 1) Z.int) (Z.bm K rfl PySem.F.plainAttrs_list PySem.F.slot_list_index PySem.F.type_list_index Y.za (Z.HA h_law_words (hr.mono (by decide)) rfl xZ) (Z.cons (Z.ix (Z.aC K rfl hu) (Z.v 0) Z.int) Z.nil))))
   (Z.ag (Z.eW IK rfl (Z.any K rfl (Z.slice (Z.Am K rfl) (Z.v 0) (Z.jZ Z.int) Z.yo)) (Z.aT (i:=3) bM.nd rfl (by right)) (Z.au (Z.cN (Z.og K rfl (Z.cb (Z.jg K rfl) rfl T.bG Jj (Z.cons (Z.v 3) (Z.cons (Z.Dt (T:="str") rfl T.wN (by decide +kernel)) Z.nil)))) (Z.au (Z.se (i:=2) bM.nd (Z.op (Z.aK K rfl) (Z.v 2) (Z.ix (Z.aC K rfl hu) (Z.ix (Z.aC K rfl hu) (Z.v 1) Z.int) (Z.bm K rfl PySem.F.plainAttrs_str PySem.F.slot_str_index PySem.F.type_str_index Y.nL Z.str (Z.cons (Z.v 3) Z.nil)))))) (Z.au (Z.cN (Z.aR b7 (Z.ix (Z.aC K rfl hu) (Z.v 0) Z.int) Z.str) (Z.ag (Z.se (i:=4) bM.nd (Z.HM K rfl PySem.F.plainAttrs_int PySem.F.slot_int_bit_length PySem.F.type_int_bit_length Y.yX (Z.v 3)))
   (Z.au (Z.se (i:=2) bM.nd (Z.op (Z.aK K rfl) (Z.op (Z.aK K rfl) (Z.v 2) (Z.ix (Z.aC K rfl hu) (Z.ix (Z.aC K rfl hu) (Z.v 1) Z.int) (Z.v 4))) (Z.slice Y.dG (Z.fc h_law_bits (Z.cons (Z.v 3) (Z.cons (Z.v 4) Z.nil))) (Z.jZ Z.int) Z.yo))))) Z.bo)))))
   (Z.au (Z.ret (Z.v 2))))),?_⟩
  obtain⟨c0,c1,c2,rfl,l0,l1,l2⟩:=hC.ex;have w0:=hC.at (p:=(0,r.wi)) (.inl ⟨rfl,r.qS⟩);refine aq λN hN=>?_;exists aA g;refine⟨rfl,λl hl=>?_⟩;have k1:KB [] H (upd H l (.lst (aZ.map V.str))):=KB.new hl;have s1:upd H l (.lst (aZ.map V.str)) l=_:=aa;generalize upd H l (.lst (aZ.map V.str))=H1 at *;exists aF (k1 _ _ hra (by simp))
  refine⟨.inl ⟨rfl,_,bz.of s1⟩,l,aZ,r.wd,r.wi,rfl,s1,rfl,(AW r).1,(AW r).2,?_⟩;exists aA (k1 _ _ g0 (by simp)),xo w0.2.1
  rw[hN];clear hN N;refine aq λN hN=>?_;have hra1:=k1 _ _ hra (by simp)
  exists aF hra1;refine⟨ra,_,rfl,bq.of hra1,by rw[show (some (1:Int))=some ((1:Nat):Int) from rfl,HT.cK,Iq];lia,λt ht=>?_⟩
  rw[um];have k2:KB [] H1 (upd H1 t (.tup (r.gv.map Pk.v))):=KB.new ht;have s2:upd H1 t (.tup (r.gv.map Pk.v)) t=_:=aa;generalize upd H1 t (.tup (r.gv.map Pk.v))=H2 at *;have k02:=k1.trans k2;simp only[aF s2];have G:=k02 _ _ g (by simp)
  have G1:=k02 _ _ g1 (by simp)
  have G2:=k02 _ _ g2 (by simp)
  have GR:=k02 _ _ hra (by simp)
  refine jI (xs:=r.gv.map Pk.v) (λi σ H'=>H'=H2/\∃(x:List Nat) (o3 o4:Option V),x.length+60*(r.gv.drop i).length<=200/\fV [c0,c1,c2] (0,r.wi)++r.gv.flatMap (n5 [c0,c1,c2])=x++(r.gv.drop i).flatMap (n5 [c0,c1,c2])/\σ=[some (.ref ra),some (.ref ca),some (.str (wd x)),o3,o4]) ⟨rfl,_,none,none,?_,rfl,rfl⟩ (λi σ H' _ h=>by rw[h.1];exact bq.of s2) ?_ ?_
  ·have h1:r.gv.length<=2:=by cases r<;>simp[Row.gv]
   have h2:=w0.2.2;rw[J5];lia
  ·rintro i x σ H' hx ⟨rfl,y,o3,o4,hy,ea,rfl⟩;have hi:i<r.gv.length:=by have:=(HZ.mp hx).1;rw[HY] at this;exact this
   obtain rfl:x=(r.gv[i]).v:=by
    rw[Ie,HV hi] at hx;exact (Option.some.inj hx).symm
   have hp0:=Row.xO aI _ (List.getElem_mem hi);have hp1:=BG r _ (List.getElem_mem hi);rw[List.drop_eq_getElem_cons hi] at hy ea;rw[List.length_cons] at hy;generalize r.gv[i]=pk at *;unfold aQ;dsimp only;refine mL λM hM=>?_
   cases pk with
   |box b =>
    have hb:b<8:=hp0;have w2:=hC.at (p:=(2,b)) (.inr (.inr ⟨rfl,hb⟩));show lN _ _ _ _ [_,_,_,some (V.str (cX b)),_] _;exists (show gB "str" "str"=true from by decide +kernel),aA G
    refine⟨by decide,rfl,_,_,b,[],rfl,rfl,Hi hb,?_⟩
    exists aA G2,xo w2.2.1;rw[av,av,fe];refine⟨Ia (show _<=240 by have:=w2.2.2;lia) (by decide),?_⟩
    rw[hM];exact⟨rfl,y++fV [c0,c1,c2] (2,b),some _,o4,by rw[HX];have:=w2.2.2;lia,by rw[ea,KC,II];rfl,rfl⟩
   |num n =>
    have hn:n<65536:=hp0;have hb:=lW hn;have w1:=hC.at (p:=(1,eR n)) (.inr (.inl ⟨rfl,hb⟩));show lN _ _ _ _ [_,_,_,some (V.int (n:Nat)),_] _;exists (show gB "int" "str"=false from by decide +kernel),aF GR,Ig (show r.wd=Str.ofString "put" from hp1)
    refine⟨by decide,rfl,(n:Int),rfl,rfl,?_⟩
    rw[show ((Builtin.Int.intBits (n:Int):Nat):Int)=(eR n:Int) from rfl];exists aA G,aA G1,xo w1.2.1;have fl:(jD n).length=eR n:=zN n;have ft:(jD n).tail.length<=16:=by rw[List.length_tail];lia
    have h3:=w1.2.2;refine⟨by rw[av,av];exact Ia (show _<=300 by lia) (by decide),(n:Int),eR n,rfl,by lia,?_⟩
    rw[show cO (n:Int) (eR n) []=jD n from rfl];refine⟨_,rfl,by rw[av];exact Ia (show _<=20 by lia) (by decide),?_⟩
    rw[Af,fe];exists av;rw[fe];refine⟨Ia (show _<=300 by rw[HX];lia) (by decide),?_⟩
    rw[hM];exact⟨rfl,y++fV [c0,c1,c2] (1,eR n)++(jD n).tail,some _,some _,by rw[HX,HX];lia,by rw[ea,KC];simp[n5],rfl⟩
   |goal n =>
    show lN _ _ _ _ [_,_,_,some (V.int (n:Nat)),_] _;exists (show gB "int" "str"=false from by decide +kernel),aF GR,H_ (show r.wd≠Str.ofString "put" from hp1)
    refine⟨by decide,?_⟩
    rw[hM];exact⟨rfl,y,some _,o4,by lia,by rw[ea,KC];rfl,rfl⟩
  ·rintro σ H' ⟨rfl,x,o3,o4,_,ea,rfl⟩;rw[HY,Kc,List.flatMap_nil,Jd] at ea;show N _ _;rw[hN];clear hN N;walk_at "rz";rw[ea] at q;exact q _ k02
noncomputable def AN(K:W.Frag):Sp:=λvs H Q _=>∃(p dq b:Addr) (bk:List (List Int)) (most n:Nat),vs=[.ref p,.ref b,.int (most:Nat)]/\bt H p dq n/\n<2^30/\rj H b bk/\Bk bk/\0<most/\most<=40/\∀(z:List Nat) H',cQ z->z.length<=154*most->bt H' p dq (n+1+10*most)->KB [p,dq] H H'->Q (.str (wd z)) H'
theorem Bw(T:Txt K mg)(F:HasFn K mg "_law_raw_rows" b_ ["deck","book","most"])(h_law_code:ai P w K mg base bf 2 "_law_code" ["lengths"] (l_ K))(h_law_plain:ai P w K mg base bf 2 "_law_plain" ["row","codes"] (qY K))(h_law_row:ai P w K mg base bf 4 "_law_row" ["deck","goals"] (AS K))(h_law_draw:ai P w K mg base bf 2 "_law_draw" ["deck","most"] eM)(h_law_bits:ai P w K mg base bf 1 "_law_bits" ["number","many"] iY):ai P w K mg base bf 5 "_law_raw_rows" ["deck","book","most"] (AN K):=by
 refine F.fN az (λvs H Q E h=>?_) (λf cdv A outer s H vs Q E hr h=>?_)
 ·obtain⟨p,dq,b,bk,most,n,rfl,_⟩:=h;rfl
 ·have hu:=ba hr;obtain⟨p,dq,b,bk,most,n,rfl,hd,hn,hb,hB,hm0,hm,q⟩:=h;have hC:=hB.cd;have hCb:=BQ bk;obtain⟨as,hb1,hb2,hb3⟩:=hb;obtain⟨l0,l1,l2,rfl,_,_,_,hl⟩:=hB;refine⟨_,(Z.ag (Z.sec (j:=3) az.nd (osc:=af b_) (ON:=["deck","book","most","codes","bits","begins","k","row","width","half","far","goal"]) (own:=["lengths"]) (N:=["lengths","deck","book","most","codes","bits","begins","k","row","width","half","far","goal"]) (aG.of rfl (by decide +kernel)) (Z.any K rfl (Z.v 1)) (λnd _ _ _ _=>(Z.aT (i:=0) nd rfl (by right))) (λ_ _ _ _=>Z.AQ) (λ_ _ _ _=>(Z.fc h_law_code (Z.cons (Z.v 0) Z.nil))))
   (Z.ag (Z.se (i:=4) az.nd Z.str)
   (Z.ag (Z.se (i:=5) az.nd (Z.lst Z.nil))
   (Z.ag (Z.eW IK rfl (Z.tV rfl T.d4 (Z.cons (Z.op (Z.aK K rfl) Z.int (Z.fc h_law_draw (Z.cons (Z.v 0) (Z.cons (Z.v 2) Z.nil)))) Z.nil)) (Z.aT (i:=6) az.nd rfl (by right)) (Z.ag (Z.se (i:=7) az.nd (Z.fc h_law_row (Z.cons (Z.v 0) (Z.cons Z.int Z.nil))))
   (Z.ag (Z.expr (Z.app K (Z.v 5) (Z.cons (Z.cb (Z.bB K rfl) rfl T.b8 (by decide +kernel) (Z.cons (Z.v 4) Z.nil)) Z.nil)))
   (Z.ag (Z.se (i:=4) az.nd (Z.op (Z.aK K rfl) (Z.v 4) (Z.fc h_law_plain (Z.cons (Z.v 7) (Z.cons (Z.v 3) Z.nil)))))
   (Z.au (Z.cN (Z.aR (Z.yF K rfl hu) (Z.ix (Z.aC K rfl hu) (Z.v 7) Z.int) (Z.tup (Z.consts rfl))) (Z.ag (Z.se (i:=8) az.nd (Z.ix (Z.aC K rfl hu) (Z.lst (Z.consts rfl)) (Z.fc h_law_draw (Z.cons (Z.v 0) (Z.cons Z.int Z.nil)))))
   (Z.ag (Z.se (i:=9) az.nd (Z.ix (Z.aC K rfl hu) (Z.lst (Z.consts rfl)) (Z.v 8)))
   (Z.ag (Z.se (i:=10) az.nd (Z.op bY (Z.fc h_law_draw (Z.cons (Z.v 0) (Z.cons (Z.op bO Z.int (Z.v 9)) Z.nil))) (Z.v 9)))
   (Z.ag (Z.se (i:=11) az.nd (Z.op bY (Z.op bY (Z.ix (Z.aC K rfl hu) (Z.v 5) (Z.fc h_law_draw (Z.cons (Z.v 0) (Z.cons (Z.cb (Z.bB K rfl) rfl T.b8 (by decide +kernel) (Z.cons (Z.v 5) Z.nil)) Z.nil)))) (Z.cb (Z.bB K rfl) rfl T.b8 (by decide +kernel) (Z.cons (Z.v 4) Z.nil))) (Z.ix (Z.aC K rfl hu) (Z.lst (Z.consts rfl)) (Z.v 8))))
   (Z.ag (Z.cN (Z.tw (Z.y4 (Z.aR b7 (Z.fc h_law_draw (Z.cons (Z.v 0) (Z.cons Z.int Z.nil))) Z.int) (Z.rP (Z.aR Eo (Z.op bY Z.int (Z.v 9)) (Z.v 11))))) (Z.au (Z.se (i:=10) az.nd (Z.v 11))) Z.bo)
   (Z.au (Z.se (i:=4) az.nd (Z.op (Z.aK K rfl) (Z.op (Z.aK K rfl) (Z.v 4) (Z.ix (Z.aC K rfl hu) (Z.lst (Z.consts rfl)) (Z.v 8))) (Z.fc h_law_bits (Z.cons (Z.op dy (Z.v 10) (Z.op bO Z.int (Z.v 9))) (Z.cons (Z.ix (Z.aC K rfl hu) (Z.lst (Z.consts rfl)) (Z.v 8)) Z.nil))))))))))) Z.bo))))))
   (Z.au (Z.ret (Z.v 4))))))),?_⟩
  refine aq λN hN=>?_;exists aF hb1;refine fF (xs:=as.map V.ref) (Ia (show _<=3 by rw[HY,hb2];exact Ib 3) (by decide)) (λD i ys H'=>H D=none/\H' D=some (.lst ys)/\KB [] H H'/\∃cs:List Addr,ys=cs.map V.ref/\cs.length=i/\∀(j:Nat) (c:Addr),cs[j]?=some c->H c=none/\c≠D/\H' c=some (.lst (wV (wordsOf Cw.dm (List.getD [l0,l1,l2] j []))))) (λD hD=>⟨hD,aa,KB.new hD,[],rfl,rfl,λj c e=>nomatch e⟩) (λD i ys H' h=>⟨h.2.1,by obtain⟨_,_,_,cs,rfl,e,_⟩:=h;rw[HY,e]⟩) (λD i ys H' h=>bq.of (h.2.2.1 _ _ hb1 (by simp))) ?_ ?_
  ·rintro D i ys H' x R hx ⟨g0,g1,g2,cs,rfl,g4,g5⟩ kk;obtain⟨a,ea,rfl⟩:∃a,as[i]?=some a/\x=.ref a:=by
    rw[Ie] at hx;obtain⟨a,e,rfl⟩:=IC.mp hx;exact⟨a,e,rfl⟩
   have hi:i<3:=by have:=(HZ.mp ea).1;rw[hb2] at this;exact this
   have hm:List.getD [l0,l1,l2] i []∈[l0,l1,l2]:=by rcases lp hi with rfl|rfl|rfl<;>simp
   walk_at "rz";refine⟨a,_,rfl,g2 _ _ (hb3 i a ea) (by simp),(hl _ hm).1,(hl _ hm).2,λc H5 c0 k5 e5=>?_⟩
   have gD:=k5 _ _ g1 (by simp)
   have cD:c≠D:=λz=>by rw[z,g1] at c0;cases c0
   refine kk _ _ gD ⟨g0,aa,λu o e _=>by rw[ae (ao e g0)];exact k5 _ _ (g2 _ _ e (by simp)) (by simp),cs++[c],by rw[IB];rfl,by rw[HX,g4];rfl,λj d e=>?_⟩
   rcases Jb j cs.length with hj|hj
   ·rw[IJ hj] at e;obtain⟨q1,q2,q3⟩:=g5 j d e;exact⟨q1,q2,by rw[ae q2];exact k5 _ _ q3 (by simp)⟩
   ·rw[IG hj] at e;obtain⟨hj2,rfl⟩:=HZ.mp e;have:j=i:=by simp at hj2;lia
    subst this;simp only[g4,JG,Kf];exact⟨g2.free (by simp) c0,cD,by rw[ae cD];exact e5⟩
  rintro ca ys H1 ⟨g0,g1,g2,cs,rfl,g4,g5⟩;rw[HY,hb2] at g4;obtain⟨c0,c1,c2,rfl⟩:=qB g4;have keepC:∀{G:Hp},KB [p,dq] H1 G->Hm G ca (gu [l0,l1,l2]):=λ{G} k=>by
   have n0:∀{x:Addr},H x=none->x∉[p,dq]:=λe=>hd.new e;exact⟨c0,c1,c2,k _ _ g1 (n0 g0),k _ _ (g5 0 c0 rfl).2.2 (n0 (g5 0 c0 rfl).1),k _ _ (g5 1 c1 rfl).2.2 (n0 (g5 1 c1 rfl).1),k _ _ (g5 2 c2 rfl).2.2 (n0 (g5 2 c2 rfl).1)⟩
  have D1:=hd.kb g2;show N _ _;rw[hN];clear hN N;clear g5 g4 g1 hb1 hb2 hb3 hl;generalize gu [l0,l1,l2]=cd at *;refine aq λN hN=>?_;walk_at "rz";rw[hN];clear hN N;refine aq λN hN=>?_;walk_at "rz";refine⟨by decide,λbl hbl=>?_⟩
  have k2:KB [] H1 (upd H1 bl (.lst [])):=KB.new hbl;have s2:upd H1 bl (.lst []) bl=some (.lst (iV (nZ []))):=aa;generalize upd H1 bl (.lst [])=H2 at *;have bl0:bl∉[p,dq]:=D1.new hbl;have blp:p≠bl:=λz=>bl0 (by simp[z])
  have blq:dq≠bl:=λz=>bl0 (by simp[z])
  rw[hN];clear hN N;refine aq λN hN=>?_;walk_at "rz";refine⟨p,dq,(most:Nat),n,rfl,D1.kb k2,by lia,by lia,by lia,λv H3 hv D3 k3=>?_⟩
  walk_at "rz";refine⟨by lia,by lia,?_⟩
  have hi:(1+(v:Int)).toNat<=most:=by lia
  have setB:∀{G:Hp} {m:Nat} {o:HO},bt G p dq m->bt (upd G bl o) p dq m:=λh=>h.keep (KB.set (ex:=[bl]) (by simp)) (by simpa using blp) (by simpa using blq)
  have keepB:∀{G:Hp} {o:HO},KB [p,dq] H1 G->KB [p,dq] H1 (upd G bl o):=λa b o e z=>by rw[ae (ao e hbl)];exact a b o e z
  refine cf (λi σ H'=>∃(z bs:List Nat) (o6 o7 o8 o9 o10 o11:Option V),cQ z/\z.length<=154*i/\bs.length=i/\bt H' p dq (n+1+10*i)/\KB [p,dq] H1 H'/\H' bl=some (.lst (iV (nZ bs)))/\σ=[some (.ref p),some (.ref b),some (.int (most:Nat)),some (.ref ca),some (.str (wd z)),some (.ref bl),o6,o7,o8,o9,o10,o11]) ⟨[],[],none,none,none,none,none,none,(λc hc=>absurd hc IT),Ib _,rfl,D3,k2.all.trans k3,k3 _ _ s2 bl0,by rw[<- pU]⟩ ?_ ?_
  ·rintro i σ H' hi2 ⟨z,bs,o6,o7,o8,o9,o10,o11,hbz,hz,hbs,hD,hk,gb,rfl⟩;generalize (0:Int)+((i:Nat):Int)=kI;unfold aQ;refine aq λM hM=>?_;walk_at "rz";refine⟨p,dq,60,n+1+10*i,rfl,hD,by lia,by lia,λr ra H4 hr hra D4 k4=>?_⟩
   have gb4:=k4 _ _ gb bl0;have hk4:=hk.trans k4;rw[hM];clear hM M;refine aq λM hM=>?_;have hzs:(wd z).length<=sizeLine:=by rw[av];exact Ia (show _<=10000 by lia) (by decide)
   walk_at "rz";refine⟨.inl ⟨rfl,_,bz.of gb4⟩,hzs,bl,_,_,rfl,rfl,gb4,Ja (show _<=40 by rw[bX,i8];lia) (by decide),?_⟩
   have eb:iV (nZ bs)++[V.int ((wd z).length:Nat)]=iV (nZ (bs++[z.length])):=by unfold nZ;rw[IB,pQ,av];rfl
   rw[eb];have D5:=setB (o:=.lst (iV (nZ (bs++[z.length])))) D4;have hk5:=keepB (o:=.lst (iV (nZ (bs++[z.length])))) hk4;have gb5:upd H4 bl (.lst (iV (nZ (bs++[z.length])))) bl=_:=aa;have rb:ra≠bl:=λz=>by rw[z,gb4] at hra;cases hra
   have hra5:upd H4 bl (.lst (iV (nZ (bs++[z.length])))) ra=_:=(ae rb).trans hra;generalize upd H4 bl (.lst (iV (nZ (bs++[z.length]))))=H5 at *;have hbl':(bs++[z.length]).length=i+1:=by rw[HX,hbs];rfl
   generalize bs++[z.length]=bg at *;clear gb4 hra D4 hk4 k4 eb gb hbs;rw[hM];clear hM M;refine aq λM hM=>?_;walk_at "rz";refine⟨ra,ca,r,60,cd,rfl,hra5,keepC hk5,hr,hC,λH6 k6=>?_⟩;have hb2:=hbz.app (wD hCb r);have h136:=vj hC hr;have hl2:(z++dB cd r).length<=154*i+136:=by rw[HX];lia
   walk_at "rz";rw[av,av,fe];refine⟨Ia (show _<=10000 by lia) (by decide),?_⟩
   generalize z++dB cd r=x at *;have D6:=D5.kb k6;have hk6:=hk5.trans k6.all;have gb6:=k6 _ _ gb5 (by simp)
   have hra6:=k6 _ _ hra5 (by simp)
   rw[hM];clear hM M;dsimp only;refine mL λM hM=>?_;have step:∀(y:List Nat) (G:Hp) (o8 o9 o10 o11:Option V),cQ y->y.length<=x.length+18->bt G p dq (n+1+10*i+10)->KB [p,dq] H1 G->G bl=some (.lst (iV (nZ bg)))->M [some (.ref p),some (.ref b),some (.int (most:Nat)),some (.ref ca),some (.str (wd y)),some (.ref bl),some (.int kI),some (.ref ra),o8,o9,o10,o11] G:=λy G o8 o9 o10 o11 h1 h2 h3 h4 h5=>by
    rw[hM];exact⟨y,bg,some _,some _,o8,o9,o10,o11,h1,by lia,hbl',h3.mono (by lia),h4,h5,rfl⟩
   clear hM;refine uG λA B hA hB=>?_;rw[Row.Be] at hra6;exists aF hra6;refine⟨by decide,λt0 ht0=>⟨rfl,rfl,?_⟩⟩
   have k7:KB [] H6 (upd H6 t0 (.tup [.str (Str.ofString "jump"),.str (Str.ofString "zero")])):=KB.new ht0;generalize upd H6 t0 (.tup [.str (Str.ofString "jump"),.str (Str.ofString "zero")])=H7 at *;have D7:=D6.kb k7;have hk7:=hk6.trans k7.all;have gb7:=k7 _ _ gb6 (by simp)
   clear k7 gb6 hk6 D6 k6 D5 hk5 gb5 hra5
   cases n1:iU (.str r.wd) [.str (Str.ofString "jump"),.str (Str.ofString "zero")] with
   |false =>
    rw[H_ Il,hB];exact step x H7 o8 o9 o10 o11 hb2 (by lia) (D7.mono (by lia)) hk7 gb7
   |true =>
    rw[Ig rfl,hA];clear hA hB A B n1;refine aq λM' hM=>?_;walk_at "rz";refine⟨by decide,λw1 hw1=>?_⟩
    have k8:KB [] H7 (upd H7 w1 (.lst [.int 0,.int 0,.int 1,.int 1,.int 2])):=KB.new hw1;have s8:upd H7 w1 (.lst [.int 0,.int 0,.int 1,.int 1,.int 2]) w1=_:=aa;generalize upd H7 w1 (.lst [.int 0,.int 0,.int 1,.int 1,.int 2])=H8 at *;have nw1:=D7.new hw1;refine⟨p,dq,5,n+1+10*i+5,rfl,D7.kb k8,by lia,by decide,by decide,λv2 H9 hv2 D9 k9=>?_⟩
    obtain⟨w,hw,aw⟩:∃w:Nat,w<3/\cq [V.int 0,.int 0,.int 1,.int 1,.int 2] (v2:Int)=some (.int (w:Nat)):=by
     have:v2=0\/v2=1\/v2=2\/v2=3\/v2=4:=by lia
     rcases this with rfl|rfl|rfl|rfl|rfl
     ·exact⟨0,by decide,rfl⟩
     ·exact⟨0,by decide,rfl⟩
     ·exact⟨1,by decide,rfl⟩
     ·exact⟨1,by decide,rfl⟩
     ·exact⟨2,by decide,rfl⟩
    exists aA (k9 _ _ s8 nw1),aw;have hk9:=hk7.trans (k8.all.trans k9);have gb9:=k9 _ _ (k8 _ _ gb7 (by simp)) bl0
    clear aw hw1 nw1 s8 k8 k9 D7 hk7 gb7 hv2;rw[hM];clear hM M';have p2:=nW hw;have p3:cq [V.int 4,.int 8,.int 16] (w:Int)=some (.int (aP w:Nat)):=by rcases lp hw with rfl|rfl|rfl<;>rfl
    have p4:aP w<=16/\(b6 w).length<=2/\0<cy w/\cy w<=32768:=by rcases lp hw with rfl|rfl|rfl<;>decide
    have pb:cQ (b6 w):=by rcases lp hw with rfl|rfl|rfl<;>exactλc hc=>by revert c;decide
    have p5:cq [V.int 8,.int 128,.int 32768] (w:Int)=some (.int (cy w)):=by rcases lp hw with rfl|rfl|rfl<;>rfl
    obtain⟨a5,p6⟩:∃a:Int,cq [V.int 5,.int 10,.int 18] (w:Int)=some (.int a):=by rcases lp hw with rfl|rfl|rfl<;>exact⟨_,rfl⟩
    refine aq λM' hM=>?_;exists p5;refine⟨by decide,λt1 ht1=>?_⟩
    have k10:KB [] H9 (upd H9 t1 (.lst [.int 8,.int 128,.int 32768])):=KB.new ht1;generalize upd H9 t1 (.lst [.int 8,.int 128,.int 32768])=H10 at *;generalize cy w=hf at *;rw[hM];clear hM M';refine aq λM' hM=>?_;walk_at "rz";have cmul:s_ 2 hf:=.inl ⟨by decide,by decide⟩
    refine⟨cmul,p,dq,2*hf,n+1+10*i+6,rfl,D9.kb k10,by lia,by lia,by lia,λv3 H11 _ D11 k11=>?_⟩
    have hk11:=hk9.trans (k10.all.trans k11);have gb11:=k11 _ _ (k10 _ _ gb9 (by simp)) bl0
    walk_at "rz";rw[hM];clear hM M';clear k10 k11 hk9 gb9 D9 ht1;have hxs:(wd x).length<=sizeLine:=by rw[av];exact Ia (show _<=10000 by lia) (by decide)
    refine aq λM' hM=>?_;exists aA gb11,bX,i8;refine⟨p,dq,(bg.length:Nat),n+1+10*i+7,rfl,D11,by lia,by lia,by lia,λj H12 hj D12 k12=>?_⟩
    have gb12:=k12 _ _ gb11 bl0;have ab:cq (iV (nZ bg)) (j:Int)=some (.int (bg.getD j 0:Nat)):=bI (by
     have hj:j<bg.length:=by lia
     unfold iV nZ;rw[Ie,Ie,Ic,HV hj]
     rfl)
    exists aA gb12,ab,p6;refine⟨hxs,by decide,λt2 ht2=>?_⟩
    have k13:KB [] H12 (upd H12 t2 (.lst [.int 5,.int 10,.int 18])):=KB.new ht2;generalize upd H12 t2 (.lst [.int 5,.int 10,.int 18])=H13 at *;have hk13:=hk11.trans (k12.trans k13.all);have gb13:=k13 _ _ gb12 (by simp)
    generalize ((bg.getD j 0:Nat):Int)-((wd x).length:Nat)-a5=goal at *;rw[hM];clear hM M';refine aq λM' hM=>?_;refine uG λA B hA hB=>?_;walk_at "rz";refine⟨p,dq,2,n+1+10*i+8,rfl,D12.kb k13,by lia,by decide,by decide,λv5 H14 _ D14 k14=>?_⟩
    have hk14:=hk13.trans k14;have gb14:=k14 _ _ gb13 bl0;clear hk13 gb13 hk11 gb11 gb12 k12 k13 k14 ht2 D11 D12 ab;have tail:∀far:Int,M' [some (.ref p),some (.ref b),some (.int (most:Nat)),some (.ref ca),some (.str (wd x)),some (.ref bl),some (.int kI),some (.ref ra),some (.int (w:Nat)),some (.int hf),some (.int far),some (.int goal)] H14:=λfar=>by
     rw[hM];clear hM M' hA hB;have hll:(cO (far % (2*hf)) (aP w) []).length=aP w:=dW _ _ _;have hlb:cQ (cO (far % (2*hf)) (aP w) []):=gn _ _ _ λc hc=>by cases hc
     have hl3:((x++b6 w)++cO (far % (2*hf)) (aP w) []).length<=x.length+18:=by rw[HX,HX];lia
     have hs3:(x++b6 w).length+(cO (far % (2*hf)) (aP w) []).length<=sizeLine:=by rw[<- HX];exact Ia (show _<=10000 by lia) (by decide)
     exists p2;refine⟨by decide,λt3 ht3=>?_⟩
     have k15:KB [] H14 (upd H14 t3 (.lst [.str (Str.ofString "0"),.str (Str.ofString "10"),.str (Str.ofString "11")])):=KB.new ht3;generalize upd H14 t3 (.lst [.str (Str.ofString "0"),.str (Str.ofString "10"),.str (Str.ofString "11")])=H15 at *;rw[av,av,fe];refine⟨Ia (show _<=10000 by lia) (by decide),cmul,by lia,?_⟩
     exists p3;refine⟨by decide,λt4 ht4=>⟨_,aP w,rfl,by lia,?_⟩⟩
     have k16:KB [] H15 (upd H15 t4 (.lst [.int 4,.int 8,.int 16])):=KB.new ht4;generalize upd H15 t4 (.lst [.int 4,.int 8,.int 16])=H16 at *;have k17:=k15.trans k16;walk_at "rz";rw[av,av,fe];exact⟨hs3,step _ H16 (some _) (some _) (some _) (some _) ((hb2.app pb).app hlb) hl3 ((D14.kb k17).mono (by lia)) (hk14.trans k17.all) (k17 _ _ gb14 (by simp))⟩
    have other:B [some (.ref p),some (.ref b),some (.int (most:Nat)),some (.ref ca),some (.str (wd x)),some (.ref bl),some (.int kI),some (.ref ra),some (.int (w:Nat)),some (.int hf),some (.int ((v3:Int)-hf)),some (.int goal)] H14:=by rw[hB];exact tail _
    walk_at "rz";by_cases c1:(v5:Int)=0
    ·rw[Ig c1];by_cases c2:0-hf<=goal
     ·rw[Ig c2,hA];walk_at "rz";exact tail goal
     ·rw[H_ c2];exact other
    ·rw[H_ c1];exact other
  ·rintro σ H' ⟨z,bs,o6,o7,o8,o9,o10,o11,hbz,hz,hbs,hD,hk,gb,rfl⟩;show N _ _;rw[hN];clear hN N;walk_at "rz";exact q z H' hbz (by lia) (hD.mono (by lia)) (g2.all.trans hk)
theorem mY{tc:TT}{b:Addr}{n:Nat}(hxy:xs.length=ys.length)(ha:H a=some (.tup xs))(hb:H b=some (.tup ys))
  (hs:∀(i:Nat) x y H' (R:Bool->Hp->Prop),xs[i]?=some x->ys[i]?=some y->KB [] H H'->(∀H4,KB [] H' H4->R false H4)->tc (some x::some y::σ) H' R) (hd:∀D H',KB [] H H'->H' D=some (.lst [])->Q (.ref D) H') :
  jv (yW K (dU n [(false,a),(false,b)])) 2 (pN K 2 (cW (aQ 0) (cW (aQ 1) km))) tc te Q σ H:=by
 intro D hD0;refine⟨λi m zs σ' H'=>m=xs.length-i/\i<=xs.length/\zs=[]/\H' D=some (.lst [])/\KB [] H H'/\∃o1 o2,σ'=o1::o2::σ,⟨xs.length,by simp,Iv _,rfl,aa,KB.new hD0,none,none,rfl⟩,?_⟩
 rintro i m zs σ' H' ⟨rfl,hi,rfl,g1,g2,o1,o2,rfl⟩;have q1:iw K false H' a xs:=bq.of (g2 _ _ ha (by simp))
 have q2:iw K false H' b ys:=bq.of (g2 _ _ hb (by simp))
 refine⟨g1,?_⟩;by_cases hlt:i<xs.length
 ·have hl2:i<ys.length:=by lia
  refine .inr ⟨⟨[xs[i],ys[i]],.cons ⟨xs,q1,by simp[hlt]⟩ (.cons ⟨ys,q2,by simp[hl2]⟩ .nil)⟩,by decide,λx H2 z=>?_⟩
  obtain⟨c,vs,pr,fr,rfl,rfl⟩:=z;obtain⟨y1,vs,rfl,e1,pr⟩:=Paired.d6 pr;obtain⟨y2,vs,rfl,e2,pr⟩:=Paired.d6 pr;cases pr;refine zZ ?_;have k3:KB [] H' (upd H' c (.tup [y1,y2])):=KB.new fr;refine hs i y1 y2 _ _ (e1 xs q1) (e2 ys q2) (g2.trans k3) λH4 k4=>?_;rw[H_ Il];exact⟨xs.length-(i+1),by lia,rfl,hlt,rfl,k4 _ _ (k3 _ _ g1 (by simp)) (by simp),g2.trans (k3.trans k4),_,_,rfl⟩
 ·have e:i=xs.length:=by lia
  subst e;exact .inl ⟨⟨[],(false,n,a),_,[],rfl,.nil,xs,q1,rfl⟩,hd D H' g2 g1⟩
noncomputable def Sm(H:Hp):Nat->V->V->Prop
 |0,x,y=>x=y/\((∃i,x=.int i)\/∃z,x=.str z)
 |n+1,x,y=>(x=y/\((∃i,x=.int i)\/∃z,x=.str z))\/∃a b xs ys,x=.ref a/\y=.ref b/\H a=some (.tup xs)/\H b=some (.tup ys)/\xs.length=ys.length/\∀(i:Nat) (u v:V),xs[i]?=some u->ys[i]?=some v->Sm H n u v
theorem Sm.kb{n:Nat}{x y:V}(h:Sm H n x y)(k:KB [] H H'):Sm H' n x y:=by
 induction n generalizing x y with
 |zero=>exact (show x=y/\((∃i,x=.int i)\/∃z,x=.str z) from h)
 |succ n ih =>
  rcases h with h|⟨a,b,xs,ys,e1,e2,e3,e4,e5,h⟩
  ·exact .inl h
  ·exact .inr ⟨a,b,xs,ys,e1,e2,k _ _ e3 (by simp),k _ _ e4 (by simp),e5,λi u v h1 h2=>ih (h i u v h1 h2)⟩
noncomputable def Gv:Sp:=λ_ _ _ _=>False
theorem EV{x:Str}{st:Stmt}{N ps:List Str}{k:Nat}(F:HasFn K mg x st ps)(S:ar N ps (af st)):ai P w K mg base bf (k+1) x ps Gv:=F.fN S (λ_ _ _ _ h=>h.elim) λ_ _ _ _ _ _ _ _ _ _ h=>h.elim
noncomputable def pz(n:Nat):Sp:=λvs H Q _=>∃x y,vs=[x,y]/\Sm H n x y/\∀H',KB [] H H'->Q (.bl true) H'
section
local macro_rules | `(tactic| decide) => `(tactic| exact Nat.le_refl _)
theorem fK(T:Txt K mg)(F:HasFn K mg "_law_same" cP ["found","due"])(n j:Nat){sp:Sp}(h_law_same:ai P w K mg base bf j "_law_same" ["found","due"] sp)(hts:∀u v H Q E,(n=0->False)->Sm H (n-1) u v->(∀H',KB [] H H'->Q (.bl true) H')->sp [u,v] H Q E):ai P w K mg base bf (j+1) "_law_same" ["found","due"] (pz n):=by
 refine F.fN gO (λvs H Q E h=>?_) (λf cdv A outer s H vs Q E hr h=>?_)
 ·obtain⟨x,y,rfl,_⟩:=h;rfl
 ·have hu:=ba hr;obtain⟨x,y,rfl,hx,q⟩:=h;refine⟨_,(Z.ag (Z.cN (Z.aR bQ (Z.v 1) Z.aJ) (Z.au (Z.ret (Z.cmp bQ (Z.v 0) Z.aJ))) Z.bo)
   (Z.ag (Z.cN (Z.og K rfl (Z.cb (Z.jg K rfl) rfl T.bG Jj (Z.cons (Z.v 1) (Z.cons (Z.Dt (T:="tuple") rfl T.cU (by decide +kernel)) Z.nil)))) (Z.ag (Z.cN (Z.tw (Z.GG (Z.zh (Z.og K rfl (Z.cb (Z.jg K rfl) rfl T.bG Jj (Z.cons (Z.v 0) (Z.cons (Z.Dt (T:="tuple") rfl T.cU (by decide +kernel)) Z.nil))))) (Z.BH (Z.aR pI (Z.cb (Z.bB K rfl) rfl T.b8 (by decide +kernel) (Z.cons (Z.v 0) Z.nil)) (Z.cb (Z.bB K rfl) rfl T.b8 (by decide +kernel) (Z.cons (Z.v 1) Z.nil)))))) (Z.au (Z.ret Z.bl)) Z.bo)
   (Z.au (Z.ret (Z.cmp (Y.Bt K rfl (Nat.lt_of_succ_lt hu)) (Z.DV (osc:=af cP) (ON:=["found","due"]) (own:=["one","other"]) (N:=["one","other","found","due"]) (aG.of rfl (by decide +kernel)) (AZ K rfl rfl T.wq (Z.cons (Z.v 0) (Z.cons (Z.v 1) Z.nil))) (λnd _ _ _ _=>(Z.oy (n:=2) K rfl rfl (Z.bP (Z.aT (i:=0) nd rfl (by right)) (Z.bP (Z.aT (i:=1) nd rfl (by right)) Z.iE)))) (λ_ _ _ _=>(Z.HJ (Z.zh (Z.og K rfl (Z.fc h_law_same (Z.cons (Z.v 0) (Z.cons (Z.v 1) Z.nil))))))) (λ_ _ _ _=>Z.int)) (Z.lst Z.nil))))) Z.bo)
   (Z.ag (Z.cN (Z.og K rfl (Z.cb (Z.jg K rfl) rfl T.bG Jj (Z.cons (Z.v 1) (Z.cons (Z.Dt (T:="str") rfl T.wN (by decide +kernel)) Z.nil)))) (Z.au (Z.ret (Z.and (Z.cb (Z.jg K rfl) rfl T.bG Jj (Z.cons (Z.v 0) (Z.cons (Z.Dt (T:="str") rfl T.wN (by decide +kernel)) Z.nil))) (Z.one (Z.cmp b7 (Z.v 0) (Z.v 1)))))) Z.bo)
   (Z.au (Z.ret (Z.and (Z.cb (Z.jg K rfl) rfl T.bG Jj (Z.cons (Z.v 0) (Z.cons (Z.Dt (T:="int") rfl T.rm (by decide +kernel)) Z.nil))) (Z.and (Z.not (Z.cb (Z.jg K rfl) rfl T.bG Jj (Z.cons (Z.v 0) (Z.cons (Z.Dt (T:="bool") rfl T.CJ (by decide +kernel)) Z.nil)))) (Z.one (Z.cmp b7 (Z.v 0) (Z.v 1)))))))))),?_⟩
  have hx2:(x=y/\((∃i,x=.int i)\/∃z,x=.str z))\/∃a b xs ys,x=.ref a/\y=.ref b/\(n=0->False)/\H a=some (.tup xs)/\H b=some (.tup ys)/\xs.length=ys.length/\∀(i:Nat) (u v:V),xs[i]?=some u->ys[i]?=some v->Sm H (n-1) u v:=by
   cases n with
   |zero=>exact .inl hx
   |succ n =>
    rcases hx with h|⟨a,b,xs,ys,e1,e2,h⟩
    ·exact .inl h
    ·exact .inr ⟨a,b,xs,ys,e1,e2,(λz=>by cases z),h⟩
  clear hx;refine aq λN hN=>?_;rcases hx2 with ⟨rfl,h⟩|⟨a,b,xs,ys,rfl,rfl,hn0,ha,hb,hl,hs⟩
  ·rcases h with ⟨i,rfl⟩|⟨z,rfl⟩
   ·exists H_ (show ¬ V.int i=V.aJ from V.noConfusion);rw[hN];clear hN N;refine aq λN hN=>?_;exists (show gB "int" "tuple"=false from by decide +kernel)
    refine⟨by simp,?_⟩
    rw[hN];clear hN N;refine aq λN hN=>?_;exists (show gB "int" "str"=false from by decide +kernel)
    refine⟨by simp,?_⟩
    rw[hN];clear hN N;exists (show gB "int" "int"=true from by decide +kernel),(show gB "int" "bool"=false from by decide +kernel)
    exact⟨by simp,by simp,q _ (KB.refl _ _)⟩
   ·exists H_ (show ¬ V.str z=V.aJ from V.noConfusion);rw[hN];clear hN N;refine aq λN hN=>?_;exists (show gB "str" "tuple"=false from by decide +kernel)
    refine⟨by simp,?_⟩
    rw[hN];clear hN N;refine aq λN hN=>?_;exists (show gB "str" "str"=true from by decide +kernel)
    exact⟨by simp,by simp,q _ (KB.refl _ _)⟩
  ·exists H_ (show ¬ V.ref b=V.aJ from V.noConfusion);rw[hN];clear hN N;refine aq λN hN=>?_;refine uG λA B hA hB=>?_;exists hb,(show gB "tuple" "tuple"=true from by decide +kernel)
   refine⟨by simp,?_⟩
   rw[hA];clear hA hB A B;refine aq λM hM=>?_;refine uG λA B hA hB=>?_;exists ha,(show gB "tuple" "tuple"=true from by decide +kernel),aF ha,aF hb
   refine⟨by simp,?_⟩
   rw[H_ (by simp),H_ (by rw[hl];simp),hB]
   show M _ _;rw[hM];clear hM M hA hB A B;walk_at "rz";rw[nR];walk_at "rz";refine⟨(false,a),(false,b),⟨rfl,rfl⟩,⟨_,bq.of ha⟩,⟨_,bq.of hb⟩,λn=>?_⟩;refine mY hl ha hb (λi u v H' R h1 h2 k kk=>?_) (λD H' k hD=>?_)
   ·walk_at "rz";refine hts u v H' _ _ hn0 ((hs i u v h1 h2).kb k) λH4 k4=>?_;walk_at "rz";exact kk H4 k4
   ·refine⟨Iv _,λp hp=>⟨D,p,[],rfl,rfl,bz.of ?_,bz.of aa,q _ (k.trans (KB.new hp))⟩⟩;rw[ae (ao hD hp)];exact hD
end
theorem yC(T:Txt K mg)(F:HasFn K mg "_law_same" cP ["found","due"]):ai P w K mg base bf 5 "_law_same" ["found","due"] (pz 3):=
 fK T F 3 4 (fK T F 2 3 (fK T F 1 2 (fK T F 0 1 (EV F gO) λu v H Q E h=>(h rfl).elim) λu v H Q E _ h q=>⟨u,v,rfl,h,q⟩) λu v H Q E _ h q=>⟨u,v,rfl,h,q⟩) λu v H Q E _ h q=>⟨u,v,rfl,h,q⟩
theorem B2(z:List Nat)(m:Nat):Y.eY (wd z) none (some (m:Int))=wd (z.take m):=by
 unfold Y.eY wd;congr 2;show Y.gL z none (some (m:Int))=_;unfold Y.gL;rw[HT.dh,HT.cK,J5,LO];exact (List.take_eq_take_min ..).symm
theorem DH{n:Nat}{b:Addr}{r:bp}(ha:H a=some (.tup r.vs))(hb:H b=some (.tup r.vs)):Sm H (n+1) (.ref a) (.ref b):=.inr ⟨a,b,_,_,rfl,rfl,ha,hb,rfl,λi u v h1 h2=>by
 rw[h1] at h2;cases h2;have key:(∃i,u=.int i)\/∃z,u=.str z:=by
  unfold bp.vs at h1;obtain⟨m,_,rfl⟩:=Jg.mp (Jw h1)
  cases m with
  |s z=>exact .inr ⟨z,rfl⟩
  |n k=>exact .inl ⟨k,rfl⟩
 cases n with
 |zero=>exact⟨rfl,key⟩
 |succ n=>exact .inl ⟨rfl,key⟩⟩
theorem zF{b:Addr}{o:Nat ⊕ List bp}(ha:BU H a o)(hb:BU H b o):Sm H 3 (.ref a) (.ref b):=by
 cases o with
 |inl p =>
  refine .inr ⟨a,b,_,_,rfl,rfl,ha,hb,rfl,λi u v h1 h2=>?_⟩;rw[h1] at h2;cases h2;have hi:i<2:=(HZ.mp h1).1;rcases (show i=0\/i=1 by lia) with rfl|rfl
  ·cases h1;exact .inl ⟨rfl,.inr ⟨_,rfl⟩⟩
  ·cases h1;exact .inl ⟨rfl,.inl ⟨_,rfl⟩⟩
 |inr ms =>
  obtain⟨u,h1,as,h2,l1,h3⟩:=ha;obtain⟨v,g1,bs,g2,l2,g3⟩:=hb;refine .inr ⟨a,b,_,_,rfl,rfl,h1,g1,rfl,λi x y e1 e2=>?_⟩;have hi:i<2:=(HZ.mp e1).1;rcases (show i=0\/i=1 by lia) with rfl|rfl
  ·cases e1;cases e2;exact .inl ⟨rfl,.inr ⟨_,rfl⟩⟩
  ·cases e1;cases e2
   refine .inr ⟨u,v,_,_,rfl,rfl,h2,g2,by rw[HY,HY,l1,l2],λj x y e1 e2=>?_⟩
   rw[Ie] at e1 e2;obtain⟨c,ec,rfl⟩:=IC.mp e1;obtain⟨d,ed,rfl⟩:=IC.mp e2;have hj:j<ms.length:=by have:=(HZ.mp ec).1;lia
   have er:=HV hj;exact DH (h3 j c _ ec er) (g3 j d _ ed er)
theorem CZ(T:Txt K mg)(F:uF K "law" "law" gw f fd)(h_law_deck:ai P w K mg base bf 1 "_law_deck" ["script"] (xq K))(h_law_book:ai P w K mg base bf 4 "_law_book" ["deck"] (vf K))(h_law_raw_rows:ai P w K mg base bf 5 "_law_raw_rows" ["deck","book","most"] (AN K))(h_law_draw:ai P w K mg base bf 2 "_law_draw" ["deck","most"] eM)(h_law_found:ai P w K mg base bf 8 "_law_found" ["bits","book"] qT)(h_law_read:ai P w K mg base bf 4 "_law_read" ["bits","book"] q_)(h_law_same:ai P w K mg base bf 5 "_law_same" ["found","due"] (pz 3)):d2 P w K mg base bf 9 f fd ["script"] (oO K):=by
 refine yG F iA (λvs H Q E h=>?_) (λcdv A outer s H vs Q E hr h=>?_)
 ·obtain⟨a,ns,rfl,_⟩:=h;rfl
 ·obtain⟨a,ns,rfl,hS,hl,q⟩:=h;have hu:=ba hr;refine⟨_,(Z.ag (Z.se (i:=1) iA.nd (Z.fc h_law_deck (Z.cons (Z.v 0) Z.nil)))
   (Z.ag (Z.eW IK rfl (Z.tV rfl T.d4 (Z.cons Z.int Z.nil)) (Z.aT (i:=2) iA.nd rfl (by right)) (Z.ag (Z.se (i:=3) iA.nd (Z.fc h_law_book (Z.cons (Z.v 1) Z.nil)))
   (Z.ag (Z.se (i:=4) iA.nd (Z.fc h_law_raw_rows (Z.cons (Z.v 1) (Z.cons (Z.v 3) (Z.cons Z.int Z.nil)))))
   (Z.ag (Z.cN (Z.aR b7 (Z.fc h_law_draw (Z.cons (Z.v 1) (Z.cons Z.int Z.nil))) Z.int) (Z.au (Z.se (i:=4) iA.nd (Z.slice Y.dG (Z.v 4) Z.yo (Z.jZ (Z.cb (tE rfl) rfl T.EK (by decide +kernel) (Z.cons Z.int (Z.cons (Z.op bY (Z.op bY (Z.cb (Z.bB K rfl) rfl T.b8 (by decide +kernel) (Z.cons (Z.v 4) Z.nil)) Z.int) (Z.fc h_law_draw (Z.cons (Z.v 1) (Z.cons Z.int Z.nil)))) Z.nil))))))) Z.bo)
   (Z.au (Z.cN (Z.zh (Z.og K rfl (Z.fc h_law_same (Z.cons (Z.fc h_law_found (Z.cons (Z.v 4) (Z.cons (Z.v 3) Z.nil))) (Z.cons (Z.fc h_law_read (Z.cons (Z.v 4) (Z.cons (Z.v 3) Z.nil))) Z.nil))))) (Z.au (Z.ret Z.bl)) Z.bo))))))
   (Z.au (Z.ret Z.bl)))),?_⟩
  refine aq λN hN=>?_;walk_at "rz";refine⟨a,ns,rfl,hS,λp dq H1 D1 k1 _ _=>?_⟩;rw[hN];clear hN N;refine aq λN hN=>?_;walk_at "rz";refine⟨by decide,by decide,?_⟩
  refine cf (n:=6) (λi σ H'=>∃s2 s3 s4:Option V,bt H' p dq (2000*i)/\σ=[some (.ref a),some (.ref p),s2,s3,s4]) ⟨none,none,none,D1,rfl⟩ ?_ ?_
  ·rintro i σ H' hi ⟨s2,s3,s4,hD,rfl⟩;generalize (0:Int)+((i:Nat):Int)=kI;unfold aQ;refine aq λM hM=>?_;walk_at "rz";refine⟨p,dq,_,rfl,hD,by lia,λbk b H2 D2 k2 hb hBk=>?_⟩
   rw[hM];clear hM M;refine aq λM hM=>?_;walk_at "rz";refine⟨p,dq,b,bk,7,_,rfl,D2,by lia,hb,hBk,by decide,by decide,λz H5 hbz hz D5 k5=>?_⟩
   have hb5:=hb.keep k5 D2.nt;rw[hM];clear hM M;clear k2 k5 hb D2;refine aq λM hM=>?_;have fin:∀(y:List Nat) (G:Hp),cQ y->y.length<=7000->bt G p dq (2000*i+900)->rj G b bk->M [some (.ref a),some (.ref p),some (.int kI),some (.ref b),some (.str (wd y))] G:=λy G hy hl hd hbG=>by
    rw[hM];clear hM M;refine mL λM hM=>?_;refine uG λA B hA hB=>?_;walk_at "rz";refine⟨b,bk,y,rfl,hbG,hBk,hy,by lia,λt1 G1 kG1 o1=>?_⟩
    refine⟨b,bk,y,rfl,hbG.kb kG1,hBk,hy,by lia,λt2 G2 kG2 o2=>?_⟩
    refine⟨_,_,rfl,zF (o1.kb kG2) o2,λG3 kG3=>?_⟩;exists Bool.not_true;rw[H_ (by simp),hB]
    show M _ _;rw[hM];exact⟨_,_,_,(hd.kb (kG1.trans (kG2.trans kG3))).mono (by lia),rfl⟩
   refine uG λA B hA hB=>?_;walk_at "rz";refine⟨p,dq,4,_,rfl,D5,by lia,by decide,by decide,λv2 H6 hv2 D6 k6=>?_⟩
   have hb6:=hb5.keep k6 D5.nt;walk_at "rz";by_cases c:(v2:Int)=0
   ·rw[Ig c,hA];clear hA hB;walk_at "rz";refine⟨by rw[av];exact Ia (show _<=10000 by lia) (by decide),p,dq,6,_,rfl,D6,by lia,by decide,by decide,λv3 H7 hv3 D7 k7=>?_⟩
    have hb7:=hb6.keep k7 D6.nt;rw[av];walk_at "rz";rw[show (if ((z.length:Nat):Int)-1-((v3:Nat):Int) > 0 then ((z.length:Nat):Int)-1-((v3:Nat):Int) else 0)=((z.length-1-v3:Nat):Int) by split<;>lia]
    refine⟨_,rfl,by rw[av];exact Ia (show _<=10000 by lia) (by decide),?_⟩
    rw[B2];exact fin _ H7 (λc hc=>hbz c (LR hc)) (by rw[IF];lia) (D7.mono (by lia)) hb7
   ·rw[H_ c,hB];exact fin z H6 hbz (by lia) (D6.mono (by lia)) hb6
  ·rintro σ H' ⟨s2,s3,s4,_,rfl⟩;show N _ _;rw[hN];clear hN N;walk_at "rz";exact q _
theorem Eu(T:Txt K mg)(f_read_rows:HasFn K mg "read_rows" cg ["bits","book"])(f_goal_numbered:HasFn K mg "goal_numbered" bZ ["row","start","numbers"])(hc:ai P w K mg base bf 6 "codes_of" ["book"] (mI K))(hr:ai P w K mg base bf 5 "row_at" ["codes","bits","place"] (lZ K))(go:ai P w K mg base bf 1 "goal_of" ["row"] lS)(wg:ai P w K mg base bf 1 "with_goal" ["row","goal"] pw):Ec K mg P w base:=by
 obtain⟨C_ShortError,C_NoBits,hC_ShortError,hC_NoBits,kC_ShortError,xC_NoBits,p0,fI,fdI,xI_NoBits,FI,bI_NoBits,hd⟩:=T.xs;intro N hN;obtain rfl:C_NoBits=N:=by rw[hC_NoBits] at hN;cases hN;rfl
 have nI:=Aw (P:=P) (w:=w) (base:=base) xI_NoBits FI hC_ShortError;exact vL T hC_NoBits xI_NoBits nI bI_NoBits f_read_rows hc hr (AD T hC_NoBits xI_NoBits nI bI_NoBits f_goal_numbered go wg)
local macro_rules | `(tactic| walk_at "b1") => `(tactic| (intro _ _ _ _ _ _ us hl; obtain ⟨_, e⟩ := L2.Y.Cm hl; subst e; rfl))
theorem fw{x:Str}{st:Stmt}{ps:List Str}{oc:Value}{od an:Option Addr}{osl:Array (Option Value)}{kV doc pm cdv ct:Value}(X:K.In h)(G:h.Ns mainGlobals mg)(a:W.nsIn K mainGlobals x=some (some (.ref f)))
  (l:K.lookup f=some ⟨oc,od,.func (W.fnOf x x (cI st) (bw st) (af st) .none kV doc pm an cdv ct),osl⟩) (c:W.codeIn K cdv x=true) (k:W.keepIn K (.ref f)=true)
  (hb:∀(kV doc pm:Value) (an:Option Addr) (cdv ct:Value) (us:List Value),us.length=ps.length->bindArgs (W.fnOf x x (cI st) (bw st) (af st) .none kV doc pm an cdv ct) ⟨us,[]⟩=pure (ps.zip us)):HasFn K mg x st ps:=
 ⟨f,_,j4 l c k,(j4 l c k).binds hb,KL X G a⟩
set_option autoImplicit true in
theorem all_mk{l:W.OpenLaw}{w:World}{fa:Addr}(X:K.In h)(G:h.Ns mainGlobals mg)(hfa:mg "law"=some (.ref fa))
  (F0:HasFn K mg "can_be" js ["lengths"])
  (a1:W.nsIn K mainGlobals "code_of"=some (some (.ref f1))) (l1:K.lookup f1=some ⟨oc1,od1,.func (W.fnOf "code_of" "code_of" (cI cC) (bw cC) (af cC) .none kV1 dc1 pm1 an1 cd1 ct1),sl1⟩) (c1:W.codeIn K cd1 "code_of"=true) (k1:W.keepIn K (.ref f1)=true)
  (F2:HasFn K mg "word_behind" dI ["ahead","length"])
  (F3:HasFn K mg "thing_at" fY ["code","bits","place"])
  (F4:HasFn K mg "goal_of" i6 ["row"])
  (F5:HasFn K mg "with_goal" fk ["row","goal"])
  (F6:HasFn K mg "codes_of" eG ["book"])
  (F7:HasFn K mg "read_rows" cg ["bits","book"])
  (F8:HasFn K mg "goal_numbered" bZ ["row","start","numbers"])
  (F9:HasFn K mg "row_at" j5 ["codes","bits","place"])
  (F10:HasFn K mg "coded_at" gj ["code","bits","place"])
  (F11:HasFn K mg "part_at" ic ["kind","codes","bits","place"])
  (F12:HasFn K mg "number_at" fm ["code","bits","place"])
  (F13:HasFn K mg "goal_at" ie ["bits","place"])
  (F14:HasFn K mg "_law_deck" dD ["script"])
  (F15:HasFn K mg "_law_mix" gh ["number","turn"])
  (F16:HasFn K mg "_law_draw" e_ ["deck","most"])
  (F17:HasFn K mg "_law_words" eB [])
  (F18:HasFn K mg "_law_bits" ff ["number","many"])
  (F19:HasFn K mg "_law_code" dC ["lengths"])
  (F20:HasFn K mg "_law_lengths" c_ ["deck","many"])
  (F21:HasFn K mg "_law_book" dA ["deck"])
  (F22:HasFn K mg "_law_number" dE ["deck"])
  (F23:HasFn K mg "_law_row" gi ["deck","goals"])
  (F24:HasFn K mg "_law_plain" eI ["row","codes"])
  (F25:HasFn K mg "_law_tables" dJ ["book"])
  (F26:HasFn K mg "_law_thing_at" cS ["table","bits","at"])
  (F27:HasFn K mg "_law_value" eO ["text"])
  (F28:HasFn K mg "_law_way_at" dM ["bits","at"])
  (F29:HasFn K mg "_law_number_at" cE ["table","bits","at"])
  (F30:HasFn K mg "_law_row_at" dF ["tables","bits","at"])
  (F31:HasFn K mg "_law_read" fz ["bits","book"])
  (F32:HasFn K mg "_law_same" cP ["found","due"])
  (F33:HasFn K mg "_law_raw_rows" b_ ["deck","book","most"])
  (F34:HasFn K mg "_law_found" eN ["bits","book"])
  (a35:W.nsIn K mainGlobals "law"=some (some (.ref f35))) (l35:K.lookup f35=some ⟨oc35,od35,.func (W.fnOf "law" "law" (cI gw) (bw gw) (af gw) .none kV35 dc35 pm35 an35 cd35 ct35),sl35⟩) (c35:W.codeIn K cd35 "law"=true) (k35:W.keepIn K (.ref f35)=true)
  (z0:W.nsIn K mainGlobals "abs"=some none)
  (z1:W.nsIn K mainGlobals "bool"=some none)
  (z2:W.nsIn K mainGlobals "dict"=some none)
  (z3:W.nsIn K mainGlobals "enumerate"=some none)
  (z4:W.nsIn K mainGlobals "int"=some none)
  (z5:W.nsIn K mainGlobals "isinstance"=some none)
  (z6:W.nsIn K mainGlobals "len"=some none)
  (z7:W.nsIn K mainGlobals "list"=some none)
  (z8:W.nsIn K mainGlobals "max"=some none)
  (z9:W.nsIn K mainGlobals "min"=some none)
  (z10:W.nsIn K mainGlobals "range"=some none)
  (z11:W.nsIn K mainGlobals "sorted"=some none)
  (z12:W.nsIn K mainGlobals "str"=some none)
  (z13:W.nsIn K mainGlobals "sum"=some none)
  (z14:W.nsIn K mainGlobals "tuple"=some none)
  (z15:W.nsIn K mainGlobals "zip"=some none)
  (g0:W.nsIn K mainGlobals "BOXES"=some (some (.ref q0))) (m0:K.lookup q0=some ⟨.type "tuple",qd0,.seq #[.str "a" w0_0,.str "b" w0_1,.str "c" w0_2,.str "d" w0_3,.str "e" w0_4,.str "f" w0_5,.str "g" w0_6,.str "h" w0_7] qn0,qs0⟩)
  (g1:W.nsIn K mainGlobals "HALVES"=some (some (.ref q1))) (m1:K.lookup q1=some ⟨.type "tuple",qd1,.seq #[.int 8 w1_0,.int 128 w1_1,.int 32768 w1_2] qn1,qs1⟩)
  (g2:W.nsIn K mainGlobals "HEADS"=some (some (.ref q2))) (m2:K.lookup q2=some ⟨.type "tuple",qd2,.seq #[.str "0" w2_0,.str "10" w2_1,.str "11" w2_2] qn2,qs2⟩)
  (g3:W.nsIn K mainGlobals "OF_BOXES"=some (some (.int 2 w3_0)))
  (g4:W.nsIn K mainGlobals "OF_CLASSES"=some (some (.int 1 w4_0)))
  (g5:W.nsIn K mainGlobals "OF_WORDS"=some (some (.int 0 w5_0)))
  (g6:W.nsIn K mainGlobals "WIDTHS"=some (some (.ref q6))) (m6:K.lookup q6=some ⟨.type "tuple",qd6,.seq #[.int 4 w6_0,.int 8 w6_1,.int 16 w6_2] qn6,qs6⟩)
  (dg0:W.nsIn K mainGlobals "SHAPES"=some (some (.ref dd0))) (dz0:(dd0 == sysModules)=false) (dl0:K.lookup dd0=some ⟨.type "dict",none,.dict #[⟨dh0_0,.str "put" dt0_0,.ref dp0_0⟩,⟨dh0_1,.str "add" dt0_1,.ref dp0_1⟩,⟨dh0_2,.str "sub" dt0_2,.ref dp0_2⟩,⟨dh0_3,.str "copy" dt0_3,.ref dp0_3⟩,⟨dh0_4,.str "tell" dt0_4,.ref dp0_4⟩,⟨dh0_5,.str "hear" dt0_5,.ref dp0_5⟩,⟨dh0_6,.str "jump" dt0_6,.ref dp0_6⟩,⟨dh0_7,.str "zero" dt0_7,.ref dp0_7⟩,⟨dh0_8,.str "halt" dt0_8,.ref dp0_8⟩] dh0_ep,#[]⟩)
  (dm0_0:K.lookup dp0_0=some ⟨.type "tuple",do0_0,.seq #[.str "box" dw0_0_0,.str "number" dw0_0_1] dn0_0,ds0_0⟩)
  (dm0_1:K.lookup dp0_1=some ⟨.type "tuple",do0_1,.seq #[.str "box" dw0_1_0,.str "box" dw0_1_1] dn0_1,ds0_1⟩)
  (dm0_2:K.lookup dp0_2=some ⟨.type "tuple",do0_2,.seq #[.str "box" dw0_2_0,.str "box" dw0_2_1] dn0_2,ds0_2⟩)
  (dm0_3:K.lookup dp0_3=some ⟨.type "tuple",do0_3,.seq #[.str "box" dw0_3_0,.str "box" dw0_3_1] dn0_3,ds0_3⟩)
  (dm0_4:K.lookup dp0_4=some ⟨.type "tuple",do0_4,.seq #[.str "box" dw0_4_0] dn0_4,ds0_4⟩)
  (dm0_5:K.lookup dp0_5=some ⟨.type "tuple",do0_5,.seq #[.str "box" dw0_5_0] dn0_5,ds0_5⟩)
  (dm0_6:K.lookup dp0_6=some ⟨.type "tuple",do0_6,.seq #[.str "goal" dw0_6_0] dn0_6,ds0_6⟩)
  (dm0_7:K.lookup dp0_7=some ⟨.type "tuple",do0_7,.seq #[.str "box" dw0_7_0,.str "goal" dw0_7_1] dn0_7,ds0_7⟩)
  (dm0_8:K.lookup dp0_8=some ⟨.type "tuple",do0_8,.seq #[] dn0_8,ds0_8⟩)
  (xf0:W.nsIn K mainGlobals "ShortError"=some (some (.ref xd_ShortError)))
  (xf1:W.nsIn K mainGlobals "NoBits"=some (some (.ref xd_NoBits)))
  (xf2:W.excIn K xd_ShortError [.type "ValueError",.type "Exception",.type "BaseException",.type "object"] "ValueError.__new__"=true)
  (xf3:W.findIn K (.ref xd_NoBits) "__getattribute__"=some (some (.builtin "BaseException.__getattribute__")))
  (xf4:W.findIn K (.ref xd_NoBits) "__getattr__"=some none)
  (xf5:W.findIn K (.ref xd_NoBits) "__class__"=some (some (.builtin "object.__class__")))
  (xf6:W.specialIn K (.builtin "object.__class__") "__get__"=some (some (.builtin "getset_descriptor.__get__")))
  (xf7:W.takesIn K (.builtin "object.__class__")=some true)
  (xf8:W.mroIn K xd_NoBits (.type "object")=some true)
  (xf9:W.mroIn K xd_NoBits (.type "BaseException")=some true)
  (xf10:W.mroIn K xd_NoBits (.ref xd_NoBits)=some true)
  (xf11:K.lookup xd_NoBits=some (excClassObj iq_nm iq_qn xd_NoBits iq_N iq_bs (.ref xd_ShortError::sC) true iq_sn iq_sub iq_ab iq_col iq_dd iq_k0 iq_k1 iq_k2 iq_k3 iq_k5 "ValueError.__new__"))
  (xf12:W.findIn K (.ref xd_NoBits) "__init__"=some (some (.ref iq_f)))
  (xf13:W.typeIn K (.ref iq_f)=some (.type "function"))
  (xf14:W.findIn K (.ref xd_NoBits) "__setattr__"=some (some (.builtin "object.__setattr__")))
  (xf15:W.findIn K (.ref xd_NoBits) "place"=some none)
  (xf16:W.keepIn K (.ref xd_NoBits)=true)
  (xf17:W.findCls K (.ref xd_ShortError) (.type "type") "__init__"=some (.val (.builtin "ValueError.__init__")))
  (xf18:W.readsIn K xd_ShortError (.type "type")=true)
  (xf19:W.specialIn K (.ref xd_ShortError) "__getattribute__"=some (some (.builtin "type.__getattribute__")))
  (xf20:K.lookup iq_f=some ⟨iq_oc,iq_od,.func (W.fnOf "__init__" "NoBits.__init__" (cI aN) (bw aN) (af aN) .none iq_kV iq_dc iq_pm iq_an iq_cd iq_ct),iq_sl⟩)
  (xf21:W.codeIn K iq_cd "NoBits.__init__"=true)
  (xf22:W.keepIn K (.ref iq_f)=true)
  (xf23:W.hasDictIn K xd_NoBits=true)
  (le_code_of:cd1=.ref lc_code_of) (lk_code_of:K.lookup lc_code_of=some ⟨lO_code_of,lD_code_of,.fields lv_code_of,lS_code_of⟩) (lw_code_of:lv_code_of[11]?=some (.ref lp_code_of))
  : ∃fd:FuncData,(∀(s:Shared) (v:Value),BindsTo s fd ⟨[v],[]⟩ [("script",v)])/\∀base:Heap,K.In base->base.Ns mainGlobals mg->d2 l.prog w K mg base bf 30 fa fd ["script"] (oO K):=by
 have e:=hfa.symm.trans (KL X G a35);cases e;have T:Txt K mg:=⟨Jm X G z0,Jm X G z1,Jm X G z2,Jm X G z3,Jm X G z4,Jm X G z5,Jm X G z6,Jm X G z7,Jm X G z8,Jm X G z9,Jm X G z10,Jm X G z11,Jm X G z12,Jm X G z13,Jm X G z14,Jm X G z15,⟨q0,KL X G g0,λH=>.inr ⟨_,_,_,m0,rfl,rfl,(by show 8<=sizeLine;decide),(.cons ⟨w0_0,rfl⟩ (.cons ⟨w0_1,rfl⟩ (.cons ⟨w0_2,rfl⟩ (.cons ⟨w0_3,rfl⟩ (.cons ⟨w0_4,rfl⟩ (.cons ⟨w0_5,rfl⟩ (.cons ⟨w0_6,rfl⟩ (.cons ⟨w0_7,rfl⟩ .nil))))))))⟩⟩,⟨q1,KL X G g1,λH=>.inr ⟨_,_,_,m1,rfl,rfl,(by show 3<=sizeLine;decide),(.cons ⟨w1_0,rfl⟩ (.cons ⟨w1_1,rfl⟩ (.cons ⟨w1_2,rfl⟩ .nil)))⟩⟩,⟨q2,KL X G g2,λH=>.inr ⟨_,_,_,m2,rfl,rfl,(by show 3<=sizeLine;decide),(.cons ⟨w2_0,rfl⟩ (.cons ⟨w2_1,rfl⟩ (.cons ⟨w2_2,rfl⟩ .nil)))⟩⟩,⟨_,KL X G g3,⟨_,rfl⟩⟩,⟨_,KL X G g4,⟨_,rfl⟩⟩,⟨_,KL X G g5,⟨_,rfl⟩⟩,⟨q6,KL X G g6,λH=>.inr ⟨_,_,_,m6,rfl,rfl,(by show 3<=sizeLine;decide),(.cons ⟨w6_0,rfl⟩ (.cons ⟨w6_1,rfl⟩ (.cons ⟨w6_2,rfl⟩ .nil)))⟩⟩,⟨dd0,KL X G dg0,dz0,_,_,_,dl0,⟨rfl,rfl,rfl⟩,rfl,(.cons rfl ⟨dp0_0,rfl,⟨_,_,_,dm0_0,rfl,rfl,(by show 2<=sizeLine;decide),(.cons ⟨dw0_0_0,rfl⟩ (.cons ⟨dw0_0_1,rfl⟩ .nil))⟩⟩ (.cons rfl ⟨dp0_1,rfl,⟨_,_,_,dm0_1,rfl,rfl,(by show 2<=sizeLine;decide),(.cons ⟨dw0_1_0,rfl⟩ (.cons ⟨dw0_1_1,rfl⟩ .nil))⟩⟩ (.cons rfl ⟨dp0_2,rfl,⟨_,_,_,dm0_2,rfl,rfl,(by show 2<=sizeLine;decide),(.cons ⟨dw0_2_0,rfl⟩ (.cons ⟨dw0_2_1,rfl⟩ .nil))⟩⟩ (.cons rfl ⟨dp0_3,rfl,⟨_,_,_,dm0_3,rfl,rfl,(by show 2<=sizeLine;decide),(.cons ⟨dw0_3_0,rfl⟩ (.cons ⟨dw0_3_1,rfl⟩ .nil))⟩⟩ (.cons rfl ⟨dp0_4,rfl,⟨_,_,_,dm0_4,rfl,rfl,(by show 1<=sizeLine;decide),(.cons ⟨dw0_4_0,rfl⟩ .nil)⟩⟩ (.cons rfl ⟨dp0_5,rfl,⟨_,_,_,dm0_5,rfl,rfl,(by show 1<=sizeLine;decide),(.cons ⟨dw0_5_0,rfl⟩ .nil)⟩⟩ (.cons rfl ⟨dp0_6,rfl,⟨_,_,_,dm0_6,rfl,rfl,(by show 1<=sizeLine;decide),(.cons ⟨dw0_6_0,rfl⟩ .nil)⟩⟩ (.cons rfl ⟨dp0_7,rfl,⟨_,_,_,dm0_7,rfl,rfl,(by show 2<=sizeLine;decide),(.cons ⟨dw0_7_0,rfl⟩ (.cons ⟨dw0_7_1,rfl⟩ .nil))⟩⟩ (.cons rfl ⟨dp0_8,rfl,⟨_,_,_,dm0_8,rfl,rfl,(by show 0<=sizeLine;decide),.nil⟩⟩ .nil)))))))))⟩,⟨_,_,KL X G xf0,KL X G xf1,⟨xf2⟩,⟨xf3,xf4,xf5,xf6,xf7,xf8,xf9⟩,xf10,⟨_,_,⟨⟨_,_,_,_,_,_,_,_,_,_,_,_,_,_,xf11⟩,⟨xf2⟩,⟨xf3,xf4,xf5,xf6,xf7,xf8,xf9⟩,xf12,xf13,xf14,xf15,xf16,xf17,xf18,xf19⟩,j4 (st:=aN) xf20 xf21 xf22,(j4 (st:=aN) xf20 xf21 xf22).binds (ps:=["self","place"]) (λ_ _ _ _ _ _ us hl=>by obtain⟨_,_,rfl⟩:=Y.CU hl;rfl),xf23⟩⟩,rK.mk' X G (nQ a1 l1 le_code_of lk_code_of lw_code_of)⟩
 have F1:HasFn K mg "code_of" cC ["lengths"]:=fw X G a1 l1 c1 k1 (by walk_at "b1")
 refine⟨W.fnOf "law" "law" (cI gw) (bw gw) (af gw) .none kV35 dc35 pm35 an35 cd35 ct35,λs v=>.of_eq rfl,λbase _ _=>(show d2 l.prog w K mg base bf 9 _ _ ["script"] (oO K) from ?_).mono (by decide)⟩
 have dr:=yZ (P:=l.prog) (w:=w) (base:=base) T F16 (Ci F15);have lb:=xt (P:=l.prog) (w:=w) (base:=base) T F18;have ca:=wc (P:=l.prog) (w:=w) (base:=base) T F10 (x_ T F3);have lc:=wm (P:=l.prog) (w:=w) (base:=base) T F19 lb;have wo:=sy (P:=l.prog) (w:=w) (base:=base) F17;have va:=uN (P:=l.prog) (w:=w) (base:=base) T F27;have lt:=so (P:=l.prog) (w:=w) (base:=base) T F26;have co:=yE (P:=l.prog) (w:=w) (base:=base) T F1 (Cn T F0) (uv T F2);have go:=vq (P:=l.prog) (w:=w) (base:=base) T F4;have ra:=vb T F9 ca (tq T F11 ca (uW T F12 ca) (sv T F13 ca));have wg:=zp (P:=l.prog) (w:=w) (base:=base) T F5;have rx:=Eu (P:=l.prog) (w:=w) (base:=base) T F7 F8 (ye T F6 co) ra go wg;exact CZ T (j4 (st:=gw) l35 c35 k35) (yy T F14) (yT T F21 dr (x6 T F20 dr)) (Bw T F33 lc (uS T F24 wo lb) (Dr T F23 dr (sS T F22 dr)) dr lb) dr (xC T F34 rx) (wu T F31 (sP T F25 lc) (zk T F30 lt (zW T F29 lt va) (A9 T F28 va) wo)) (yC T F32)
theorem walk{l:W.OpenLaw}{loose:List Str}{XP:(Str->Option Value)->Heap->Prop}{YP:World->Heap->Prop}{d:DefRec}{K:Params->W.Frag}(hn:l.most=some 63)(hdf:d.params.defaults=[])
  (hY:∀(w:World) (h:Heap),YP w h->(K w.params).In h)
  (F:∀(w:World) (mg:Str->Option Value) (fa:Addr) (h:Heap),(K w.params).In h->h.Ns mainGlobals mg->mg d.name=some (.ref fa)->∃fd:FuncData,(∀(s:Shared) (u:Value),BindsTo s fd ⟨[u],[]⟩ [("script",u)])/\∀base:Heap,(K w.params).In base->base.Ns mainGlobals mg->d2 l.prog w (K w.params) mg base bf 30 fa fd ["script"] (oO (K w.params))) (hL:∀(w:World) (h:Heap),(K w.params).In h->gR q (K w.params)) :
  W.WalkO q loose XP YP l.row.toRowW d [] (λf vs=>PySem.call f vs):=
 L2.yv (n:=63) (k:=30) (x:="script") (CX:=λ_=>bf) (sp:=λw=>oO (K w.params)) hn (by decide) hdf ⟨rfl,by decide,by decide,rfl⟩ hY F (λ_ _ a ns hl _ hS=>⟨a,ns,rfl,hS,hl,λ_=>rfl⟩) (λ_ _ _ _ _ z=>z) hL
theorem Cf(_:K.In h){la_code_of lc_code_of lp_code_of:Addr}{lo_code_of lO_code_of:Value}{ld_code_of lD_code_of:Option Addr}{lfd_code_of:FuncData}{lv_code_of:Array Value}{ls_code_of lS_code_of:Array (Option Value)}(nt:W.noTabs K=true)
  (ma_by_worth:W.nsIn K mainGlobals "by_worth"=some none)
  (ma_by_weight:W.nsIn K mainGlobals "by_weight"=some none)
  (ma_code_of:W.nsIn K mainGlobals "code_of"=some (some (.ref la_code_of))) (ml_code_of:K.lookup la_code_of=some ⟨lo_code_of,ld_code_of,.func lfd_code_of,ls_code_of⟩) (mc_code_of:lfd_code_of.code=.ref lc_code_of) (mk_code_of:K.lookup lc_code_of=some ⟨lO_code_of,lD_code_of,.fields lv_code_of,lS_code_of⟩) (mw_code_of:lv_code_of[11]?=some (.ref lp_code_of)) (mr_code_of:((recsOf q).find? (λe=>e.name ==("code_of":Str))).isSome=true)
  : gR q K:=gR.of nt (jQ ma_by_worth) (jQ ma_by_weight) (nQ ma_code_of ml_code_of mc_code_of mk_code_of mw_code_of) (by first|exact mn|simp) (.inl rfl) (.inl rfl) (.inr mr_code_of)
end
end G
open PySem PySem.W PyProof.Rows
local macro_rules | `(tactic| walk_at "b0") => `(tactic| (intro _ _ _ _ _ _ us hl; match us, hl with | [], _ => rfl))
local macro_rules | `(tactic| walk_at "b1") => `(tactic| (intro _ _ _ _ _ _ us hl; obtain ⟨_, e⟩ := L2.Y.Cm hl; subst e; rfl))
local macro_rules | `(tactic| walk_at "b2") => `(tactic| (intro _ _ _ _ _ _ us hl; obtain ⟨_, _, e⟩ := L2.Y.CU hl; subst e; rfl))
local macro_rules | `(tactic| walk_at "b3") => `(tactic| (intro _ _ _ _ _ _ us hl; obtain ⟨_, _, _, e⟩ := L2.Y.qB hl; subst e; rfl))
local macro_rules | `(tactic| walk_at "b4") => `(tactic| (intro _ _ _ _ _ _ us hl; obtain ⟨_, _, _, _, e⟩ := L2.Y.Gw hl; subst e; rfl))
set_option maxRecDepth 100000 in
set_option maxHeartbeats 0 in
theorem PySem.Challenge.cw_shortrows_k32_goals_nowhere_holds : PySem.Challenge.rw_shortrows_k32_goals_nowhere.Holds := by
 w_on;o_law;k_head;(case hw=>w_witness2)
 k_fill
 refine G.walk (l:=PySem.Challenge.rw_shortrows_k32_goals_nowhere) rfl rfl (λw h Y=>by first|exact W.kIn_of Y|exact W.km_in_of Y) ?F ?L
 case F =>
  intro w mg fa h KX GN hmg
  refine' G.all_mk KX GN hmg (G.fw KX GN ?a0 ?l0 ?c0 ?k0 (by walk_at "b1")) ?a1 ?l1 ?c1 ?k1 (G.fw KX GN ?a2 ?l2 ?c2 ?k2 (by walk_at "b2")) (G.fw KX GN ?a3 ?l3 ?c3 ?k3 (by walk_at "b3")) (G.fw KX GN ?a4 ?l4 ?c4 ?k4 (by walk_at "b1")) (G.fw KX GN ?a5 ?l5 ?c5 ?k5 (by walk_at "b2")) (G.fw KX GN ?a6 ?l6 ?c6 ?k6 (by walk_at "b1")) (G.fw KX GN ?a7 ?l7 ?c7 ?k7 (by walk_at "b2")) (G.fw KX GN ?a8 ?l8 ?c8 ?k8 (by walk_at "b3")) (G.fw KX GN ?a9 ?l9 ?c9 ?k9 (by walk_at "b3")) (G.fw KX GN ?a10 ?l10 ?c10 ?k10 (by walk_at "b3")) (G.fw KX GN ?a11 ?l11 ?c11 ?k11 (by walk_at "b4")) (G.fw KX GN ?a12 ?l12 ?c12 ?k12 (by walk_at "b3")) (G.fw KX GN ?a13 ?l13 ?c13 ?k13 (by walk_at "b2")) (G.fw KX GN ?a14 ?l14 ?c14 ?k14 (by walk_at "b1")) (G.fw KX GN ?a15 ?l15 ?c15 ?k15 (by walk_at "b2")) (G.fw KX GN ?a16 ?l16 ?c16 ?k16 (by walk_at "b2")) (G.fw KX GN ?a17 ?l17 ?c17 ?k17 (by walk_at "b0")) (G.fw KX GN ?a18 ?l18 ?c18 ?k18 (by walk_at "b2")) (G.fw KX GN ?a19 ?l19 ?c19 ?k19 (by walk_at "b1")) (G.fw KX GN ?a20 ?l20 ?c20 ?k20 (by walk_at "b2")) (G.fw KX GN ?a21 ?l21 ?c21 ?k21 (by walk_at "b1")) (G.fw KX GN ?a22 ?l22 ?c22 ?k22 (by walk_at "b1")) (G.fw KX GN ?a23 ?l23 ?c23 ?k23 (by walk_at "b2")) (G.fw KX GN ?a24 ?l24 ?c24 ?k24 (by walk_at "b2")) (G.fw KX GN ?a25 ?l25 ?c25 ?k25 (by walk_at "b1")) (G.fw KX GN ?a26 ?l26 ?c26 ?k26 (by walk_at "b3")) (G.fw KX GN ?a27 ?l27 ?c27 ?k27 (by walk_at "b1")) (G.fw KX GN ?a28 ?l28 ?c28 ?k28 (by walk_at "b2")) (G.fw KX GN ?a29 ?l29 ?c29 ?k29 (by walk_at "b3")) (G.fw KX GN ?a30 ?l30 ?c30 ?k30 (by walk_at "b3")) (G.fw KX GN ?a31 ?l31 ?c31 ?k31 (by walk_at "b2")) (G.fw KX GN ?a32 ?l32 ?c32 ?k32 (by walk_at "b2")) (G.fw KX GN ?a33 ?l33 ?c33 ?k33 (by walk_at "b3")) (G.fw KX GN ?a34 ?l34 ?c34 ?k34 (by walk_at "b2")) ?a35 ?l35 ?c35 ?k35 ?z0 ?z1 ?z2 ?z3 ?z4 ?z5 ?z6 ?z7 ?z8 ?z9 ?z10 ?z11 ?z12 ?z13 ?z14 ?z15 ?gq0 ?mq0 ?gq1 ?mq1 ?gq2 ?mq2 ?gq3 ?gq4 ?gq5 ?gq6 ?mq6 ?dg0 ?dz0 ?dl0 ?dm0_0 ?dm0_1 ?dm0_2 ?dm0_3 ?dm0_4 ?dm0_5 ?dm0_6 ?dm0_7 ?dm0_8 ?xf0 ?xf1 ?xf2 ?xf3 ?xf4 ?xf5 ?xf6 ?xf7 ?xf8 ?xf9 ?xf10 ?xf11 ?xf12 ?xf13 ?xf14 ?xf15 ?xf16 ?xf17 ?xf18 ?xf19 ?xf20 ?xf21 ?xf22 ?xf23 ?le_code_of ?lk_code_of ?lw_code_of
  (case a0|l0|c0|k0|a1|l1|c1|k1|a2|l2|c2|k2|a3|l3|c3|k3|a4|l4|c4|k4|a5|l5|c5|k5|a6|l6|c6|k6|a7|l7|c7|k7|a8|l8|c8|k8|a9|l9|c9|k9|a10|l10|c10|k10|a11|l11|c11|k11|a12|l12|c12|k12|a13|l13|c13|k13|a14|l14|c14|k14|a15|l15|c15|k15|a16|l16|c16|k16|a17|l17|c17|k17|a18|l18|c18|k18|a19|l19|c19|k19|a20|l20|c20|k20|a21|l21|c21|k21|a22|l22|c22|k22|a23|l23|c23|k23|a24|l24|c24|k24|a25|l25|c25|k25|a26|l26|c26|k26|a27|l27|c27|k27|a28|l28|c28|k28|a29|l29|c29|k29|a30|l30|c30|k30|a31|l31|c31|k31|a32|l32|c32|k32|a33|l33|c33|k33|a34|l34|c34|k34|a35|l35|c35|k35|z0|z1|z2|z3|z4|z5|z6|z7|z8|z9|z10|z11|z12|z13|z14|z15|gq0|mq0|gq1|mq1|gq2|mq2|gq3|gq4|gq5|gq6|mq6|dg0|dl0|dm0_0|dm0_1|dm0_2|dm0_3|dm0_4|dm0_5|dm0_6|dm0_7|dm0_8=>k_is)
  (case dz0=>rfl)
  (case xf0|xf1=>k_is)
  (case xf2=>k_exc)
  (case xf3|xf4|xf5|xf6|xf7|xf8|xf9|xf10|xf11|xf12|xf13|xf14|xf15|xf16|xf17|xf18|xf19|xf20|xf21|xf22|xf23=>k_is)
  (case le_code_of=>exact rfl)
  (case lk_code_of=>k_is)
  (case lw_code_of=>exact rfl)
 case L =>
  intro w h KX
  refine' G.Cf KX (by kernel_rfl) ?ma_by_worth ?ma_by_weight ?ma_code_of ?ml_code_of ?mc_code_of ?mk_code_of ?mw_code_of ?mr_code_of
  (case ma_by_worth|ma_by_weight|ma_code_of|ml_code_of=>k_is)
  (case mc_code_of=>exact rfl)
  (case mk_code_of=>k_is)
  (case mw_code_of=>exact rfl)
  (case mr_code_of=>exact rfl)
end
